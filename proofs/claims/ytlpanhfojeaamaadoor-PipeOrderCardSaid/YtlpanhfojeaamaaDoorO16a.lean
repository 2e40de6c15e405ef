/-
  PipeOrder: the pipes that the offers make.
-/
import Derived.Test.YtlpanhfojeaamaaDoorT16
import Derived.Test.YtlpanhfojeaamaaDoorAbsC
namespace Go.Proofs.YtlpanhfojeaamaaDoor.Abs

theorem awake16 : m8_l16_awake = some true := by decide +kernel
instance : DecidableEq GApiKV := fun a b => decidable_of_iff (a.Key = b.Key ∧ a.Val = b.Val) (by cases a; cases b; simp)
instance : DecidableEq GApiRange := fun a b => decidable_of_iff (a.Lo = b.Lo ∧ a.Hi = b.Hi ∧ a.Open = b.Open) (by cases a; cases b; simp)
instance : DecidableEq GMsgReq := fun a b => decidable_of_iff (a.Kind = b.Kind ∧ a.Seq = b.Seq ∧ a.Token = b.Token ∧ a.Attempt = b.Attempt ∧ a.RO = b.RO ∧ a.Key = b.Key ∧ a.Val = b.Val ∧ a.Rng = b.Rng) (by cases a; cases b; simp)
instance : DecidableEq GMsgReply := fun a b => decidable_of_iff (a.Kind = b.Kind ∧ a.Seq = b.Seq ∧ a.Code = b.Code ∧ a.N = b.N ∧ a.Found = b.Found ∧ a.Val = b.Val ∧ a.List = b.List) (by cases a; cases b; simp)
instance : DecidableEq GSeqsWindow := fun a b => decidable_of_iff (a.Base = b.Base ∧ a.Bits = b.Bits) (by cases a; cases b; simp)
instance : DecidableEq GPipePipe := fun a b => decidable_of_iff (a.Win = b.Win ∧ a.Next = b.Next ∧ a.Wait = b.Wait ∧ a.Past = b.Past) (by cases a; cases b; simp)

abbrev rq9 (j : Nat) : GMsgReq := GMsgReq.mk 9 (j : Int) (j : Int) 0 false [] [] (GApiRange.mk [] [] false)
abbrev zreply : GMsgReply := GMsgReply.mk 0 0 0 0 false ([] : List UInt8) ([] : List GApiKV)
def bas (m : Nat) : Nat := ((List.range 9).takeWhile m.testBit).length
def stO (m : Nat) : Int × (BitVec 64) × Int × (List GMsgReq) × (List GMsgReply) := ((bas m : Int), BitVec.ofNat 64 (m >>> bas m), 0, ((List.range 8).filter m.testBit).map rq9, [])
abbrev ppe (b : Int × (BitVec 64) × Int × (List GMsgReq) × (List GMsgReply)) : GPipePipe := GPipePipe.mk (GSeqsWindow.mk b.1 b.2.1) b.2.2.1 b.2.2.2.1 b.2.2.2.2

theorem saneO : ∀ m, m < 256 → m27_pipe_Sane (ppe (stO m)) = some true := by decide +kernel
theorem saneR : ∀ j, j < 8 → m32_msg_SaneReq (rq9 j) = some true := by decide +kernel
def chkO (m j : Nat) : Bool := m.testBit j || decide (m13_pipe_Offer_k1 (ppe (stO m)) (rq9 j) () = some (ppe (stO (m ||| 1 <<< j)), zreply, false, 0))
theorem offO' : ∀ m, m < 256 → ∀ j, j < 8 → chkO m j = true := by decide +kernel
theorem offO (m : Nat) (hm : m < 256) (j : Nat) (hj : j < 8) (h : m.testBit j = false) : m13_pipe_Offer_k1 (ppe (stO m)) (rq9 j) () = some (ppe (stO (m ||| 1 <<< j)), zreply, false, 0) := by
  have := offO' m hm j hj
  unfold chkO at this
  rw [h, Bool.false_or] at this
  exact of_decide_eq_true this
end Go.Proofs.YtlpanhfojeaamaaDoor.Abs
