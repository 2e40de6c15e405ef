/-
  What the law of replies needs.
-/
import Derived.Test.YtljkjkkpogkgbaaDoorR05hB
namespace Go.Proofs.YtljkjkkpogkgbaaDoor.Abs
theorem rputU {a : List UInt8} {x : Int} (n : Nat) (hn : n ≤ 8) (h : a.length ≤ 1000000) : m36_r01_U a (BitVec.ofInt 64 x) n = some (a ++ eU n x) := by
  rw [rU_m a _ _ h]
  have : (w8 (n : Int)).toNat = n := by unfold w8; split <;> split <;> omega
  rw [this]; rfl
theorem rputL {a x : List UInt8} (h : a.length ≤ 500000) (hx : x.length ≤ 65535) : m42_r01_List a x = some (a ++ ls2 x) := by
  rw [rList_m a x h, Nat.min_eq_right hx, List.take_length, List.append_assoc]; rfl
theorem rputF {a : List UInt8} {b : Bool} (h : a.length ≤ 1000000) : ((m40_r05_bit b).bind fun v => m36_r01_U a v 1) = some (a ++ eF b) := by
  unfold m40_r05_bit
  cases b
  · rw [if_neg (by simp)]; simp only [Option.bind_some]; rw [rU_m a _ _ h]; rfl
  · rw [if_pos rfl]; simp only [Option.bind_some]; rw [rU_m a _ _ h]; rfl
theorem bind2 {α β γ : Type} {x : Option α} {f : α → Option β} {g : β → Option γ} {y : β} (h : x.bind f = some y) : (x.bind fun v => (f v).bind g) = g y := by
  rw [← Option.bind_assoc, h]; rfl
def cl (x : Int) : Int := wI ((if (4611686018427387904#64).toNat < (BitVec.ofInt 64 x).toNat then (4611686018427387904#64) else BitVec.ofInt 64 x).toNat : Int)
def tk (b : Bool) (x : Int) : Int := if b then cl x else x
section
variable {d : List UInt8} {e e' : Int} {p : Nat} {p' : Int} {b : Bool} {β : Type}
theorem optT (hp : p ≤ d.length) (hd : d.length ≤ 100000000) {x : Int} (h : RO b 0 (RU 8) e p d = some (x, e', p')) (F : Int × Int × Int → Option β) :
    (if b = true then (m54_r05_numbers d p e).bind fun v => F (v.2.1, v.2.2, v.1) else F (p, e, 0)) = F (p', e', tk b x) := by
  unfold RO RU at h
  cases b with
  | false =>
    simp only [Bool.false_eq_true, if_false, Option.some.injEq, Prod.mk.injEq] at h ⊢
    obtain ⟨rfl, rfl, rfl⟩ := h
    rfl
  | true =>
    simp only [if_true] at h ⊢
    unfold m54_r05_numbers
    rw [show (8 : Int) = ((8 : Nat) : Int) from rfl, rU_eq (by decide) (by decide) e p d hp hd]
    cases hm : m46_enc_Reader_Us (8 : Nat) e p d with
    | none => rw [hm] at h; cases h
    | some w =>
      rw [hm] at h
      simp only [Option.bind_some, Option.some.injEq, Prod.mk.injEq] at h ⊢
      obtain ⟨rfl, rfl, rfl⟩ := h
      simp only [tk, cl, ofInt_wI, if_true]
end
end Go.Proofs.YtljkjkkpogkgbaaDoor.Abs
