/-
  PipeSame.
-/
import Derived.Test.YtlpanhfojeaamaaDoorP16
import Derived.Test.YtlpanhfojeaamaaDoorAbsC
namespace Go.Proofs.YtlpanhfojeaamaaDoor.Abs

theorem awake16 : m8_l16_awake = some true := by decide +kernel

theorem fewReply_m (a : GR05Reply) : ∃ b, m11_r05_FewReply a = some b := by
  unfold m11_r05_FewReply
  by_cases h1 : (100 : Int) < (a.Val.length : Int)
  · exact ⟨false, by rw [if_pos (decide_eq_true h1)]⟩
  rw [if_neg (by rw [decide_eq_true_eq]; exact h1)]
  by_cases h2 : (20 : Int) < (a.List.length : Int)
  · exact ⟨false, by rw [if_pos (decide_eq_true h2)]⟩
  rw [if_neg (by rw [decide_eq_true_eq]; exact h2)]
  unfold m11_r05_FewReply_k1
  obtain ⟨b, hb, _⟩ := iter_inv (f := m11_r05_FewReply_s3 a) (P := fun s => ∃ i : Nat, i ≤ a.List.length ∧ s = (i : Int)) (μ := fun s => a.List.length - s.toNat) (R := fun _ => True)
    (fun s hs => by
      obtain ⟨i, hi, rfl⟩ := hs
      unfold m11_r05_FewReply_s3
      by_cases h0 : i < a.List.length
      · rw [if_pos (by rw [decide_eq_true_eq]; omega), idx_nat, List.getElem?_eq_getElem h0]
        simp only [Option.bind_some]
        by_cases h3 : (100 : Int) < ((a.List[i]).Key.length : Int)
        · exact .inr (.inr ⟨_, by rw [if_pos (decide_eq_true h3)], trivial⟩)
        · rw [if_neg (by rw [decide_eq_true_eq]; exact h3)]
          by_cases h4 : (100 : Int) < ((a.List[i]).Val.length : Int)
          · exact .inr (.inr ⟨_, by rw [if_pos (decide_eq_true h4)], trivial⟩)
          · exact .inl ⟨((i + 1 : Nat) : Int), by rw [if_neg (by rw [decide_eq_true_eq]; exact h4), wI_id (by omega) (by omega)]; rfl, ⟨i + 1, by omega, rfl⟩, by omega⟩
      · exact .inr (.inl ⟨(), by rw [if_neg (by rw [decide_eq_true_eq]; omega)], trivial⟩)) fuel 0 ⟨0, by omega, rfl⟩ (lt_fuel (by omega))
  rw [hb]
  cases b with
  | inl r => exact ⟨r, rfl⟩
  | inr r => exact ⟨true, rfl⟩
theorem few_m (a : GR05Req) : ∃ b, m10_r05_Few a = some b := by
  unfold m10_r05_Few
  split
  · split
    · split
      · exact ⟨_, rfl⟩
      · exact ⟨_, rfl⟩
    · exact ⟨_, rfl⟩
  · exact ⟨_, rfl⟩

def pst (n : Nat) : Int × (BitVec 64) × Int × (List GMsgReq) × (List GMsgReply) := ((n : Int), 0#64, (n : Int), [], (List.range n).map fun (j : Nat) => GMsgReply.mk 8 (j : Int) 0 (j : Int) false [] [])
abbrev ppe (b : Int × (BitVec 64) × Int × (List GMsgReq) × (List GMsgReply)) : GPipePipe := GPipePipe.mk (GSeqsWindow.mk b.1 b.2.1) b.2.2.1 b.2.2.2.1 b.2.2.2.2

abbrev kOf (a0 : Int) : Int := wI ((BitVec.ofInt 64 a0 &&& BitVec.ofInt 64 7).toNat : Int)
theorem kcase (a0 : Int) : ∃ K : Nat, K < 8 ∧ kOf a0 = kOf (K : Int) := by
  have h : (BitVec.ofInt 64 a0 &&& BitVec.ofInt 64 7).toNat < 8 := by
    have : (BitVec.ofInt 64 a0 &&& BitVec.ofInt 64 7).toNat ≤ (BitVec.ofInt 64 7).toNat := by
      rw [BitVec.toNat_and]; exact Nat.and_le_right
    have e : (BitVec.ofInt 64 7).toNat = 7 := by decide
    omega
  refine ⟨_, h, ?_⟩
  show wI ((BitVec.ofInt 64 a0 &&& BitVec.ofInt 64 7).toNat : Int) = _
  generalize (BitVec.ofInt 64 a0 &&& BitVec.ofInt 64 7).toNat = n at h ⊢
  have : ∀ n : Nat, n < 8 → wI (n : Int) = kOf (n : Int) := by decide
  exact this n h

theorem loop16 : ∀ K : Nat, K < 8 → iter (m7_l16_PipeSame_s9 (K : Int)) fuel (0, 0, 0#64, 0, ([] : List GMsgReq), ([] : List GMsgReply)) = some (.inr (pst (K + 1)))
  | 0, _ => by kernel_rfl
  | 1, _ => by kernel_rfl
  | 2, _ => by kernel_rfl
  | 3, _ => by kernel_rfl
  | 4, _ => by kernel_rfl
  | 5, _ => by kernel_rfl
  | 6, _ => by kernel_rfl
  | 7, _ => by kernel_rfl
  | n + 8, h => by omega
theorem sane16 : ∀ K : Nat, K < 8 → m27_pipe_Sane (ppe (pst (K + 1))) = some true
  | 0, _ => by kernel_rfl
  | 1, _ => by kernel_rfl
  | 2, _ => by kernel_rfl
  | 3, _ => by kernel_rfl
  | 4, _ => by kernel_rfl
  | 5, _ => by kernel_rfl
  | 6, _ => by kernel_rfl
  | 7, _ => by kernel_rfl
  | n + 8, h => by omega
theorem past16 : ∀ (K : Nat) (r : GMsgReq), K < 8 → r.Seq = kOf (K : Int) → m13_pipe_Offer_k1 (ppe (pst (K + 1))) r () = some (ppe (pst (K + 1)), GMsgReply.mk 8 (K : Int) 0 (K : Int) false [] [], true, 0)
  | 0, ⟨_, _, _, _, _, _, _, _⟩, _, h => by cases h; kernel_rfl
  | 1, ⟨_, _, _, _, _, _, _, _⟩, _, h => by cases h; kernel_rfl
  | 2, ⟨_, _, _, _, _, _, _, _⟩, _, h => by cases h; kernel_rfl
  | 3, ⟨_, _, _, _, _, _, _, _⟩, _, h => by cases h; kernel_rfl
  | 4, ⟨_, _, _, _, _, _, _, _⟩, _, h => by cases h; kernel_rfl
  | 5, ⟨_, _, _, _, _, _, _, _⟩, _, h => by cases h; kernel_rfl
  | 6, ⟨_, _, _, _, _, _, _, _⟩, _, h => by cases h; kernel_rfl
  | 7, ⟨_, _, _, _, _, _, _, _⟩, _, h => by cases h; kernel_rfl
  | n + 8, _, h, _ => by omega
abbrev zpipe : GPipePipe := GPipePipe.mk (GSeqsWindow.mk 0 (0#64)) 0 ([] : List GMsgReq) ([] : List GMsgReply)
abbrev zreply : GMsgReply := GMsgReply.mk 0 0 0 0 false ([] : List UInt8) ([] : List GApiKV)
theorem answer16 : ∀ (K : Nat) (r : GMsgReply), K < 8 → m16_pipe_Answer (ppe (pst (K + 1))) r = some (zpipe, zreply, 7)
  | 0, r, _ => by kernel_rfl
  | 1, r, _ => by kernel_rfl
  | 2, r, _ => by kernel_rfl
  | 3, r, _ => by kernel_rfl
  | 4, r, _ => by kernel_rfl
  | 5, r, _ => by kernel_rfl
  | 6, r, _ => by kernel_rfl
  | 7, r, _ => by kernel_rfl
  | n + 8, _, h => by omega
theorem kOf8 : ∀ K : Nat, K < 8 → kOf (K : Int) = K := by decide

theorem same_core (K : Nat) (a0 : Int) (a1 : GR05Reply) (a2 : GR05Req) (p : Int × (BitVec 64) × Int × (List GMsgReq) × (List GMsgReply)) (hk : wI ((BitVec.ofInt 64 a0 &&& BitVec.ofInt 64 7).toNat : Int) = (K : Int))
    (hs : m27_pipe_Sane (ppe p) = some true) (hp : ∀ r : GMsgReq, r.Seq = (K : Int) → m13_pipe_Offer_k1 (ppe p) r () = some (ppe p, GMsgReply.mk 8 (K : Int) 0 (K : Int) false [] [], true, 0))
    (ha : ∀ r, m16_pipe_Answer (ppe p) r = some (zpipe, zreply, 7)) : m7_l16_PipeSame_k3 a0 a1 a2 true p = some true := by
  unfold m7_l16_PipeSame_k3 m14_l16_req m17_l16_reply
  rw [hk]
  simp only [Option.bind_some]
  rw [saneRef_m]
  unfold m13_pipe_Offer
  rw [saneReq_m]
  rw [show m27_pipe_Sane _ = some true from hs]
  simp only [Option.bind_some, Bool.not_true, Bool.false_eq_true, if_false]
  have er : rq (GR05Req.mk a2.Kind (K : Int) a2.Token a2.Attempt a2.RO a2.Key a2.Val (GApiRange.mk a2.Rng.Lo a2.Rng.Hi a2.Rng.Open)) = GMsgReq.mk a2.Kind (K : Int) a2.Token a2.Attempt a2.RO a2.Key a2.Val (GApiRange.mk a2.Rng.Lo a2.Rng.Hi a2.Rng.Open) := rfl
  rw [er]
  cases hq : saneReq (GMsgReq.mk a2.Kind (K : Int) a2.Token a2.Attempt a2.RO a2.Key a2.Val (GApiRange.mk a2.Rng.Lo a2.Rng.Hi a2.Rng.Open)) with
  | false => simp only [Bool.not_false, if_true, Option.bind_some, decide_true]
  | true =>
    simp only [Bool.not_true, Bool.false_eq_true, if_false]
    rw [show m13_pipe_Offer_k1 _ _ _ = _ from hp (GMsgReq.mk a2.Kind (K : Int) a2.Token a2.Attempt a2.RO a2.Key a2.Val (GApiRange.mk a2.Rng.Lo a2.Rng.Hi a2.Rng.Open)) rfl]
    simp only [Option.bind_some]
    rw [show m16_pipe_Answer _ _ = _ from ha _]
    simp only [Option.bind_some, decide_true, if_true]
theorem same_k2 (K : Nat) (a0 : Int) (a1 : GR05Reply) (a2 : GR05Req) (p : Int × (BitVec 64) × Int × (List GMsgReq) × (List GMsgReply))
    (hl : iter (m7_l16_PipeSame_s9 a0) fuel (0, 0, 0#64, 0, ([] : List GMsgReq), ([] : List GMsgReply)) = some (.inr p)) (h : m7_l16_PipeSame_k3 a0 a1 a2 true p = some true) : m7_l16_PipeSame_k2 a0 a1 a2 true () = some true := by
  unfold m7_l16_PipeSame_k2
  rw [hl]
  exact h
theorem step_k (a b : Int) (hk : wI ((BitVec.ofInt 64 a &&& BitVec.ofInt 64 7).toNat : Int) = wI ((BitVec.ofInt 64 b &&& BitVec.ofInt 64 7).toNat : Int)) : m7_l16_PipeSame_s9 a = m7_l16_PipeSame_s9 b := by
  funext s
  unfold m7_l16_PipeSame_s9
  rw [hk]
theorem pipeSame_true (a0 : Int) (a1 : GR05Reply) (a2 : GR05Req) : m7_l16_PipeSame a0 a1 a2 = some true := by
  obtain ⟨K, hK, hk⟩ := kcase a0
  unfold m7_l16_PipeSame
  rw [awake16]
  simp only [Option.bind_some]
  obtain ⟨b, hb⟩ := fewReply_m a1
  rw [hb]
  cases b
  · simp only [Option.bind_some, Bool.not_false, if_true]
  simp only [Option.bind_some, Bool.not_true, Bool.false_eq_true, if_false]
  obtain ⟨b, hb⟩ := few_m a2
  rw [hb]
  cases b
  · simp only [Option.bind_some, Bool.not_false, if_true]
  simp only [Option.bind_some, Bool.not_true, Bool.false_eq_true, if_false]
  have hk2 : kOf a0 = (K : Int) := hk.trans (kOf8 K hK)
  refine same_k2 K a0 a1 a2 _ (by rw [step_k a0 K hk]; exact loop16 K hK) ?_
  exact same_core K a0 a1 a2 _ hk2 (sane16 K hK) (fun r hr => past16 K r hK (by rw [kOf8 K hK]; exact hr)) (fun r => answer16 K r hK)
end Go.Proofs.YtlpanhfojeaamaaDoor.Abs
