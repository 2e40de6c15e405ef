/-
  PipeOrder.
-/
import Derived.Test.YtlpanhfojeaamaaDoorO16a
import Derived.Test.YtlpanhfojeaamaaDoorO16b
namespace Go.Proofs.YtlpanhfojeaamaaDoor.Abs

abbrev kO (a0 : Int) : Int := wI (1 + wI ((BitVec.ofInt 64 a0 &&& BitVec.ofInt 64 7).toNat : Int))
theorem kcase (a0 : Int) : ∃ K : Nat, K < 8 ∧ wI ((BitVec.ofInt 64 a0 &&& BitVec.ofInt 64 7).toNat : Int) = wI ((BitVec.ofInt 64 (K : Int) &&& BitVec.ofInt 64 7).toNat : Int) := by
  have h : (BitVec.ofInt 64 a0 &&& BitVec.ofInt 64 7).toNat < 8 := by
    have : (BitVec.ofInt 64 a0 &&& BitVec.ofInt 64 7).toNat ≤ (BitVec.ofInt 64 7).toNat := by
      rw [BitVec.toNat_and]; exact Nat.and_le_right
    have e : (BitVec.ofInt 64 7).toNat = 7 := by decide
    omega
  refine ⟨_, h, ?_⟩
  generalize (BitVec.ofInt 64 a0 &&& BitVec.ofInt 64 7).toNat = n at h
  have : ∀ n : Nat, n < 8 → wI (n : Int) = wI ((BitVec.ofInt 64 (n : Int) &&& BitVec.ofInt 64 7).toNat : Int) := by decide
  exact this n h
theorem kO8 : ∀ K : Nat, K < 8 → kO (K : Int) = ((K + 1 : Nat) : Int) := by decide
theorem fillO : ∀ K : Nat, K < 8 → iterB (m5_l16_PipeOrder_s30 (K : Int)) fuel (0, (List.replicate (K + 1) 0)) = some ((List.range (K + 1)).map fun (j : Nat) => (j : Int)) := by decide +kernel
theorem endO : ∀ K : Nat, K < 8 → m5_l16_PipeOrder_k5 (K : Int) true (stO (2 ^ (K + 1) - 1)) = some true := by decide +kernel

theorem PM.base (k : Nat) : PM k ((List.range k).map fun (j : Nat) => (j : Int)) := by
  refine ⟨by simp, fun i h => ?_, fun i j hi hj he => ?_, fun j hj => ⟨j, by simpa using hj, by simp⟩⟩
  · have : i < k := by simpa using h
    simp only [List.getElem_map, List.getElem_range]; omega
  · simp only [List.getElem_map, List.getElem_range] at he; omega
theorem tm (x : BitVec 64) (k : Nat) (hk : 0 < k) : ∃ a : Nat, a < k ∧ (wI ((x &&& BitVec.ofInt 64 255).toNat : Int)).tmod (k : Int) = (a : Int) := by
  have h : (x &&& BitVec.ofInt 64 255).toNat ≤ 255 := by
    have : (x &&& BitVec.ofInt 64 255).toNat ≤ (BitVec.ofInt 64 255).toNat := by
      rw [BitVec.toNat_and]; exact Nat.and_le_right
    have e : (BitVec.ofInt 64 255).toNat = 255 := by decide
    omega
  refine ⟨(x &&& BitVec.ofInt 64 255).toNat % k, Nat.mod_lt _ hk, ?_⟩
  rw [wI_id (by omega) (by omega), Int.ofNat_tmod]
theorem turnO {K : Nat} {a0 : Int} (hK : K < 8) (hk : kO a0 = ((K + 1 : Nat) : Int)) (a1 : List Int) (h1 : a1.length ≤ 60) (b : List Int) (hb : PM (K + 1) b) : ∃ l, iterB (m5_l16_PipeOrder_s20 a0 a1) fuel (0, b) = some l ∧ PM (K + 1) l := by
  refine iterB_inv (f := m5_l16_PipeOrder_s20 a0 a1) (P := fun s => ∃ i l, i ≤ a1.length ∧ PM (K + 1) l ∧ s = ((i : Int), l)) (μ := fun s => a1.length - s.1.toNat) (R := fun l => PM (K + 1) l) ?_ fuel (0, b) ⟨0, b, Nat.zero_le _, hb, rfl⟩ (lt_fuel (by simp only; omega))
  rintro _ ⟨i, l, hi, hl, rfl⟩
  unfold m5_l16_PipeOrder_s20
  rcases Nat.lt_or_ge i a1.length with hlt | hge
  · left
    rw [show (wI (1 + wI ((BitVec.ofInt 64 a0 &&& BitVec.ofInt 64 7).toNat : Int))) = ((K + 1 : Nat) : Int) from hk]
    rw [if_pos (decide_eq_true (by show (i : Int) < a1.length; omega))]
    dsimp only
    rw [idx_nat, List.getElem?_eq_getElem hlt]
    simp only [Option.bind_some]
    obtain ⟨x, hx, ex⟩ := tm (BitVec.ofInt 64 a1[i]) (K + 1) (by omega)
    obtain ⟨y, hy, ey⟩ := tm (BitVec.ofInt 64 (a1[i].fdiv (2 ^ (min ((8#64).toNat : Int).toNat 64)))) (K + 1) (by omega)
    rw [ex, ey]
    have hx' : x < l.length := by rw [hl.len]; exact hx
    have hy' : y < l.length := by rw [hl.len]; exact hy
    rw [if_pos (by omega), if_pos (by omega), idx_nat, idx_nat, List.getElem?_eq_getElem hx', List.getElem?_eq_getElem hy']
    simp only [Option.bind_some, Int.toNat_natCast]
    rw [idx_nat, List.getElem?_eq_getElem (by rw [List.length_set]; exact hy')]
    simp only [Option.bind_some]
    exact ⟨_, rfl, ⟨i + 1, _, by omega, hl.swap hx' hy', by rw [wI_id (by omega) (by omega)]; rfl⟩, by rw [wI_id (by omega) (by omega)]; show a1.length - ((i : Int) + 1).toNat < a1.length - (i : Int).toNat; omega⟩
  · right
    exact ⟨l, by rw [if_neg (by rw [decide_eq_true_eq]; show ¬ (i : Int) < a1.length; omega)], hl⟩
theorem offerO (m : Nat) (hm : m < 256) (j : Nat) (hj : j < 8) (h : m.testBit j = false) : m13_pipe_Offer (ppe (stO m)) (rq9 j) = some (ppe (stO (m ||| 1 <<< j)), zreply, false, 0) := by
  unfold m13_pipe_Offer
  rw [show m27_pipe_Sane _ = some true from saneO m hm, show m32_msg_SaneReq _ = some true from saneR j hj]
  simp only [Option.bind_some, Bool.not_true, Bool.false_eq_true, if_false]
  exact offO m hm j hj h
theorem loopO {K : Nat} {a0 : Int} (hK : K < 8) (hk : kO a0 = ((K + 1 : Nat) : Int)) (l : List Int) (hl : PM (K + 1) l) : iter (m5_l16_PipeOrder_s14 a0 l) fuel (0, 0, 0#64, 0, ([] : List GMsgReq), ([] : List GMsgReply)) = some (.inr (stO (2 ^ (K + 1) - 1))) := by
  obtain ⟨b, hb, rfl⟩ := iter_inv (f := m5_l16_PipeOrder_s14 a0 l) (P := fun s => ∃ i, i ≤ l.length ∧ s = ((i : Int), stO (msk (l.take i)))) (μ := fun s => l.length - s.1.toNat) (R := fun r => r = .inr (stO (2 ^ (K + 1) - 1))) (by
    rintro _ ⟨i, hi, rfl⟩
    unfold m5_l16_PipeOrder_s14
    have hlen := hl.len
    rw [show (wI (1 + wI ((BitVec.ofInt 64 a0 &&& BitVec.ofInt 64 7).toNat : Int))) = ((K + 1 : Nat) : Int) from hk]
    rcases Nat.lt_or_ge i l.length with hlt | hge
    · left
      rw [if_pos (decide_eq_true (by show (i : Int) < ((K + 1 : Nat) : Int); omega))]
      dsimp only
      rw [idx_nat, List.getElem?_eq_getElem hlt]
      simp only [Option.bind_some]
      have hr := hl.ran i hlt
      have hf := hl.fresh i hlt
      have he : msk (l.take (i + 1)) = msk (l.take i) ||| 1 <<< (l[i]).toNat := by rw [List.take_succ_eq_append_getElem hlt, msk_snoc]
      have hm : msk (l.take i) < 256 := msk_lt _ fun x hx => by
        obtain ⟨j, hj, e⟩ := List.getElem_of_mem (List.mem_of_mem_take hx)
        have := hl.ran j hj
        rw [e] at this
        omega
      obtain ⟨j, ej⟩ : ∃ j : Nat, l[i] = (j : Int) := ⟨(l[i]).toNat, by omega⟩
      rw [ej] at hr hf he ⊢
      rw [Int.toNat_natCast] at hf he
      rw [show m13_pipe_Offer _ _ = _ from offerO (msk (l.take i)) hm j (by omega) hf]
      simp only [Option.bind_some, Bool.false_eq_true, if_false, decide_true, Bool.not_true]
      unfold m5_l16_PipeOrder_k18
      refine ⟨_, rfl, ⟨i + 1, by omega, ?_⟩, ?_⟩
      · rw [he, wI_id (by show (_ : Int) ≤ (i : Int) + 1; omega) (by show (i : Int) + 1 ≤ _; omega)]; rfl
      · show l.length - (wI ((i : Int) + 1)).toNat < l.length - (i : Int).toNat
        rw [wI_id (by omega) (by omega)]; omega
    · right; left
      have : i = l.length := by omega
      subst this
      refine ⟨_, by rw [if_neg (by rw [decide_eq_true_eq]; show ¬ ((l.length : Nat) : Int) < ((K + 1 : Nat) : Int); omega)], ?_⟩
      dsimp only
      rw [List.take_length, hl.full]) fuel (0, 0, 0#64, 0, ([] : List GMsgReq), ([] : List GMsgReply)) ⟨0, Nat.zero_le _, by show _ = ((0 : Int), stO 0); kernel_rfl⟩ (by have := hl.len; exact lt_fuel (by simp only; omega))
  exact hb
theorem pipeOrder_true (a0 : Int) (a1 : List Int) : m5_l16_PipeOrder a0 a1 = some true := by
  obtain ⟨K, hK, hk⟩ := kcase a0
  have hkO : kO a0 = kO (K : Int) := by show wI (1 + _) = wI (1 + _); rw [hk]
  have hk8 : kO a0 = ((K + 1 : Nat) : Int) := hkO.trans (kO8 K hK)
  unfold m5_l16_PipeOrder
  rw [awake16]
  simp only [Option.bind_some]
  by_cases h : (60 : Int) < (a1.length : Int)
  · rw [if_pos (decide_eq_true h)]
  rw [if_neg (by rw [decide_eq_true_eq]; exact h), show (wI (1 + wI ((BitVec.ofInt 64 a0 &&& BitVec.ofInt 64 7).toNat : Int))) = ((K + 1 : Nat) : Int) from hk8, if_pos (by omega), Int.toNat_natCast]
  have e30 : m5_l16_PipeOrder_s30 a0 = m5_l16_PipeOrder_s30 (K : Int) := by
    funext s
    unfold m5_l16_PipeOrder_s30
    rw [hk]
  rw [e30, fillO K hK]
  simp only [Option.bind_some]
  unfold m5_l16_PipeOrder_k3
  obtain ⟨l, hl, hp⟩ := turnO hK hk8 a1 (by omega) _ (PM.base (K + 1))
  rw [hl]
  simp only [Option.bind_some]
  unfold m5_l16_PipeOrder_k4
  rw [loopO hK hk8 l hp]
  have he := endO K hK
  generalize stO (2 ^ (K + 1) - 1) = p at he ⊢
  have e9 : m5_l16_PipeOrder_s9 a0 = m5_l16_PipeOrder_s9 (K : Int) := by
    funext s
    unfold m5_l16_PipeOrder_s9
    rw [hk]
  have e7 : m5_l16_PipeOrder_k7 a0 = m5_l16_PipeOrder_k7 (K : Int) := by
    funext v1 v6 b7
    unfold m5_l16_PipeOrder_k7
    rw [hk]
  have e5 : m5_l16_PipeOrder_k5 a0 true p = m5_l16_PipeOrder_k5 (K : Int) true p := by
    unfold m5_l16_PipeOrder_k5
    rw [e9, e7]
  show m5_l16_PipeOrder_k5 a0 true p = some true
  rw [e5]
  exact he
end Go.Proofs.YtlpanhfojeaamaaDoor.Abs
