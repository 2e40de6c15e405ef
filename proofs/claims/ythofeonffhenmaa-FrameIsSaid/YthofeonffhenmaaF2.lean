/-
  The statements on frames.
-/
import Derived.Test.YthofeonffhenmaaF1
namespace Go.Proofs.Ythofeonffhenmaa.Abs

theorem awake03 : m7_l03_awake = some true := by
  have hP : m8_frame_Put [] [] = some ([] ++ fr [], 0) := Put_m [] [] (by decide) (by decide)
  have hR : m10_frame_Read ([] ++ fr []) 0 = some ([], 6, 0) := by
    rw [Read_m _ _ (by rw [List.length_append, fr_len]; simp), show (0 : Int) = ((0 : Nat) : Int) from rfl, rdS_at _ _ (Nat.zero_le _)]
    have h := opn_fr [] [] (by decide)
    rw [List.append_nil] at h
    rw [List.drop_zero, List.nil_append, h]
    rfl
  have hS : m10_frame_Read [(UInt8.ofBitVec (1#8))] 0 = some ([], 0, 2) := by
    rw [Read_m _ _ (by decide)]
    rfl
  unfold m7_l03_awake
  rw [hP]
  simp only [Option.bind_some]
  rw [hR, hS]
  simp only [Option.bind_some]
  have h6 : ((([] ++ fr []).length : Nat) : Int) = 6 := by rw [List.length_append, fr_len]; rfl
  rw [h6]
  rfl

theorem frameIs_true (a0 : List UInt8) (a1 : Int) (a2 : List UInt8) : m3_l03_FrameIs a0 a1 a2 = some true := by
  unfold m3_l03_FrameIs
  rw [awake03]
  simp only [Option.bind_some]
  by_cases h1 : (2000 : Int) < a0.length
  · rw [if_pos (decide_eq_true h1)]
  rw [if_neg (by rw [decide_eq_true_eq]; exact h1)]
  by_cases h2 : (2000 : Int) < a2.length
  · rw [if_pos (decide_eq_true h2)]
  rw [if_neg (by rw [decide_eq_true_eq]; exact h2)]
  unfold m3_l03_FrameIs_k2
  have hput : ∃ x, m8_frame_Put a0 a2 = some x ∧ m9_r03_Put a0 a2 = some x := by
    rcases Nat.lt_or_ge 512 a2.length with h | h
    · exact ⟨_, Put_long _ _ h, rPut_long _ _ h⟩
    · exact ⟨_, Put_m _ _ (by omega) h, rPut_m _ _ (by omega) h⟩
  obtain ⟨x, hx, hx'⟩ := hput
  obtain ⟨l, r, e, ha⟩ := allS_ex a0 (by omega)
  rw [hx, hx', Read_m _ _ (by omega), rRead_m _ _ (by omega), All_m (by omega) ha, rAll_m (by omega) ha]
  simp only [Option.bind_some]
  have hll : l.length ≤ 1000000000 := by
    have h := congrArg List.length ha.1
    have : l.length ≤ (l.flatMap fr).length := by
      clear h ha
      induction l with
      | nil => simp
      | cons p l ih => rw [List.flatMap_cons, List.length_append, fr_len, List.length_cons]; omega
    rw [List.length_append] at h
    omega
  rw [Lists_m _ _ hll]
  have hL : m15_frame_Len a2 = m16_r03_Len a2 := rfl
  obtain ⟨z, hz⟩ : ∃ z, m16_r03_Len a2 = some z := by
    unfold m16_r03_Len
    split <;> exact ⟨_, rfl⟩
  rw [hL, hz]
  simp

theorem frs_len (l : List (List UInt8)) : l.length ≤ (l.flatMap fr).length := by
  induction l with
  | nil => simp
  | cons p l ih => rw [List.flatMap_cons, List.length_append, fr_len, List.length_cons]; omega

theorem frameOne_true (a0 : List UInt8) (a1 : Int) (a2 a3 : List UInt8) : m5_l03_FrameOne a0 a1 a2 a3 = some true := by
  unfold m5_l03_FrameOne
  rw [awake03]
  simp only [Option.bind_some]
  by_cases h1 : (2000 : Int) < a0.length
  · rw [if_pos (decide_eq_true h1)]
  rw [if_neg (by rw [decide_eq_true_eq]; exact h1)]
  by_cases h2 : (512 : Int) < a2.length
  · rw [if_pos (decide_eq_true h2)]
  rw [if_neg (by rw [decide_eq_true_eq]; exact h2)]
  by_cases h3 : (512 : Int) < a3.length
  · rw [if_pos (decide_eq_true h3)]
  rw [if_neg (by rw [decide_eq_true_eq]; exact h3)]
  unfold m5_l03_FrameOne_k2
  rw [Put_m _ _ (by simp) (by omega), Put_m _ _ (by simp) (by omega)]
  simp only [Option.bind_some, List.nil_append]
  have heq : (fr a2 == fr a3) = (a2 == a3) := by
    by_cases h : a2 = a3
    · rw [h]; simp
    · have : fr a2 ≠ fr a3 := fun hc => h (fr_inj (by omega) (by omega) hc)
      rw [beq_eq_false_iff_ne.2 h, beq_eq_false_iff_ne.2 this]
  rw [if_neg (by simp), if_neg (by simp), heq, if_neg (by simp), if_neg (by rw [decide_eq_true_eq, fr_len]; omega)]
  unfold m5_l03_FrameOne_k5
  rw [Read_m _ _ (by omega)]
  simp only [Option.bind_some]
  unfold rdS
  by_cases h4 : a1 < 0 ∨ (a0.length : Int) < a1
  · rw [if_pos h4]
    rfl
  rw [if_neg h4]
  by_cases h5 : (opn (a0.drop a1.toNat)).1 = 0
  · have h6 := opn_back (b := a0.drop a1.toNat) (p := (opn (a0.drop a1.toNat)).2) (Prod.ext h5 rfl)
    have h7 := opn_len h5
    rw [if_pos h5]
    generalize (opn (a0.drop a1.toNat)).2 = p at h6 h7
    dsimp only
    have hdl : (a0.drop a1.toNat).length = a0.length - a1.toNat := List.length_drop
    rw [if_neg (by simp), Put_m _ _ (by simp) h6.1]
    simp only [Option.bind_some, List.nil_append]
    rw [if_pos trivial, if_pos (by simp), if_pos (decide_eq_true (by omega)), if_pos (decide_eq_true (by omega)), cut_of (by omega) (by omega) (by omega)]
    simp only [Option.bind_some]
    have hc : (a0.drop a1.toNat).take ((a1 + 6 + (p.length : Int)).toNat - a1.toNat) = fr p := by
      rw [show (a1 + 6 + (p.length : Int)).toNat - a1.toNat = 6 + p.length from by omega]
      rw [h6.2, take_app (by rw [fr_len]; exact Nat.le_refl _), List.take_of_length_le (by rw [fr_len]; exact Nat.le_refl _)]
    rw [hc, if_pos (by simp), Len_m _ h6.1]
    simp only [Option.bind_some]
    rw [wI_id (by omega) (by omega), decide_eq_true (by omega)]
  · rw [if_neg h5]
    dsimp only
    rw [if_pos (by simpa using h5)]
    rfl

theorem allS_app {b c r r' : List UInt8} {l l' : List (List UInt8)} {e e' : Int} (h : AllS b l r e) (h' : AllS (r ++ c) l' r' e') : AllS (b ++ c) (l ++ l') r' e' :=
  ⟨by rw [h.1, List.append_assoc, h'.1, List.flatMap_append, List.append_assoc], fun p hp => (List.mem_append.1 hp).elim (h.2.1 p) (h'.2.1 p), h'.2.2⟩

theorem frameMore_true (a0 a1 : List UInt8) : m6_l03_FrameMore a0 a1 = some true := by
  unfold m6_l03_FrameMore
  rw [awake03]
  simp only [Option.bind_some]
  by_cases h1 : (1000 : Int) < a0.length
  · rw [if_pos (decide_eq_true h1)]
  rw [if_neg (by rw [decide_eq_true_eq]; exact h1)]
  by_cases h2 : (1000 : Int) < a1.length
  · rw [if_pos (decide_eq_true h2)]
  rw [if_neg (by rw [decide_eq_true_eq]; exact h2)]
  unfold m6_l03_FrameMore_k2
  obtain ⟨l, r, e, ha⟩ := allS_ex a0 (by omega)
  obtain ⟨l', r', e', hc⟩ := allS_ex a1 (by omega)
  have hl0 : ((l.flatMap fr).length ≤ a0.length) := by have h := congrArg List.length ha.1; rw [List.length_append] at h; omega
  have hl1 : ((l'.flatMap fr).length ≤ a1.length) := by have h := congrArg List.length hc.1; rw [List.length_append] at h; omega
  have hm := frs_len l
  have hm' := frs_len l'
  rw [Allo_m (by omega) ha, All_m (by omega) hc]
  simp only [Option.bind_some, List.nil_append]
  rw [if_pos (by simp; omega), if_pos (by omega)]
  rcases ha.2.2 with ⟨hr, he⟩ | ⟨hr, he, ho⟩
  · subst hr he
    have hb := allS_app ha (c := a1) (r' := r') (e' := e') (l' := l') (by simpa using hc)
    rw [All_m (by rw [List.length_append]; omega) hb]
    simp only [Option.bind_some]
    have hlen : (l.flatMap fr).length = a0.length := by have h := congrArg List.length ha.1; simpa using h.symm
    have hln : (l ++ l').length ≤ 1000000000 := by rw [List.length_append]; omega
    rw [if_neg (by simp), if_pos (by omega), if_pos trivial, if_pos (decide_eq_true (by omega)), if_pos (decide_eq_true (by rw [List.flatMap_append, List.length_append, wI_id (by omega) (by omega)]; omega)), if_pos (by simp), Lists_m _ _ hln]
    simp
  · obtain ⟨l2, r2, e2, h3⟩ := allS_ex (r ++ a1) (by have h := congrArg List.length ha.1; rw [List.length_append] at h ⊢; omega)
    rw [All_m (by rw [List.length_append]; omega) (allS_app ha h3)]
    simp only [Option.bind_some]
    rw [if_pos (by simpa using he), if_pos trivial, decide_eq_true (by rw [List.length_append]; omega)]

theorem frs_snoc_take (l : List (List UInt8)) (p : List UInt8) (hp : p.length ≤ 512) (hl : ∀ q ∈ l, q.length ≤ 512) : AllS (((l ++ [p]).flatMap fr).take (((l ++ [p]).flatMap fr).length - 1)) l ((fr p).take (5 + p.length)) 2 := by
  refine ⟨?_, hl, .inr ⟨fun hc => ?_, by decide, opn_short hp (by omega)⟩⟩
  · rw [flat_snoc, List.length_append, List.take_append, List.take_of_length_le (by rw [fr_len]; omega)]
    congr 2
    rw [fr_len]
    omega
  · have := congrArg List.length hc
    rw [List.length_take, fr_len] at this
    simp only [List.length_nil] at this
    omega

theorem frameBack_true (a0 : List (List UInt8)) : m4_l03_FrameBack a0 = some true := by
  unfold m4_l03_FrameBack
  rw [awake03]
  simp only [Option.bind_some]
  obtain ⟨x, hx, hfew⟩ := Few_m a0 600
  rw [hx]
  simp only [Option.bind_some]
  cases x with
  | false => rfl
  | true =>
  obtain ⟨hl0, hp0⟩ := hfew rfl
  rw [if_neg (by simp)]
  obtain ⟨x, hx, hm⟩ := iter_inv (f := m4_l03_FrameBack_s13 a0) (P := fun s => ∃ (i : Nat) (l : List (List UInt8)), i ≤ a0.length ∧ s = (l.flatMap fr, (i : Int), l) ∧ (∀ p ∈ l, p.length ≤ 512) ∧ l.length ≤ i ∧ (l.flatMap fr).length ≤ i * 518) (μ := fun s => a0.length - s.2.1.toNat)
    (R := fun x => match x with | .inl y => False | .inr y => ∃ l : List (List UInt8), y = (l.flatMap fr, l) ∧ (∀ p ∈ l, p.length ≤ 512) ∧ l.length ≤ 20 ∧ (l.flatMap fr).length ≤ 20 * 518) (by
    rintro _ ⟨i, l, hi, rfl, hl, hll, hfl⟩
    unfold m4_l03_FrameBack_s13
    dsimp only
    rcases Nat.lt_or_ge i a0.length with hlt | hge
    · left
      have hg := List.getElem?_eq_getElem hlt
      have hi20 : i * 518 ≤ 20 * 518 := Nat.mul_le_mul_right _ (by omega)
      rw [if_pos (decide_eq_true (by omega)), idx_nat, hg]
      simp only [Option.bind_some]
      by_cases hp : a0[i].length ≤ 512
      · rw [Put_m _ _ (by omega) hp]
        simp only [Option.bind_some]
        rw [if_neg (by simp; omega), if_pos (by simp), Len_m _ hp]
        simp only [Option.bind_some]
        rw [wI_id (by omega) (by omega), if_neg (by simp [fr_len])]
        unfold m4_l03_FrameBack_k16
        dsimp only
        rw [if_pos (by simp), idx_nat, hg]
        simp only [Option.bind_some]
        rw [if_pos (by simp only [List.length_cons, List.length_nil]; omega), wI_id (by omega) (by omega)]
        refine ⟨_, rfl, ⟨i + 1, l ++ [a0[i]], hlt, by rw [flat_snoc]; rfl, fun q hq => ?_, by rw [List.length_append]; simp only [List.length_cons, List.length_nil]; omega, by rw [flat_snoc, List.length_append, fr_len]; omega⟩, by show a0.length - ((i : Int) + 1).toNat < a0.length - (i : Int).toNat; omega⟩
        rcases List.mem_append.1 hq with h | h
        · exact hl q h
        · rw [List.mem_singleton.1 h]; exact hp
      · rw [Put_long _ _ (by omega)]
        simp only [Option.bind_some]
        rw [if_neg (by simp; omega), if_neg (by simp)]
        unfold m4_l03_FrameBack_k16
        dsimp only
        rw [if_neg (by simp), wI_id (by omega) (by omega)]
        exact ⟨_, rfl, ⟨i + 1, l, hlt, rfl, hl, by omega, Nat.le_trans hfl (Nat.mul_le_mul_right _ (Nat.le_succ i))⟩, by show a0.length - ((i : Int) + 1).toNat < a0.length - (i : Int).toNat; omega⟩
    · right; left
      rw [if_neg (by rw [decide_eq_true_eq]; omega)]
      exact ⟨_, rfl, l, rfl, hl, by omega, Nat.le_trans hfl (Nat.mul_le_mul_right _ (by omega))⟩) fuel ([], 0, []) ⟨0, [], Nat.zero_le _, rfl, by simp, Nat.zero_le _, by simp⟩ (lt_fuel (by show a0.length - 0 ≤ _; omega))
  rw [hx]
  simp only [Option.bind_some]
  cases x with
  | inl y => exact hm.elim
  | inr y =>
  obtain ⟨l, rfl, hl, hll, hfl⟩ := hm
  show m4_l03_FrameBack_k3 true (l.flatMap fr, l) = some true
  unfold m4_l03_FrameBack_k3
  dsimp only
  have hA : AllS (l.flatMap fr) l [] 0 := ⟨by simp, hl, .inl ⟨rfl, rfl⟩⟩
  rw [All_m (by omega) hA]
  simp only [Option.bind_some]
  rw [if_neg (by simp), if_neg (by simp), Lists_m _ _ (by omega)]
  simp only [Option.bind_some]
  rw [if_neg (by simp)]
  unfold m4_l03_FrameBack_k5
  dsimp only
  rcases List.eq_nil_or_concat l with rfl | ⟨l, p, rfl⟩
  · rfl
  rw [List.concat_eq_append] at *
  have hp : p.length ≤ 512 := hl p (by simp)
  have hlen : ((l ++ [p]).flatMap fr).length = (l.flatMap fr).length + (6 + p.length) := by rw [flat_snoc, List.length_append, fr_len]
  have hll1 : (l ++ [p]).length = l.length + 1 := by simp
  rw [if_neg (by rw [decide_eq_true_eq]; omega), wI_id (by omega) (by omega), cut_of (by omega) (by omega) (by omega)]
  simp only [Option.bind_some]
  have e1 : (((l ++ [p]).flatMap fr).drop (0 : Int).toNat).take (((((l ++ [p]).flatMap fr).length : Int) - 1).toNat - (0 : Int).toNat) = ((l ++ [p]).flatMap fr).take (((l ++ [p]).flatMap fr).length - 1) := by
    rw [show ((((l ++ [p]).flatMap fr).length : Int) - 1).toNat - (0 : Int).toNat = ((l ++ [p]).flatMap fr).length - 1 from by omega]
    rfl
  rw [e1, All_m (by rw [List.length_take]; omega) (frs_snoc_take l p hp (fun q hq => hl q (by simp [hq])))]
  simp only [Option.bind_some]
  rw [if_pos trivial, if_pos (by simp), wI_id (by omega) (by omega), show ((l ++ [p]).length : Int) - 1 = ((l.length : Nat) : Int) from by omega, idx_nat]
  rw [List.getElem?_append_right (Nat.le_refl _), Nat.sub_self]
  simp only [List.getElem?_cons_zero, Option.bind_some]
  rw [Len_m _ hp]
  simp only [Option.bind_some]
  rw [wI_id (by omega) (by omega), if_pos (decide_eq_true (by omega)), cut_of (by omega) (by omega) (by omega)]
  simp only [Option.bind_some]
  have e2 : ((l ++ [p]).drop (0 : Int).toNat).take (((l.length : Nat) : Int).toNat - (0 : Int).toNat) = l := by simp
  rw [e2, Lists_m _ _ (by omega)]
  simp
end Go.Proofs.Ythofeonffhenmaa.Abs
