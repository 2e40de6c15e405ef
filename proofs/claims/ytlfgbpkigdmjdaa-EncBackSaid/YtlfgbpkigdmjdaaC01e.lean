/-
  The statement of what is read again.
-/
import Derived.Test.YtlfgbpkigdmjdaaC01d
namespace Go.Proofs.Ytlfgbpkigdmjdaa.Abs

/-- On a row that was cut short a reader is where it should be, or has found the end. -/
theorem U_cut {W p : Nat} {d : List UInt8} (h1 : 1 ≤ W) (h8 : W ≤ 8) (hd : d.length ≤ 100000000) (e : Int) (q : Nat) (hq : q ≤ d.length) (hs : (e = 0 ∧ q = p) ∨ e = 2) :
    ∃ v e' q', m16_enc_Reader_Us W e q d = some (v, e', ((q' : Nat) : Int)) ∧ q' ≤ d.length ∧ ((e' = 0 ∧ q' = p + W) ∨ e' = 2) := by
  rcases hs with ⟨rfl, rfl⟩ | rfl
  · by_cases hl : q + W ≤ d.length
    · exact ⟨_, _, _, U_read W q d h1 h8 hl hd, hl, .inl ⟨rfl, rfl⟩⟩
    · refine ⟨0#64, 2, q, ?_, hq, .inr rfl⟩
      unfold m16_enc_Reader_Us m24_enc_Reader_Errs
      simp only [Option.bind_some]
      rw [if_neg (by simp), if_neg (by rw [decide_eq_true_eq]; omega), if_neg (by rw [decide_eq_true_eq]; omega)]
      unfold m16_enc_Reader_Us_k2
      rw [take_short _ _ _ hq (by omega) hd]
      rfl
  · obtain ⟨v, e', q', hu, hq', hk, _⟩ := U_any W 2 q d hq hd
    obtain ⟨_, he, _⟩ := hk (by decide)
    exact ⟨v, e', q', hu, hq', .inr he⟩
theorem List_cut {u : List UInt8} {p m : Nat} {d c : List UInt8} (hu : u.length ≤ 300) (hc : d = c ++ ls2 u ++ d.drop (p + (ls2 u).length)) (hp : c.length = p) (hl : d.length ≤ 100000000) (e : Int) (q : Nat) (hq : q ≤ (d.take m).length) (hs : (e = 0 ∧ q = p) ∨ e = 2) :
    ∃ v e' q', m18_enc_Reader_Lists 300 e q (d.take m) = some (v, e', ((q' : Nat) : Int)) ∧ q' ≤ (d.take m).length ∧ ((e' = 0 ∧ q' = p + (ls2 u).length) ∨ e' = 2) := by
  have hll : (ls2 u).length = 2 + u.length := by simp [ls2, le8_len]
  have hlm : (d.take m).length ≤ 100000000 := by rw [List.length_take]; omega
  have hmm : (d.take m).length ≤ m := by rw [List.length_take]; omega
  rcases hs with ⟨rfl, rfl⟩ | rfl
  · unfold m18_enc_Reader_Lists
    by_cases hl2 : q + 2 ≤ (d.take m).length
    · have h1 : ((d.take m).drop q).take 2 = le8 (BitVec.ofNat 64 u.length) 2 := by
        rw [take_mid (by omega)]
        have := mid (a := c) (b := le8 (BitVec.ofNat 64 u.length) 2) (c := u ++ d.drop (q + (ls2 u).length)) (d := d) (hc.trans (by simp [ls2]))
        rwa [hp, le8_len] at this
      unfold m24_enc_Reader_Errs
      rw [show (2 : Int) = ((2 : Nat) : Int) from rfl, U_read 2 q _ (by decide) (by decide) hl2 hlm, h1]
      simp only [Option.bind_some]
      have hv : (vn (le8 (BitVec.ofNat 64 u.length) 2) 2).toNat = u.length := by
        rw [vn_le8 _ _ (by decide), BitVec.toNat_ofNat, Nat.mod_eq_of_lt (show u.length < 2 ^ 64 by omega)]
        exact Nat.mod_eq_of_lt (by show u.length < 65536; omega)
      rw [if_neg (by simp), hv, wI_id (by omega) (by omega), if_neg (by rw [decide_eq_true_eq]; omega)]
      by_cases hl3 : q + 2 + u.length ≤ (d.take m).length
      · rw [take_m u.length (q + 2) _ hl3 hlm]
        simp only [Option.bind_some]
        rw [m33_slices_Cloneo_m _ (by rw [List.length_take]; omega)]
        exact ⟨_, _, q + 2 + u.length, rfl, hl3, .inl ⟨rfl, by omega⟩⟩
      · rw [take_short _ _ _ hl2 (by omega) hlm]
        simp only [Option.bind_some]
        rw [m33_slices_Cloneo_m _ (by simp)]
        exact ⟨_, _, q + 2, rfl, hl2, .inr rfl⟩
    · have hshort : m16_enc_Reader_Us 2 0 q (d.take m) = some (0#64, 2, (q : Int)) := by
        unfold m16_enc_Reader_Us m24_enc_Reader_Errs
        simp only [Option.bind_some]
        rw [if_neg (by simp), if_neg (by decide), if_neg (by decide)]
        unfold m16_enc_Reader_Us_k2
        rw [take_short _ _ _ hq (by omega) hlm]
        rfl
      unfold m24_enc_Reader_Errs
      rw [hshort]
      simp only [Option.bind_some]
      rw [if_pos (by simp)]
      exact ⟨_, _, q, rfl, hq, .inr rfl⟩
  · obtain ⟨v, e', q', hu', hq', hk⟩ := List_any 300 2 q (d.take m) hq hlm
    exact ⟨v, e', q', hu', hq', .inr (hk (by decide)).2.1⟩

theorem mask_m (v : BitVec 64) (n : Nat) (hn : n < 64) : (v &&& ((1#64 <<< n) - 1#64)).toNat = v.toNat % 2 ^ n := by
  have hp : (2 : Nat) ^ n < 2 ^ 64 := Nat.pow_lt_pow_right (by decide) hn
  have hpos : 0 < (2 : Nat) ^ n := Nat.pow_pos (by decide)
  have e : ((1#64 <<< n) - 1#64).toNat = 2 ^ n - 1 := by
    rw [BitVec.toNat_sub, BitVec.toNat_shiftLeft, Nat.shiftLeft_eq]
    show (2 ^ 64 - 1 + (1 * 2 ^ n) % 2 ^ 64) % 2 ^ 64 = 2 ^ n - 1
    rw [Nat.one_mul, Nat.mod_eq_of_lt hp]
    omega
  rw [BitVec.toNat_and, e, Nat.and_two_pow_sub_one_eq_mod]
theorem w_m (a : Int) : ∃ W : Nat, 1 ≤ W ∧ W ≤ 8 ∧ wI (1 + wI ((BitVec.ofInt 64 a &&& BitVec.ofInt 64 7).toNat : Int)) = (W : Int) := by
  have h : (BitVec.ofInt 64 a &&& BitVec.ofInt 64 7).toNat ≤ 7 := by
    rw [BitVec.toNat_and]
    exact Nat.le_trans Nat.and_le_right (by decide)
  refine ⟨1 + (BitVec.ofInt 64 a &&& BitVec.ofInt 64 7).toNat, by omega, by omega, ?_⟩
  rw [wI_id (n := ((BitVec.ofInt 64 a &&& BitVec.ofInt 64 7).toNat : Int)) (by omega) (by omega), wI_id (by omega) (by omega)]
  omega

theorem encBack_true (a0 : List (BitVec 64)) (a1 : Int) (a2 : List (List UInt8)) : m5_l01_EncBack a0 a1 a2 = some true := by
  unfold m5_l01_EncBack
  rw [awake01]
  simp only [Option.bind_some]
  by_cases h1 : (40 : Int) < a0.length
  · rw [if_pos (decide_eq_true h1)]
  rw [if_neg (by rw [decide_eq_true_eq]; exact h1)]
  by_cases h2 : (20 : Int) < a2.length
  · rw [if_pos (decide_eq_true h2)]
  rw [if_neg (by rw [decide_eq_true_eq]; exact h2)]
  obtain ⟨W, hW1, hW8, hW⟩ := w_m a1
  have hw8 : (w8 (W : Int)).toNat = W := by
    unfold w8
    split <;> split <;> omega
  unfold m5_l01_EncBack_k2
  obtain ⟨b, hb, rfl⟩ := iterB_inv (f := m5_l01_EncBack_s35 a0 a1) (P := fun s => ∃ i : Nat, i ≤ a0.length ∧ s = (en1 W (a0.take i), (i : Int))) (μ := fun s => a0.length - s.2.toNat) (R := fun b => b = en1 W a0) (by
    rintro _ ⟨i, hi, rfl⟩
    unfold m5_l01_EncBack_s35
    dsimp only
    rcases Nat.lt_or_ge i a0.length with hlt | hge
    · left
      have hl : (en1 W (a0.take i)).length ≤ 1000000 := by
        rw [en1_len, List.length_take]
        have : min i a0.length * W ≤ 40 * 8 := Nat.mul_le_mul (by omega) hW8
        omega
      rw [if_pos (decide_eq_true (by omega)), idx_nat, List.getElem?_eq_getElem hlt]
      simp only [Option.bind_some]
      rw [hW, U_m _ _ _ hl, hw8, ← en1_take W a0 hlt]
      exact ⟨_, rfl, ⟨i + 1, hlt, by rw [wI_id (by omega) (by omega)]; rfl⟩, by rw [wI_id (by omega) (by omega)]; omega⟩
    · right
      have e : i = a0.length := by omega
      subst e
      rw [if_neg (by rw [decide_eq_true_eq]; exact Int.lt_irrefl _), List.take_length]
      exact ⟨_, rfl, rfl⟩) fuel (([] : List UInt8), 0) ⟨0, Nat.zero_le _, by simp [en1]⟩ (lt_fuel (by show a0.length - 0 ≤ _; omega))
  rw [hb]
  simp only [Option.bind_some]
  have hE1 : (en1 W a0).length = a0.length * W := en1_len W a0
  have hE1b : a0.length * W ≤ 320 := Nat.mul_le_mul (show a0.length ≤ 40 by omega) hW8
  unfold m5_l01_EncBack_k3
  obtain ⟨v, hv, hr⟩ := iter_inv (f := m5_l01_EncBack_s30 a2 true) (P := fun s => ∃ i : Nat, i ≤ a2.length ∧ s = (en1 W a0 ++ en2 (a2.take i), (i : Int)) ∧ (en2 (a2.take i)).length ≤ i * 302 ∧ ∀ j y, j < i → a2[j]? = some y → y.length ≤ 300) (μ := fun s => a2.length - s.2.toNat)
    (R := fun v => match v with | .inl r => r = true | .inr b => b = en1 W a0 ++ en2 a2 ∧ (en2 a2).length ≤ 20 * 302 ∧ ∀ u ∈ a2, u.length ≤ 300) (by
    rintro _ ⟨i, hi, rfl, hlen, hall⟩
    unfold m5_l01_EncBack_s30
    dsimp only
    rcases Nat.lt_or_ge i a2.length with hlt | hge
    · have e := List.getElem?_eq_getElem hlt
      rw [if_pos (decide_eq_true (by omega)), idx_nat, e]
      simp only [Option.bind_some]
      by_cases h3 : (300 : Int) < a2[i].length
      · right; right
        rw [if_pos (decide_eq_true h3)]
        exact ⟨_, rfl, rfl⟩
      · left
        rw [if_neg (by rw [decide_eq_true_eq]; exact h3), List_m _ _ (by rw [List.length_append]; omega), show min 65535 a2[i].length = a2[i].length from by omega, List.take_length]
        simp only [Option.bind_some]
        refine ⟨_, rfl, ⟨i + 1, hlt, ?_, ?_, fun j y hj hy => ?_⟩, by rw [wI_id (by omega) (by omega)]; omega⟩
        · rw [wI_id (by omega) (by omega), en2_take a2 hlt]
          simp [ls2]
        · rw [en2_take a2 hlt, List.length_append]
          have : (ls2 a2[i]).length = 2 + a2[i].length := by simp [ls2, le8_len]
          omega
        · rcases Nat.lt_succ_iff_lt_or_eq.1 hj with h | rfl
          · exact hall j y h hy
          · rw [e] at hy; cases hy; omega
    · right; left
      have e : i = a2.length := by omega
      subst e
      rw [if_neg (by rw [decide_eq_true_eq]; exact Int.lt_irrefl _)]
      rw [List.take_length] at hlen
      refine ⟨_, rfl, by rw [List.take_length], Nat.le_trans hlen (Nat.mul_le_mul_right _ (Int.ofNat_le.1 (Int.not_lt.1 h2))), fun u hu => ?_⟩
      obtain ⟨j, hj, rfl⟩ := List.getElem_of_mem hu
      exact hall j _ hj (List.getElem?_eq_getElem hj)) fuel (en1 W a0, 0) ⟨0, Nat.zero_le _, by simp [en2], by simp [en2], fun j y hj => absurd hj (Nat.not_lt_zero _)⟩ (lt_fuel (by show a2.length - 0 ≤ _; omega))
  rw [hv]
  simp only [Option.bind_some]
  cases v with
  | inl r => rw [show r = true from hr]
  | inr b =>
  obtain ⟨hbe, hE2, hu⟩ := hr
  dsimp only
  have hdl : b.length ≤ 100000000 := by rw [hbe, List.length_append]; omega
  unfold m5_l01_EncBack_k4 m14_enc_News
  simp only [Option.bind_some]
  obtain ⟨v, hv, hr⟩ := iter_inv (f := m5_l01_EncBack_s25 a0 a1 (0, 0, b)) (P := fun s => ∃ i : Nat, i ≤ a0.length ∧ s = ((i : Int), 0, ((i * W : Nat) : Int))) (μ := fun s => a0.length - s.1.toNat)
    (R := fun v => match v with | .inl r => False | .inr x => x = (0, (((en1 W a0).length : Nat) : Int))) (by
    rintro _ ⟨i, hi, rfl⟩
    unfold m5_l01_EncBack_s25
    dsimp only
    rcases Nat.lt_or_ge i a0.length with hlt | hge
    · left
      have hat := en1_at W a0 (en2 a2) hlt
      rw [← hbe] at hat
      have hpl : (en1 W (a0.take i)).length = i * W := by rw [en1_len, List.length_take, Nat.min_eq_left (by omega)]
      have hread : (b.drop (i * W)).take W = le8 a0[i] W := by
        have := mid hat
        rwa [hpl, le8_len] at this
      have hfit : i * W + W ≤ b.length := by
        have := congrArg List.length hat
        rw [List.length_append, List.length_append, hpl, le8_len] at this
        omega
      rw [if_pos (decide_eq_true (by omega)), idx_nat, List.getElem?_eq_getElem hlt]
      simp only [Option.bind_some]
      have hk : ∀ m : BitVec 64, m.toNat = a0[i].toNat % 2 ^ (8 * W) → ∃ s', m5_l01_EncBack_k27 a1 (0, 0, b) ((i : Int), 0, ((i * W : Nat) : Int)) m = some (.cont s') ∧ s' = (((i + 1 : Nat) : Int), 0, (((i + 1) * W : Nat) : Int)) := fun m hm => by
        unfold m5_l01_EncBack_k27
        dsimp only
        rw [hW, U_read W (i * W) b hW1 hW8 hfit hdl, hread]
        simp only [Option.bind_some]
        rw [vn_le8 _ _ hW8, hm, if_neg (by simp), wI_id (by omega) (by omega)]
        exact ⟨_, rfl, by rw [Nat.add_mul, Nat.one_mul]; rfl⟩
      have fin : ∀ o : Option (LR (Int × Int × Int) (Int × Int) Bool), (∃ s', o = some (.cont s') ∧ s' = (((i + 1 : Nat) : Int), 0, (((i + 1) * W : Nat) : Int))) → ∃ s', o = some (.cont s') ∧ (∃ j : Nat, j ≤ a0.length ∧ s' = ((j : Int), 0, ((j * W : Nat) : Int))) ∧ a0.length - s'.1.toNat < a0.length - (i : Int).toNat := by
        rintro o ⟨s', rfl, rfl⟩
        exact ⟨_, rfl, ⟨i + 1, hlt, rfl⟩, by simp only [Int.toNat_natCast]; omega⟩
      refine fin _ ?_
      rw [hW]
      by_cases h8 : W < 8
      · rw [if_pos (decide_eq_true (by omega))]
        refine hk _ ?_
        rw [wI_id (n := 8 * (W : Int)) (by omega) (by omega)]
        have e : (BitVec.ofInt 64 (8 * (W : Int))).toNat = 8 * W := by
          rw [show 8 * (W : Int) = ((8 * W : Nat) : Int) from by omega, BitVec.ofInt_natCast, BitVec.toNat_ofNat, Nat.mod_eq_of_lt (by omega)]
        rw [e, Int.toNat_natCast, mask_m _ _ (by omega)]
      · have e8 : W = 8 := by omega
        rw [if_neg (by rw [decide_eq_true_eq]; omega)]
        refine hk _ ?_
        have h64 := a0[i].isLt
        generalize a0[i].toNat = y at h64
        have e9 : 8 * W = 64 := by omega
        rw [e9]
        exact (Nat.mod_eq_of_lt h64).symm
    · right; left
      have e : i = a0.length := by omega
      subst e
      rw [if_neg (by rw [decide_eq_true_eq]; exact Int.lt_irrefl _)]
      exact ⟨_, rfl, by rw [hE1]⟩) fuel (0, 0, 0) ⟨0, Nat.zero_le _, by simp⟩ (lt_fuel (by show a0.length - 0 ≤ _; omega))
  rw [hv]
  simp only [Option.bind_some]
  cases v with
  | inl r => exact hr.elim
  | inr x =>
  obtain rfl : x = (0, (((en1 W a0).length : Nat) : Int)) := hr
  dsimp only
  have hat2 : ∀ {i : Nat} (hi : i < a2.length), b = (en1 W a0 ++ en2 (a2.take i)) ++ ls2 a2[i] ++ b.drop (((en1 W a0).length + (en2 (a2.take i)).length) + (ls2 a2[i]).length) := fun {i} hi => by
    have h := en2_at a2 (en1 W a0) hi
    rw [← hbe] at h
    have hdrop : b.drop (((en1 W a0).length + (en2 (a2.take i)).length) + (ls2 a2[i]).length) = en2 (a2.drop (i + 1)) := by
      rw [h, ← List.length_append, ← List.length_append, List.drop_left]
    rw [hdrop]
    exact h
  unfold m5_l01_EncBack_k6
  obtain ⟨v, hv, hr⟩ := iter_inv (f := m5_l01_EncBack_s21 a2 (0, 0, b)) (P := fun s => ∃ i : Nat, i ≤ a2.length ∧ s = ((i : Int), 0, (((en1 W a0).length + (en2 (a2.take i)).length : Nat) : Int))) (μ := fun s => a2.length - s.1.toNat)
    (R := fun v => match v with | .inl r => False | .inr x => x = (0, ((b.length : Nat) : Int))) (by
    rintro _ ⟨i, hi, rfl⟩
    unfold m5_l01_EncBack_s21
    dsimp only
    rcases Nat.lt_or_ge i a2.length with hlt | hge
    · left
      rw [if_pos (decide_eq_true (by omega)), List_read (hu _ (List.getElem_mem hlt)) (hat2 hlt) (by rw [List.length_append]) hdl]
      simp only [Option.bind_some]
      rw [idx_nat, List.getElem?_eq_getElem hlt]
      simp only [Option.bind_some]
      rw [if_neg (by simp)]
      exact ⟨_, rfl, ⟨i + 1, hlt, by rw [wI_id (by omega) (by omega), en2_take a2 hlt, List.length_append, Nat.add_assoc]; rfl⟩, by rw [wI_id (by omega) (by omega)]; omega⟩
    · right; left
      have e : i = a2.length := by omega
      subst e
      rw [if_neg (by rw [decide_eq_true_eq]; exact Int.lt_irrefl _)]
      exact ⟨_, rfl, by rw [List.take_length, ← List.length_append, ← hbe]⟩) fuel (0, 0, (((en1 W a0).length : Nat) : Int)) ⟨0, Nat.zero_le _, by simp [en2]⟩ (lt_fuel (by show a2.length - 0 ≤ _; omega))
  rw [hv]
  simp only [Option.bind_some]
  cases v with
  | inl r => exact hr.elim
  | inr x =>
  obtain rfl : x = (0, ((b.length : Nat) : Int)) := hr
  dsimp only
  unfold m5_l01_EncBack_k7 m14_enc_News
  have hcut : cut b 0 (if wI ((b.length : Int) - 1) > 0 then wI ((b.length : Int) - 1) else 0) = some (b.take (b.length - 1)) := by
    rw [wI_id (by omega) (by omega), show (if (b.length : Int) - 1 > 0 then (b.length : Int) - 1 else 0) = ((b.length - 1 : Nat) : Int) from by split <;> omega, cut_of (Int.le_refl _) (by omega) (by omega)]
    simp
  rw [hcut]
  simp only [Option.bind_some]
  have hcl : (b.take (b.length - 1)).length = b.length - 1 := by rw [List.length_take]; omega
  obtain ⟨x, hx, q, hxq, hq, hs⟩ := iterB_inv (f := m5_l01_EncBack_s18 a0 a1 (0, 0, b.take (b.length - 1))) (P := fun s => ∃ i q : Nat, i ≤ a0.length ∧ s.1 = (i : Int) ∧ s.2.2 = (q : Int) ∧ q ≤ (b.take (b.length - 1)).length ∧ ((s.2.1 = 0 ∧ q = i * W) ∨ s.2.1 = 2)) (μ := fun s => a0.length - s.1.toNat)
    (R := fun x => ∃ q : Nat, x.2 = (q : Int) ∧ q ≤ (b.take (b.length - 1)).length ∧ ((x.1 = 0 ∧ q = (en1 W a0).length) ∨ x.1 = 2)) (by
    rintro ⟨_, e, _⟩ ⟨i, q, hi, rfl, rfl, hq, hs⟩
    unfold m5_l01_EncBack_s18
    dsimp only at hs ⊢
    rcases Nat.lt_or_ge i a0.length with hlt | hge
    · left
      obtain ⟨v, e', q', hu', hq', hs'⟩ := U_cut hW1 hW8 (by omega) e q hq hs
      rw [if_pos (decide_eq_true (by omega)), hW, hu']
      simp only [Option.bind_some]
      exact ⟨_, rfl, ⟨i + 1, q', hlt, by rw [wI_id (by omega) (by omega)]; rfl, rfl, hq', by rw [Nat.add_mul, Nat.one_mul]; exact hs'⟩, by rw [wI_id (by omega) (by omega)]; omega⟩
    · right
      have e0 : i = a0.length := by omega
      subst e0
      rw [if_neg (by rw [decide_eq_true_eq]; exact Int.lt_irrefl _)]
      exact ⟨_, rfl, q, rfl, hq, by rw [hE1]; exact hs⟩) fuel (0, 0, 0) ⟨0, 0, Nat.zero_le _, rfl, rfl, Nat.zero_le _, .inl ⟨rfl, by simp⟩⟩ (lt_fuel (by show a0.length - 0 ≤ _; omega))
  rw [hx]
  simp only [Option.bind_some]
  unfold m5_l01_EncBack_k10
  obtain ⟨e, y⟩ := x
  dsimp only at hxq hs ⊢
  subst hxq
  obtain ⟨z, hz, q2, hzq, hq2, hs2⟩ := iterB_inv (f := m5_l01_EncBack_s15 a2 (0, 0, b.take (b.length - 1))) (P := fun s => ∃ i q : Nat, i ≤ a2.length ∧ s.1 = (i : Int) ∧ s.2.2 = (q : Int) ∧ q ≤ (b.take (b.length - 1)).length ∧ ((s.2.1 = 0 ∧ q = (en1 W a0).length + (en2 (a2.take i)).length) ∨ s.2.1 = 2)) (μ := fun s => a2.length - s.1.toNat)
    (R := fun x => ∃ q : Nat, x.2 = (q : Int) ∧ q ≤ (b.take (b.length - 1)).length ∧ ((x.1 = 0 ∧ q = b.length) ∨ x.1 = 2)) (by
    rintro ⟨_, e, _⟩ ⟨i, q, hi, rfl, rfl, hq, hs⟩
    unfold m5_l01_EncBack_s15
    dsimp only at hs ⊢
    rcases Nat.lt_or_ge i a2.length with hlt | hge
    · left
      obtain ⟨v, e', q', hu', hq', hs'⟩ := List_cut (m := b.length - 1) (hu _ (List.getElem_mem hlt)) (hat2 hlt) (by rw [List.length_append]) hdl e q hq hs
      rw [if_pos (decide_eq_true (by omega)), hu']
      simp only [Option.bind_some]
      exact ⟨_, rfl, ⟨i + 1, q', hlt, by rw [wI_id (by omega) (by omega)]; rfl, rfl, hq', by rw [en2_take a2 hlt, List.length_append, ← Nat.add_assoc]; exact hs'⟩, by rw [wI_id (by omega) (by omega)]; omega⟩
    · right
      have e0 : i = a2.length := by omega
      subst e0
      rw [if_neg (by rw [decide_eq_true_eq]; exact Int.lt_irrefl _)]
      rw [List.take_length, ← List.length_append, ← hbe] at hs
      exact ⟨_, rfl, q, rfl, hq, hs⟩) fuel (0, e, (q : Int)) ⟨0, q, Nat.zero_le _, rfl, rfl, hq, by simpa [en2] using hs⟩ (lt_fuel (by show a2.length - 0 ≤ _; omega))
  rw [hz]
  simp only [Option.bind_some]
  unfold m5_l01_EncBack_k11
  have hend : m26_enc_Reader_Ends 0 (b.length : Int) b = some (0, (b.length : Int)) := by
    unfold m26_enc_Reader_Ends m24_enc_Reader_Errs
    simp only [Option.bind_some]
    rw [if_neg (by simp), places_m 0 b.length b (Nat.le_refl _) hdl]
    simp only [Option.bind_some]
    rw [if_neg (by simp)]
  rw [if_pos rfl]
  dsimp only
  rw [hend]
  simp only [Option.bind_some]
  rw [if_pos (by decide), at_any _ _ _ (Nat.le_refl _) hdl]
  simp only [Option.bind_some]
  rw [if_pos (by simp)]
  by_cases hb0 : (b.length : Int) = 0
  · rw [if_pos (decide_eq_true hb0)]
  · rw [if_neg (by rw [decide_eq_true_eq]; exact hb0)]
    unfold m24_enc_Reader_Errs
    simp only [Option.bind_some]
    rcases hs2 with ⟨_, h⟩ | h
    · omega
    · rw [h]; rfl
end Go.Proofs.Ytlfgbpkigdmjdaa.Abs
