/-
  A reader that has failed stays so.
-/
import Derived.Test.YtlfgbpkigdmjdaaC01b
namespace Go.Proofs.Ytlfgbpkigdmjdaa.Abs

theorem take_short (n : Int) (p : Nat) (d : List UInt8) (h : p ≤ d.length) (hs : (d.length : Int) < p + n) (hd : d.length ≤ 100000000) : m31_enc_Reader_takes n 0 p d = some ([], 2, (p : Int)) := by
  unfold m31_enc_Reader_takes m22_enc_Reader_Fails
  rw [places_m 0 p d h hd]
  simp only [Option.bind_some]
  rw [if_pos (by rw [decide_eq_true_eq, List.length_drop]; omega), if_pos (by decide)]
  rfl
theorem U_any (n e : Int) (p : Nat) (d : List UInt8) (h : p ≤ d.length) (hd : d.length ≤ 100000000) :
    ∃ v e' p', m16_enc_Reader_Us n e p d = some (v, e', ((p' : Nat) : Int)) ∧ p' ≤ d.length ∧ (e ≠ 0 → v = 0#64 ∧ e' = e ∧ p' = p) ∧ v.toNat < 2 ^ (8 * n.toNat) ∧ (e' ≠ 0 → v = 0#64) := by
  by_cases he : e = 0
  · subst he
    by_cases h1 : n < 1
    · refine ⟨0#64, 1, p, ?_, h, fun h => absurd rfl h, Nat.pow_pos (by decide), fun _ => rfl⟩
      unfold m16_enc_Reader_Us m24_enc_Reader_Errs m22_enc_Reader_Fails
      simp only [Option.bind_some]
      rw [if_neg (by simp), if_pos (decide_eq_true h1), if_pos (by decide)]
      rfl
    · by_cases h8 : 8 < n
      · refine ⟨0#64, 1, p, ?_, h, fun h => absurd rfl h, Nat.pow_pos (by decide), fun _ => rfl⟩
        unfold m16_enc_Reader_Us m24_enc_Reader_Errs m22_enc_Reader_Fails
        simp only [Option.bind_some]
        rw [if_neg (by simp), if_neg (by rw [decide_eq_true_eq]; exact h1), if_pos (decide_eq_true h8), if_pos (by decide)]
        rfl
      · obtain ⟨m, rfl⟩ : ∃ m : Nat, n = m := ⟨n.toNat, by omega⟩
        by_cases hl : p + m ≤ d.length
        · refine ⟨_, _, p + m, U_read m p d (by omega) (by omega) hl hd, hl, fun h => absurd rfl h, ?_, fun h => absurd rfl h⟩
          rw [vn_ns _ _ (by omega), Int.toNat_natCast]
          exact ns_lt _ _
        · refine ⟨0#64, 2, p, ?_, h, fun h => absurd rfl h, Nat.pow_pos (by decide), fun _ => rfl⟩
          unfold m16_enc_Reader_Us m24_enc_Reader_Errs
          simp only [Option.bind_some]
          rw [if_neg (by simp), if_neg (by rw [decide_eq_true_eq]; exact h1), if_neg (by rw [decide_eq_true_eq]; exact h8)]
          unfold m16_enc_Reader_Us_k2
          rw [take_short _ _ _ h (by omega) hd]
          rfl
  · refine ⟨0#64, e, p, ?_, h, fun _ => ⟨rfl, rfl, rfl⟩, Nat.pow_pos (by decide), fun _ => rfl⟩
    unfold m16_enc_Reader_Us m24_enc_Reader_Errs
    simp only [Option.bind_some]
    rw [if_pos (by simp [he])]
theorem List_any (n e : Int) (p : Nat) (d : List UInt8) (h : p ≤ d.length) (hd : d.length ≤ 100000000) :
    ∃ v e' p', m18_enc_Reader_Lists n e p d = some (v, e', ((p' : Nat) : Int)) ∧ p' ≤ d.length ∧ (e ≠ 0 → v = [] ∧ e' = e ∧ p' = p) := by
  obtain ⟨v, e1, p1, hu, hp, he, hv, _⟩ := U_any 2 e p d h hd
  unfold m18_enc_Reader_Lists m24_enc_Reader_Errs
  rw [hu]
  simp only [Option.bind_some]
  by_cases h1 : e1 = 0
  · have he0 : ¬ e ≠ 0 := fun hne => hne ((he hne).2.1.symm.trans h1)
    subst h1
    rw [if_neg (by simp)]
    have hv' : v.toNat < 65536 := hv
    rw [wI_id (by omega) (by omega)]
    by_cases h5 : n < (v.toNat : Int)
    · rw [if_pos (decide_eq_true h5)]
      exact ⟨[], 5, p1, rfl, hp, fun h => absurd h he0⟩
    · rw [if_neg (by rw [decide_eq_true_eq]; exact h5)]
      by_cases hl : p1 + v.toNat ≤ d.length
      · rw [take_m _ _ _ hl hd]
        simp only [Option.bind_some]
        rw [m33_slices_Cloneo_m _ (by rw [List.length_take, List.length_drop]; omega)]
        exact ⟨_, _, p1 + v.toNat, rfl, hl, fun h => absurd h he0⟩
      · rw [take_short _ _ _ hp (by omega) hd]
        simp only [Option.bind_some]
        rw [m33_slices_Cloneo_m _ (by simp)]
        exact ⟨_, _, p1, rfl, hp, fun h => absurd h he0⟩
  · rw [if_pos (by simp [h1])]
    exact ⟨[], e1, p1, rfl, hp, fun hne => ⟨rfl, (he hne).2⟩⟩
theorem Flag_any (e : Int) (p : Nat) (d : List UInt8) (h : p ≤ d.length) (hd : d.length ≤ 100000000) :
    ∃ v e' p', m20_enc_Reader_Flags e p d = some (v, e', ((p' : Nat) : Int)) ∧ p' ≤ d.length ∧ (e ≠ 0 → v = false ∧ e' = e ∧ p' = p) := by
  obtain ⟨v, e1, p1, hu, hp, he, hv, _⟩ := U_any 1 e p d h hd
  unfold m20_enc_Reader_Flags m22_enc_Reader_Fails m20_enc_Reader_Flags_k2
  rw [hu]
  simp only [Option.bind_some]
  by_cases hx : (1 : Int) < (v.toNat : Int)
  · rw [if_pos (decide_eq_true hx)]
    have hne : ¬ e ≠ 0 := fun hne => by rw [(he hne).1] at hx; exact absurd hx (by decide)
    by_cases h1 : e1 = 0
    · rw [if_pos (decide_eq_true h1)]
      exact ⟨_, _, p1, rfl, hp, fun h => absurd h hne⟩
    · rw [if_neg (by rw [decide_eq_true_eq]; exact h1)]
      exact ⟨_, _, p1, rfl, hp, fun h => absurd h hne⟩
  · rw [if_neg (by rw [decide_eq_true_eq]; exact hx)]
    exact ⟨_, _, p1, rfl, hp, fun hne => ⟨by rw [(he hne).1]; rfl, (he hne).2⟩⟩
theorem step_any (s : GL01Step) (e : Int) (p : Nat) (d : List UInt8) (h : p ≤ d.length) (hd : d.length ≤ 100000000) :
    ∃ v e' p', m28_l01_steps s e p d = some (v, e', ((p' : Nat) : Int)) ∧ p' ≤ d.length ∧ (e ≠ 0 → v = false ∧ e' = e ∧ p' = p) := by
  have key : ∀ b, ∃ v e' p', m28_l01_steps_k1 s e p d b = some (v, e', ((p' : Nat) : Int)) ∧ p' ≤ d.length ∧ (e ≠ 0 → v = false ∧ e' = e ∧ p' = p) := by
    intro b
    unfold m28_l01_steps_k1
    cases b with
    | true =>
      obtain ⟨v, e1, p1, hu, hp, he, hv, _⟩ := U_any s.N e p d h hd
      rw [if_pos rfl, hu]
      simp only [Option.bind_some]
      exact ⟨_, _, p1, rfl, hp, fun hne => ⟨by rw [(he hne).1]; rfl, (he hne).2⟩⟩
    | false =>
      rw [if_neg (by simp)]
      by_cases h2 : s.What = 2
      · rw [if_pos (decide_eq_true h2)]
        obtain ⟨v, e1, p1, hu, hp, he⟩ := List_any s.N e p d h hd
        rw [hu]
        simp only [Option.bind_some]
        exact ⟨_, _, p1, rfl, hp, fun hne => ⟨by rw [(he hne).1]; rfl, (he hne).2⟩⟩
      · rw [if_neg (by rw [decide_eq_true_eq]; exact h2)]
        by_cases h3 : s.What = 3
        · rw [if_pos (decide_eq_true h3)]
          obtain ⟨v, e1, p1, hu, hp, he⟩ := Flag_any e p d h hd
          rw [hu]
          simp only [Option.bind_some]
          exact ⟨_, _, p1, rfl, hp, he⟩
        · rw [if_neg (by rw [decide_eq_true_eq]; exact h3)]
          by_cases h4 : s.What = 4
          · rw [if_pos (decide_eq_true h4)]
            unfold m22_enc_Reader_Fails
            by_cases h0 : e = 0
            · rw [if_pos (decide_eq_true h0)]
              exact ⟨_, _, p, rfl, h, fun hne => absurd h0 hne⟩
            · rw [if_neg (by rw [decide_eq_true_eq]; exact h0)]
              exact ⟨_, _, p, rfl, h, fun _ => ⟨rfl, rfl, rfl⟩⟩
          · rw [if_neg (by rw [decide_eq_true_eq]; exact h4)]
            exact ⟨_, _, p, rfl, h, fun _ => ⟨rfl, rfl, rfl⟩⟩
  unfold m28_l01_steps
  split
  · exact key _
  · exact key _
theorem at_any (e : Int) (p : Nat) (d : List UInt8) (h : p ≤ d.length) (hd : d.length ≤ 100000000) : m25_enc_Reader_Ats e p d = some ((p : Int), (p : Int)) := by
  unfold m25_enc_Reader_Ats
  rw [places_m e p d h hd]
  rfl

theorem encStays_true (a0 : List UInt8) (a1 a2 : List GL01Step) : m6_l01_EncStays a0 a1 a2 = some true := by
  unfold m6_l01_EncStays
  rw [awake01]
  simp only [Option.bind_some]
  by_cases h1 : (500 : Int) < a0.length
  · rw [if_pos (decide_eq_true h1)]
  rw [if_neg (by rw [decide_eq_true_eq]; exact h1)]
  by_cases h2 : (50 : Int) < a1.length
  · rw [if_pos (decide_eq_true h2)]
  rw [if_neg (by rw [decide_eq_true_eq]; exact h2)]
  by_cases h3 : (50 : Int) < a2.length
  · rw [if_pos (decide_eq_true h3)]
  rw [if_neg (by rw [decide_eq_true_eq]; exact h3)]
  have hd : a0.length ≤ 100000000 := by omega
  unfold m6_l01_EncStays_k2 m14_enc_News
  simp only [Option.bind_some]
  obtain ⟨b, hb, p, hbp, hp⟩ := iterB_inv (f := m6_l01_EncStays_s23 a1 (0, 0, a0)) (P := fun s => ∃ i p : Nat, s.1 = (i : Int) ∧ s.2.2 = (p : Int) ∧ p ≤ a0.length) (μ := fun s => a1.length - s.1.toNat) (R := fun b => ∃ p : Nat, b.2 = (p : Int) ∧ p ≤ a0.length) (by
    rintro ⟨_, e, _⟩ ⟨i, p, rfl, rfl, hp⟩
    unfold m6_l01_EncStays_s23
    dsimp only
    by_cases hi : i < a1.length
    · left
      rw [if_pos (decide_eq_true (by omega)), idx_nat, List.getElem?_eq_getElem hi]
      simp only [Option.bind_some]
      obtain ⟨v, e1, p1, hu, hp1, _⟩ := step_any a1[i] e p a0 hp hd
      rw [hu]
      simp only [Option.bind_some]
      exact ⟨_, rfl, ⟨i + 1, p1, by rw [wI_id (by omega) (by omega)]; rfl, rfl, hp1⟩, by rw [wI_id (by omega) (by omega)]; omega⟩
    · right
      rw [if_neg (by rw [decide_eq_true_eq]; omega)]
      exact ⟨_, rfl, p, rfl, hp⟩) fuel (0, 0, 0) ⟨0, 0, rfl, rfl, Nat.zero_le _⟩ (lt_fuel (by show a1.length - 0 ≤ _; omega))
  rw [hb]
  simp only [Option.bind_some]
  obtain ⟨e, q⟩ := b
  have hq : q = (p : Int) := hbp
  subst hq
  unfold m6_l01_EncStays_k4
  have n1 : m22_enc_Reader_Fails1 3 = some () := rfl
  have n2 : m16_enc_Reader_Us1 1 = some 0#64 := by decide +kernel
  have n3 : m18_enc_Reader_Lists1 5 = some [] := by decide +kernel
  have n4 : m20_enc_Reader_Flags1 = some false := by decide +kernel
  have n5 : m24_enc_Reader_Errs1 = some 1 := rfl
  have n6 : m26_enc_Reader_Ends1 = some 1 := by decide +kernel
  have n7 : m25_enc_Reader_Ats1 = some 0 := by decide +kernel
  rw [n1, n2, n3, n4, n5, n6, n7, at_any e p a0 hp hd]
  unfold m24_enc_Reader_Errs
  simp only [Option.bind_some]
  rw [if_neg (by decide), if_neg (by decide), if_neg (by decide), if_neg (by decide), if_neg (by decide), if_neg (by decide)]
  unfold m6_l01_EncStays_k8
  by_cases he : e = 0
  · rw [if_pos (decide_eq_true he)]
  rw [if_neg (by rw [decide_eq_true_eq]; exact he)]
  obtain ⟨v, hv, hr⟩ := iter_inv (f := m6_l01_EncStays_s10 a2 (0, 0, a0) e ((p : Int), (p : Int))) (P := fun s => ∃ i : Nat, s = ((i : Int), e, (p : Int))) (μ := fun s => a2.length - s.1.toNat)
    (R := fun v => match v with | .inl r => False | .inr _ => True) (by
    rintro _ ⟨i, rfl⟩
    unfold m6_l01_EncStays_s10
    dsimp only
    by_cases hi : i < a2.length
    · left
      rw [if_pos (decide_eq_true (by omega)), idx_nat, List.getElem?_eq_getElem hi]
      simp only [Option.bind_some]
      obtain ⟨v, e1, p1, hu, hp1, hk⟩ := step_any a2[i] e p a0 hp hd
      obtain ⟨rfl, rfl, rfl⟩ := hk he
      have hend : m26_enc_Reader_Ends e1 p1 a0 = some (e1, (p1 : Int)) := by
        unfold m26_enc_Reader_Ends m24_enc_Reader_Errs
        simp only [Option.bind_some]
        rw [if_pos (by simp [he])]
      rw [hu]
      unfold m24_enc_Reader_Errs
      simp only [Option.bind_some]
      rw [if_neg (by simp), if_neg (by simp), at_any _ _ _ hp hd]
      simp only [Option.bind_some]
      rw [if_neg (by simp), hend]
      simp only [Option.bind_some]
      rw [if_neg (by simp)]
      exact ⟨_, rfl, ⟨i + 1, by rw [wI_id (by omega) (by omega)]; rfl⟩, by rw [wI_id (by omega) (by omega)]; omega⟩
    · right; left
      rw [if_neg (by rw [decide_eq_true_eq]; omega)]
      exact ⟨_, rfl, trivial⟩) fuel (0, e, (p : Int)) ⟨0, rfl⟩ (lt_fuel (by show a2.length - 0 ≤ _; omega))
  rw [hv]
  simp only [Option.bind_some]
  cases v with
  | inl r => exact hr.elim
  | inr u => rfl
end Go.Proofs.Ytlfgbpkigdmjdaa.Abs
