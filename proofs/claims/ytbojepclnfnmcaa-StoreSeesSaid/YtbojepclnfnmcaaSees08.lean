/-
  StoreSees.
-/
import Derived.Test.YtbojepclnfnmcaaK08c
namespace Go.Proofs.Ytbojepclnfnmcaa.Abs


theorem sees_loop (l : List GApiWrite) (k : List UInt8) (r0 : List UInt8 × Bool) (hl : l.length ≤ 1000) :
    ∃ b, iterB (m4_l08_StoreSees_s12 l k) fuel (r0.1, r0.2, 0) = some b ∧ (((∀ w ∈ l, w.Key ≠ k) ∧ b = r0) ∨ ∃ w ∈ l, w.Key = k ∧ b = (w.Val, !w.Del)) := by
  obtain ⟨v, hv, hr⟩ := iterB_inv (f := m4_l08_StoreSees_s12 l k) (P := fun s => ∃ i : Nat, i ≤ l.length ∧ s.2.2 = (i : Int) ∧ (((∀ w ∈ l.take i, w.Key ≠ k) ∧ (s.1, s.2.1) = r0) ∨ ∃ w ∈ l.take i, w.Key = k ∧ (s.1, s.2.1) = (w.Val, !w.Del))) (μ := fun s => l.length - s.2.2.toNat)
    (R := fun b => ((∀ w ∈ l, w.Key ≠ k) ∧ b = r0) ∨ ∃ w ∈ l, w.Key = k ∧ b = (w.Val, !w.Del)) (by
      rintro ⟨a, ok, _⟩ ⟨i, hi, rfl, h⟩
      unfold m4_l08_StoreSees_s12
      dsimp only
      rcases Nat.lt_or_ge i l.length with hlt | hge
      · left
        have hx := List.getElem?_eq_getElem hlt
        have htk := List.take_succ_eq_append_getElem hlt
        rw [if_pos (decide_eq_true (by omega)), idx_nat, hx, Option.bind_some, Option.bind_some, Option.bind_some]
        by_cases hk : l[i].Key = k
        · rw [if_pos (beq_iff_eq.2 hk)]
          refine ⟨_, rfl, ⟨i + 1, hlt, by dsimp only; rw [wI_id (by omega) (by omega)]; rfl, .inr ⟨l[i], by rw [htk]; exact List.mem_append_right _ (List.mem_singleton.2 rfl), hk, rfl⟩⟩, by dsimp only; rw [wI_id (by omega) (by omega)]; omega⟩
        · rw [if_neg (by rw [beq_iff_eq]; exact hk)]
          refine ⟨_, rfl, ⟨i + 1, hlt, by dsimp only; rw [wI_id (by omega) (by omega)]; rfl, ?_⟩, by dsimp only; rw [wI_id (by omega) (by omega)]; omega⟩
          rcases h with ⟨h1, h2⟩ | ⟨w, h1, h2, h3⟩
          · refine .inl ⟨fun w hw => ?_, h2⟩
            rw [htk] at hw
            rcases List.mem_append.1 hw with hw | hw
            · exact h1 w hw
            · rw [List.mem_singleton.1 hw]; exact hk
          · exact .inr ⟨w, by rw [htk]; exact List.mem_append_left _ h1, h2, h3⟩
      · right
        have e : i = l.length := by omega
        subst e
        rw [List.take_length] at h
        rw [if_neg (by rw [decide_eq_true_eq]; omega)]
        exact ⟨_, rfl, h⟩) fuel (r0.1, r0.2, 0) ⟨0, Nat.zero_le _, rfl, .inl ⟨fun w h => (by simp at h), rfl⟩⟩ (lt_fuel (by show l.length - 0 ≤ _; omega))
  exact ⟨v, hv, hr⟩

theorem storeSees_true (a0 : List GL08Lot) (a1 : List GApiWrite) (a2 : Int) (a3 : List UInt8) : m4_l08_StoreSees a0 a1 a2 a3 = some true := by
  unfold m4_l08_StoreSees
  rw [awake08, Option.bind_some]
  obtain ⟨b, hb, hb2⟩ := few_m08 a0
  rw [hb, Option.bind_some]
  cases b with
  | false => rfl
  | true =>
  obtain ⟨hl0, hl1⟩ := hb2 rfl
  rw [if_neg (by decide)]
  obtain ⟨b, hb, hb2⟩ := fewW_m a1
  rw [hb, Option.bind_some]
  cases b with
  | false => rfl
  | true =>
  obtain ⟨hw0, hw1⟩ := hb2 rfl
  rw [if_neg (by decide)]
  by_cases h3 : 50 < (a3.length : Int)
  · rw [if_pos (decide_eq_true h3)]
  rw [if_neg (by rw [decide_eq_true_eq]; exact h3)]
  unfold m4_l08_StoreSees_k2
  obtain ⟨K, C, T, hg, hs, hk, ht⟩ := grown_m a0 hl0 hl1
  have h0 := hs.t0
  rw [hg, Option.bind_some]
  dsimp only
  rw [wI_id (n := T + 1) (by omega) (by omega)]
  rcases install_m hs (by omega) hk (T + 1) a1 (by omega) with ⟨e, he, hi⟩ | ⟨K', C', hi, htt, hwo, hpw, hk', hL, hs'⟩
  · rw [hi, Option.bind_some]
    dsimp only
    rcases he with rfl | ⟨rfl, hno⟩ | rfl
    · rfl
    · exact absurd ⟨by omega, by omega⟩ hno
    · rfl
  rw [hi, Option.bind_some]
  dsimp only
  rw [if_neg (by rw [decide_eq_true rfl]; decide)]
  have hcs0 : ∀ c ∈ C, OkC c.L ∧ c.L.length ≤ 30 := fun c hc => ⟨(hs.cs c hc).2.1, (hs.cs c hc).2.2.2⟩
  have hvk : ∀ w ∈ a1, vOk (ver (T + 1) w) = true := fun w hw => vOk_ver (by omega) (by omega) (hwo w hw)
  have hlst : ∀ c ∈ C, lastTs c.L < T + 1 := fun c hc => by have := (hs.cs c hc).2.2.1; omega
  have hsn : ∀ w ∈ a1, ∀ c ∈ C, OkC (c.L ++ [ver (T + 1) w]) := fun w hw c hc => okC_snoc (hcs0 c hc).1 (hvk w hw) (hlst c hc)
  have hs1 : ∀ w ∈ a1, OkC ([] ++ [ver (T + 1) w]) := fun w hw => okC_snoc okC_nil (hvk w hw) (by show (0 : Int) < T + 1; omega)
  -- what was there is seen as it was
  have hE : ∃ r, m14_store_Get ⟨K, C, T⟩ a3 (if T < a2 then T else a2) = some r ∧ m14_store_Get ⟨K', C', T + 1⟩ a3 (if T < a2 then T else a2) = some r := by
    have hEle : (if T < a2 then T else a2) ≤ T := by split <;> omega
    generalize (if T < a2 then T else a2) = E at hEle
    rcases get_m hs (by omega) hk a3 E with ⟨c, hc, e1⟩ | ⟨hn, e1⟩ <;> rcases get_m hs' (by omega) hk' a3 E with ⟨c', hc', e2⟩ | ⟨hn', e2⟩
    · refine ⟨_, e1, e2.trans ?_⟩
      by_cases hex : ∃ w ∈ a1, w.Key = a3
      · obtain ⟨w, hw, rfl⟩ := hex
        rcases hL.new w hw c' hc' with ⟨c0, h1, h2⟩ | ⟨h1, _⟩
        · have := At.uniq hs.pw hc h1
          subst this
          obtain ⟨i, _, hi⟩ := hc
          rw [h2, valC_early (hsn w hw c (List.mem_of_getElem? hi)) (by show E < T + 1; omega)]
        · exact absurd ⟨c, hc⟩ h1
      · have := At.uniq hs.pw hc ((hL.old a3 c' (fun w hw e => hex ⟨w, hw, e⟩)).1 hc')
        rw [this]
    · exfalso
      by_cases hex : ∃ w ∈ a1, w.Key = a3
      · obtain ⟨w, hw, rfl⟩ := hex
        exact hn' (hL.is w hw)
      · exact hn' ⟨c, (hL.old a3 c (fun w hw e => hex ⟨w, hw, e⟩)).2 hc⟩
    · refine ⟨_, e1, e2.trans ?_⟩
      by_cases hex : ∃ w ∈ a1, w.Key = a3
      · obtain ⟨w, hw, rfl⟩ := hex
        rcases hL.new w hw c' hc' with ⟨c0, h1, h2⟩ | ⟨_, h2⟩
        · exact absurd ⟨c0, h1⟩ hn
        · have := valC_early (l := []) (v := ver (T + 1) w) (hs1 w hw) (t := E) (by show E < T + 1; omega)
          rw [List.nil_append] at this
          rw [h2, this]
          rfl
      · exact absurd ⟨c', (hL.old a3 c' (fun w hw e => hex ⟨w, hw, e⟩)).1 hc'⟩ hn
    · exact ⟨_, e1, e2⟩
  obtain ⟨r, e1, e2⟩ := hE
  rw [e1, Option.bind_some, e2, Option.bind_some, if_neg (by simp), if_neg (by simp)]
  -- and what is written, from its time on
  unfold m4_l08_StoreSees_k7
  dsimp only
  rw [wI_id (n := T + 1) (by omega) (by omega)]
  have hfin : ∀ b9 : List UInt8 × Bool, m14_store_Get ⟨K', C', T + 1⟩ a3 (T + 1) = some b9 → m4_l08_StoreSees_k9 a3 true ⟨K, C, T⟩ (⟨K', C', T + 1⟩, 0) b9 = some true := fun b9 h => by
    unfold m4_l08_StoreSees_k9
    dsimp only
    rw [wI_id (n := T + 1) (by omega) (by omega), h, Option.bind_some, if_pos rfl, if_pos (by simp), if_pos (by simp), ssane_m hs' (by omega) hk', Option.bind_some, if_pos rfl]
    simp
  have hsame : (∀ w ∈ a1, w.Key ≠ a3) → ∀ v8, m14_store_Get ⟨K, C, T⟩ a3 (T + 1) = some v8 → m14_store_Get ⟨K', C', T + 1⟩ a3 (T + 1) = some v8 := fun hne v8 h8 => by
    rcases get_m hs (by omega) hk a3 (T + 1) with ⟨c, hc, e1⟩ | ⟨hn, e1⟩ <;> rcases get_m hs' (by omega) hk' a3 (T + 1) with ⟨c', hc', e2⟩ | ⟨hn', e2⟩
    · have := At.uniq hs.pw hc ((hL.old a3 c' hne).1 hc')
      rw [e2, ← this, ← e1]; exact h8
    · exact absurd ⟨c, (hL.old a3 c hne).2 hc⟩ hn'
    · exact absurd ⟨c', (hL.old a3 c' hne).1 hc'⟩ hn
    · rw [e2, ← e1]; exact h8
  obtain ⟨v8, h8⟩ : ∃ v8, m14_store_Get ⟨K, C, T⟩ a3 (T + 1) = some v8 := by
    rcases get_m hs (by omega) hk a3 (T + 1) with ⟨c, _, e⟩ | ⟨_, e⟩ <;> exact ⟨_, e⟩
  rw [h8, Option.bind_some]
  obtain ⟨b9, hb9, hcase⟩ := sees_loop a1 a3 v8 (by omega)
  rw [hb9, Option.bind_some]
  refine hfin b9 ?_
  rcases hcase with ⟨hne, rfl⟩ | ⟨w, hw, rfl, rfl⟩
  · exact hsame hne _ h8
  · obtain ⟨c', hc'⟩ := hL.is w hw
    rcases get_m hs' (by omega) hk' w.Key (T + 1) with ⟨c2, hc2, e2⟩ | ⟨hn', _⟩
    · rw [e2]
      have hlate : valC c2.L (T + 1) = if w.Del then ([], false) else (w.Val, true) := by
        rcases hL.new w hw c2 hc2 with ⟨c0, h1, h2⟩ | ⟨_, h2⟩
        · obtain ⟨i, _, hi⟩ := h1
          rw [h2]
          exact valC_late (hsn w hw c0 (List.mem_of_getElem? hi)) (Int.le_refl _)
        · have := valC_late (l := []) (v := ver (T + 1) w) (hs1 w hw) (t := T + 1) (Int.le_refl _)
          rw [List.nil_append] at this
          rw [h2]; exact this
      rw [hlate]
      have hwk := hwo w hw
      unfold wOk at hwk
      cases hd : w.Del with
      | false => rfl
      | true =>
        rw [hd, Bool.true_and, Bool.and_eq_true, Bool.not_eq_true', decide_eq_false_iff_not] at hwk
        have : w.Val = [] := List.eq_nil_of_length_eq_zero (by omega)
        rw [this]; rfl
    · exact absurd ⟨c', hc'⟩ hn'
end Go.Proofs.Ytbojepclnfnmcaa.Abs
