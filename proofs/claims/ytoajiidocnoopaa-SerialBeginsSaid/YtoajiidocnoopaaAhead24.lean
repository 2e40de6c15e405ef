/-
  SerialAhead.
-/
import Derived.Test.YtoajiidocnoopaaK24
namespace Go.Proofs.Ytoajiidocnoopaa.Abs

theorem awake24 : m6_l24_awake = some true := by decide +kernel

theorem scan24 {α : Type} (xs : List α) (p : α → Bool) (f : Int → Option (LR Int Unit Bool)) (hl : xs.length ≤ 1000000000000000000)
    (h : ∀ (i : Nat) x, xs[i]? = some x → f (i : Int) = some (if p x then .ret false else .cont ((i + 1 : Nat) : Int))) (hend : f (xs.length : Int) = some (.brk ())) :
    ((∃ x ∈ xs, p x = true) ∧ iter f fuel 0 = some (.inl false)) ∨ ((∀ x ∈ xs, p x = false) ∧ iter f fuel 0 = some (.inr ())) := by
  obtain ⟨b, hb, hr⟩ := iter_inv (f := f) (P := fun s => ∃ i : Nat, i ≤ xs.length ∧ s = (i : Int) ∧ ∀ j x, j < i → xs[j]? = some x → p x = false) (μ := fun s => xs.length - s.toNat)
    (R := fun r => (r = .inl false ∧ ∃ x ∈ xs, p x = true) ∨ (r = .inr () ∧ ∀ x ∈ xs, p x = false)) (by
      rintro _ ⟨i, hi, rfl, hp⟩
      rcases Nat.lt_or_ge i xs.length with hlt | hge
      · have hx := List.getElem?_eq_getElem hlt
        have hf := h i _ hx
        cases hpx : p xs[i] with
        | true =>
          rw [hpx, if_pos rfl] at hf
          exact .inr (.inr ⟨false, hf, .inl ⟨rfl, _, List.getElem_mem hlt, hpx⟩⟩)
        | false =>
          rw [hpx, if_neg (by decide)] at hf
          refine .inl ⟨_, hf, ⟨i + 1, hlt, rfl, fun j x hj hx' => ?_⟩, by simp only [Int.toNat_natCast]; omega⟩
          rcases Nat.lt_succ_iff_lt_or_eq.1 hj with h' | rfl
          · exact hp j x h' hx'
          · rw [hx] at hx'; cases hx'; exact hpx
      · have e : i = xs.length := by omega
        subst e
        refine .inr (.inl ⟨(), hend, .inr ⟨rfl, fun x hx => ?_⟩⟩)
        obtain ⟨j, hj⟩ := List.mem_iff_getElem?.1 hx
        exact hp j x (List.getElem?_eq_some_iff.1 hj).1 hj) fuel 0 ⟨0, Nat.zero_le _, rfl, fun j x hj => absurd hj (Nat.not_lt_zero _)⟩ (lt_fuel (by show xs.length - 0 ≤ _; omega))
  rcases hr with ⟨rfl, he⟩ | ⟨rfl, hp⟩
  · exact .inl ⟨he, hb⟩
  · exact .inr ⟨hp, hb⟩

theorem fewW24 (l : List GApiWrite) : ∃ b, m13_r08_FewWrites l = some b := by
  unfold m13_r08_FewWrites
  by_cases h : 140 < (l.length : Int)
  · rw [if_pos (decide_eq_true h)]; exact ⟨false, rfl⟩
  rw [if_neg (by rw [decide_eq_true_eq]; exact h)]
  rcases scan24 l (fun w => decide (50 < (w.Key.length : Int)) || decide (100 < (w.Val.length : Int))) (m13_r08_FewWrites_s2 l) (by omega) (fun i x hx => by
    have hlt := (List.getElem?_eq_some_iff.1 hx).1
    unfold m13_r08_FewWrites_s2
    rw [if_pos (decide_eq_true (by omega)), idx_nat, hx, Option.bind_some, Option.bind_some]
    by_cases h1 : 50 < (x.Key.length : Int)
    · rw [if_pos (decide_eq_true h1), decide_eq_true h1]; rfl
    rw [if_neg (by rw [decide_eq_true_eq]; exact h1), decide_eq_false h1, Bool.false_or]
    by_cases h2 : 100 < (x.Val.length : Int)
    · rw [if_pos (decide_eq_true h2), decide_eq_true h2]; rfl
    · rw [if_neg (by rw [decide_eq_true_eq]; exact h2), decide_eq_false h2, if_neg (by decide), wI_id (by omega) (by omega)]; rfl) (by
    unfold m13_r08_FewWrites_s2
    rw [if_neg (by rw [decide_eq_true_eq]; omega)]) with ⟨_, e⟩ | ⟨_, e⟩
  · rw [e]; exact ⟨false, rfl⟩
  · rw [e]; exact ⟨true, rfl⟩

theorem first_or (l : List GR24Tx) (i : Nat) {x : GR24Tx} (hx : l[i]? = some x) (hl : x.Reads.length ≤ 1000) : (iter (m7_l24_few_s5 l (i : Int)) fuel 0 = some (.inl false) ∧ (x.Reads.any fun g => !(m14_r06_Short g).getD false) = true) ∨ (iter (m7_l24_few_s5 l (i : Int)) fuel 0 = some (.inr ()) ∧ (x.Reads.any fun g => !(m14_r06_Short g).getD false) = false) := by
  rcases scan24 x.Reads (fun g => !(m14_r06_Short g).getD false) (m7_l24_few_s5 l (i : Int)) (by omega) (fun j g hg => by
    have hlt := (List.getElem?_eq_some_iff.1 hg).1
    unfold m7_l24_few_s5
    rw [idx_nat, hx, Option.bind_some, if_pos (decide_eq_true (by omega)), Option.bind_some, idx_nat, hg, Option.bind_some]
    obtain ⟨v, hv, _⟩ := short_m g
    rw [hv, Option.bind_some, wI_id (by omega) (by omega)]
    cases v <;> rfl) (by
    unfold m7_l24_few_s5
    rw [idx_nat, hx, Option.bind_some, if_neg (by rw [decide_eq_true_eq]; omega)]) with ⟨⟨g, hg, hp⟩, e⟩ | ⟨hp, e⟩
  · exact .inl ⟨e, List.any_eq_true.2 ⟨g, hg, hp⟩⟩
  · exact .inr ⟨e, List.any_eq_false.2 fun g hg => by rw [hp g hg]; decide⟩

def few1 (x : GR24Tx) : Bool := !decide (20 < (x.Reads.length : Int)) && ((m13_r08_FewWrites x.Writes).getD false && (!decide (20 < (x.Writes.length : Int)) && !(x.Reads.any fun g => !(m14_r06_Short g).getD false)))
theorem few24 (l : List GR24Tx) : ∃ b, m7_l24_few l = some b ∧ (b = true → l.length ≤ 70 ∧ ∀ x ∈ l, x.Reads.length ≤ 20 ∧ x.Writes.length ≤ 20) := by
  unfold m7_l24_few
  by_cases h : 70 < (l.length : Int)
  · rw [if_pos (decide_eq_true h)]; exact ⟨false, rfl, fun h => (by cases h)⟩
  rw [if_neg (by rw [decide_eq_true_eq]; exact h)]
  rcases scan24 l (fun x => !few1 x) (m7_l24_few_s2 l) (by omega) (fun i x hx => by
    have hlt := (List.getElem?_eq_some_iff.1 hx).1
    unfold m7_l24_few_s2 few1
    rw [if_pos (decide_eq_true (by omega)), idx_nat, hx, Option.bind_some]
    by_cases h1 : 20 < (x.Reads.length : Int)
    · rw [if_pos (decide_eq_true h1), decide_eq_true h1]; rfl
    rw [if_neg (by rw [decide_eq_true_eq]; exact h1), decide_eq_false h1, Option.bind_some]
    obtain ⟨b, hb⟩ := fewW24 x.Writes
    rw [hb, Option.bind_some]
    cases b with
    | false => rfl
    | true =>
    rw [if_neg (by decide), Option.bind_some]
    by_cases h2 : 20 < (x.Writes.length : Int)
    · rw [if_pos (decide_eq_true h2), decide_eq_true h2]; rfl
    rw [if_neg (by rw [decide_eq_true_eq]; exact h2), decide_eq_false h2]
    unfold m7_l24_few_k3
    rcases first_or l i hx (by omega) with ⟨e, ha⟩ | ⟨e, ha⟩
    · rw [e, ha]; rfl
    · rw [e, ha]
      show m7_l24_few_k4 (i : Int) () = _
      unfold m7_l24_few_k4
      rw [wI_id (by omega) (by omega)]; rfl) (by
    unfold m7_l24_few_s2
    rw [if_neg (by rw [decide_eq_true_eq]; omega)]) with ⟨_, e⟩ | ⟨hp, e⟩
  · rw [e]; exact ⟨false, rfl, fun h => (by cases h)⟩
  · rw [e]
    refine ⟨true, rfl, fun _ => ⟨by omega, fun x hx => ?_⟩⟩
    have := hp x hx
    unfold few1 at this
    simp only [Bool.not_eq_false', Bool.and_eq_true, Bool.not_eq_true', decide_eq_false_iff_not] at this
    omega

def toS (x : GR24Tx) : GSerialTx := ⟨x.Token, x.Snap, x.Ts, x.Reads, x.Writes⟩
theorem ours24 (l : List GR24Tx) (hl : l.length ≤ 70) : m9_l24_ours l = some (l.map toS) := by
  unfold m9_l24_ours
  obtain ⟨v, hv, hr⟩ := iterB_inv (f := m9_l24_ours_s2 l) (P := fun s => ∃ j : Nat, j ≤ l.length ∧ s = ((j : Int), (l.take j).map toS)) (μ := fun s => l.length - s.1.toNat)
    (R := fun v => v = l.map toS) (by
      rintro _ ⟨j, hj, rfl⟩
      unfold m9_l24_ours_s2
      dsimp only
      rcases Nat.lt_or_ge j l.length with hlt | hge
      · left
        have hx := List.getElem?_eq_getElem hlt
        rw [if_pos (decide_eq_true (by omega)), idx_nat, hx, Option.bind_some, if_pos (by rw [List.length_map, List.length_take, List.length_singleton]; omega), wI_id (by omega) (by omega)]
        refine ⟨_, rfl, ⟨j + 1, hlt, ?_⟩, by dsimp only; omega⟩
        rw [List.take_succ_eq_append_getElem hlt, List.map_append]; rfl
      · right
        have e : j = l.length := by omega
        subst e
        rw [if_neg (by rw [decide_eq_true_eq]; omega)]
        exact ⟨_, rfl, by rw [List.take_length]⟩) fuel (0, []) ⟨0, Nat.zero_le _, by simp⟩ (lt_fuel (by show l.length - 0 ≤ _; omega))
  rw [hv, Option.bind_some, hr]
  rfl

theorem inner24 (a b : GR24Tx) (i : Nat) {w : GApiWrite} (hw : a.Writes[i]? = some w) (hb : b.Writes.length ≤ 1000) (b0 : Bool) : iterB (m4_l24_SerialAhead_s15 a b (b0, (i : Int))) fuel (b0, 0) = some (b0 || b.Writes.any fun v => w.Key == v.Key) := by
  obtain ⟨v, hv, hr⟩ := iterB_inv (f := m4_l24_SerialAhead_s15 a b (b0, (i : Int))) (P := fun s => ∃ j : Nat, j ≤ b.Writes.length ∧ s = ((b0 || (b.Writes.take j).any fun v => w.Key == v.Key), (j : Int))) (μ := fun s => b.Writes.length - s.2.toNat)
    (R := fun v => v = (b0 || b.Writes.any fun v => w.Key == v.Key)) (by
      rintro _ ⟨j, hj, rfl⟩
      unfold m4_l24_SerialAhead_s15
      dsimp only
      rcases Nat.lt_or_ge j b.Writes.length with hlt | hge
      · left
        have hx := List.getElem?_eq_getElem hlt
        have hst : ((b.Writes.take (j + 1)).any fun v => w.Key == v.Key) = (((b.Writes.take j).any fun v => w.Key == v.Key) || w.Key == b.Writes[j].Key) := by
          rw [List.take_succ_eq_append_getElem hlt, List.any_append]; simp
        rw [if_pos (decide_eq_true (by omega)), wI_id (by omega) (by omega)]
        cases hc : (b0 || (b.Writes.take j).any fun v => w.Key == v.Key) with
        | true =>
          rw [if_pos rfl]
          refine ⟨_, rfl, ⟨j + 1, hlt, ?_⟩, by dsimp only; omega⟩
          rw [hst, ← Bool.or_assoc, hc]; rfl
        | false =>
          rw [if_neg (by decide), idx_nat, hw, Option.bind_some, idx_nat, hx, Option.bind_some]
          refine ⟨_, rfl, ⟨j + 1, hlt, ?_⟩, by dsimp only; omega⟩
          rw [hst, ← Bool.or_assoc, hc]; rfl
      · right
        have e : j = b.Writes.length := by omega
        subst e
        rw [if_neg (by rw [decide_eq_true_eq]; omega)]
        exact ⟨_, rfl, by rw [List.take_length]⟩) fuel (b0, 0) ⟨0, Nat.zero_le _, by simp⟩ (lt_fuel (by show b.Writes.length - 0 ≤ _; omega))
  rw [hv, hr]

theorem outer24 (a b : GR24Tx) (ha : a.Writes.length ≤ 1000) (hb : b.Writes.length ≤ 1000) : iterB (m4_l24_SerialAhead_s13 a b) fuel (false, 0) = some (bothV (toS a) (toS b)) := by
  obtain ⟨v, hv, hr⟩ := iterB_inv (f := m4_l24_SerialAhead_s13 a b) (P := fun s => ∃ j : Nat, j ≤ a.Writes.length ∧ s = (((a.Writes.take j).any fun w => b.Writes.any fun v => w.Key == v.Key), (j : Int))) (μ := fun s => a.Writes.length - s.2.toNat)
    (R := fun v => v = bothV (toS a) (toS b)) (by
      rintro _ ⟨j, hj, rfl⟩
      unfold m4_l24_SerialAhead_s13
      dsimp only
      rcases Nat.lt_or_ge j a.Writes.length with hlt | hge
      · left
        have hx := List.getElem?_eq_getElem hlt
        rw [if_pos (decide_eq_true (by omega)), inner24 a b j hx hb, Option.bind_some]
        unfold m4_l24_SerialAhead_k14
        dsimp only
        rw [wI_id (by omega) (by omega)]
        refine ⟨_, rfl, ⟨j + 1, hlt, ?_⟩, by dsimp only; omega⟩
        rw [List.take_succ_eq_append_getElem hlt, List.any_append]
        simp
      · right
        have e : j = a.Writes.length := by omega
        subst e
        rw [if_neg (by rw [decide_eq_true_eq]; omega)]
        exact ⟨_, rfl, by rw [List.take_length]; rfl⟩) fuel (false, 0) ⟨0, Nat.zero_le _, by simp⟩ (lt_fuel (by show a.Writes.length - 0 ≤ _; omega))
  rw [hv, hr]

theorem bothV_symm {a b : GSerialTx} (h : bothV a b = true) : bothV b a = true := by
  unfold bothV at *
  obtain ⟨w, hw, h⟩ := List.any_eq_true.1 h
  obtain ⟨v, hv, h⟩ := List.any_eq_true.1 h
  exact List.any_eq_true.2 ⟨v, hv, List.any_eq_true.2 ⟨w, hw, by rw [beq_iff_eq] at *; exact h.symm⟩⟩

theorem serialAhead_true (a0 a1 : GR24Tx) : m4_l24_SerialAhead a0 a1 = some true := by
  unfold m4_l24_SerialAhead
  rw [awake24, Option.bind_some]
  obtain ⟨b, hb, hb2⟩ := few24 [a0, a1]
  rw [hb, Option.bind_some]
  cases b with
  | false => rfl
  | true =>
  obtain ⟨_, hl⟩ := hb2 rfl
  have l0 := hl a0 (List.mem_cons_self ..)
  have l1 := hl a1 (List.mem_cons_of_mem _ (List.mem_cons_self ..))
  have L0 : Lim (toS a0) := ⟨by show a0.Reads.length ≤ _; omega, by show a0.Writes.length ≤ _; omega⟩
  have L1 : Lim (toS a1) := ⟨by show a1.Reads.length ≤ _; omega, by show a1.Writes.length ≤ _; omega⟩
  have g0 : idx ([a0, a1].map toS) 0 = some (toS a0) := rfl
  have g1 : idx ([a0, a1].map toS) 1 = some (toS a1) := rfl
  rw [if_neg (by decide), ours24 _ (by show 2 ≤ 70; decide), Option.bind_some, g0, Option.bind_some, g1, Option.bind_some, ahead_m L0 L1, Option.bind_some, Option.bind_some, Option.bind_some, ahead_m L1 L0, Option.bind_some, Option.bind_some, Option.bind_some, ahead_m L0 L0, Option.bind_some]
  have hself : aheadV (toS a0) (toS a0) = false := by unfold aheadV; rw [decide_eq_true rfl]; rfl
  rw [hself, if_neg (by decide)]
  have hk12 : (aheadV (toS a0) (toS a1) = true ∨ aheadV (toS a1) (toS a0) = true → 0 < a0.Writes.length + a1.Writes.length) → m4_l24_SerialAhead_k12 a0 a1 true (aheadV (toS a0) (toS a1)) (aheadV (toS a1) (toS a0)) () = some true := fun h => by
    unfold m4_l24_SerialAhead_k12
    rw [if_pos rfl, wI_id (by omega) (by omega)]
    by_cases hc : 0 < (a0.Writes.length : Int) + (a1.Writes.length : Int)
    · rw [if_pos (decide_eq_true hc)]
    · rw [if_neg (by rw [decide_eq_true_eq]; exact hc)]
      cases h1 : aheadV (toS a0) (toS a1) with
      | true => have := h (.inl h1); omega
      | false =>
        cases h2 : aheadV (toS a1) (toS a0) with
        | true => have := h (.inr h2); omega
        | false => rfl
  have hw : aheadV (toS a0) (toS a1) = true ∨ aheadV (toS a1) (toS a0) = true → 0 < a0.Writes.length + a1.Writes.length := fun h => by
    rcases Nat.eq_zero_or_pos (a0.Writes.length + a1.Writes.length) with h0 | h0
    · have e0 : a0.Writes = [] := List.eq_nil_of_length_eq_zero (by omega)
      have e1 : a1.Writes = [] := List.eq_nil_of_length_eq_zero (by omega)
      unfold aheadV bothV readV toS at h
      rw [e0, e1] at h
      simp at h
    · exact h0
  have hk10 : (aheadV (toS a0) (toS a1) = true ∨ aheadV (toS a1) (toS a0) = true ∨ a0.Token = a1.Token ∨ bothV (toS a0) (toS a1) = false ∨ a0.Ts = a1.Ts) → m4_l24_SerialAhead_k10 a0 a1 true (aheadV (toS a0) (toS a1)) (aheadV (toS a1) (toS a0)) () = some true := fun h => by
    unfold m4_l24_SerialAhead_k10
    rw [outer24 a0 a1 (by omega) (by omega), Option.bind_some]
    unfold m4_l24_SerialAhead_k11
    have e := hk12 hw
    generalize aheadV (toS a0) (toS a1) = x at *
    generalize aheadV (toS a1) (toS a0) = y at *
    generalize bothV (toS a0) (toS a1) = z at *
    by_cases ht : a0.Token = a1.Token
    · rw [decide_eq_true ht]; exact e
    rw [decide_eq_false ht]
    cases z with
    | false => exact e
    | true =>
    by_cases hs : a0.Ts = a1.Ts
    · rw [decide_eq_true hs]; exact e
    rw [decide_eq_false hs]
    cases x with
    | true => exact e
    | false =>
    cases y with
    | true => exact e
    | false =>
      exfalso
      rcases h with h | h | h | h | h
      · cases h
      · cases h
      · exact ht h
      · cases h
      · exact hs h
  by_cases ht : a0.Token = a1.Token
  · have h1 : aheadV (toS a0) (toS a1) = false := by
      unfold aheadV
      rw [decide_eq_true (show (toS a0).Token = (toS a1).Token from ht)]; rfl
    have h2 : aheadV (toS a1) (toS a0) = false := by
      unfold aheadV
      rw [decide_eq_true (show (toS a1).Token = (toS a0).Token from ht.symm)]; rfl
    have := hk10 (.inr (.inr (.inl ht)))
    rw [h1, h2] at this ⊢
    rw [if_pos (decide_eq_true ht), if_neg (by decide), if_neg (by decide)]
    exact this
  · rw [if_neg (by rw [decide_eq_true_eq]; exact ht)]
    refine hk10 ?_
    by_cases hs : a0.Ts = a1.Ts
    · exact .inr (.inr (.inr (.inr hs)))
    cases hbo : bothV (toS a0) (toS a1) with
    | false => exact .inr (.inr (.inr (.inl rfl)))
    | true =>
    rcases Int.lt_or_gt_of_ne hs with hlt | hgt
    · left
      unfold aheadV
      rw [decide_eq_false (show ¬ (toS a0).Token = (toS a1).Token from ht), decide_eq_true (show (toS a0).Ts < (toS a1).Ts from hlt), hbo]
      rfl
    · right; left
      unfold aheadV
      rw [decide_eq_false (show ¬ (toS a1).Token = (toS a0).Token from fun e => ht e.symm), decide_eq_true (show (toS a1).Ts < (toS a0).Ts from hgt), bothV_symm hbo]
      rfl
end Go.Proofs.Ytoajiidocnoopaa.Abs
