/-
  Rows of keys in order; the statements.
-/
import Derived.Test.YtiadgkkebmclgaaC06b
namespace Go.Proofs.Ytiadgkkebmclgaa.Abs

abbrev PW (xs : Keys) : Prop := xs.Pairwise (fun x y => cmpL x y < 0)
theorem lt_kat {xs : Keys} {k x : List UInt8} (h : x ∈ xs.take (kat xs k)) : cmpL x k < 0 := by
  obtain ⟨j, hj, rfl⟩ := List.getElem_of_mem h
  rw [List.length_take] at hj
  rw [List.getElem_take]
  have := List.not_of_lt_findIdx (p := fun x => decide (0 ≤ cmpL x k)) (xs := xs) (i := j) (by have h' : kat xs k = List.findIdx (fun x => decide (0 ≤ cmpL x k)) xs := rfl; omega)
  have h2 : ¬ 0 ≤ cmpL xs[j] k := by simpa using this
  omega
theorem kat_ge {xs : Keys} {k : List UInt8} (h : kat xs k < xs.length) : 0 ≤ cmpL xs[kat xs k] k := by
  have := List.findIdx_getElem (p := fun x => decide (0 ≤ cmpL x k)) (xs := xs) (w := h)
  exact of_decide_eq_true this
theorem hit_mem {xs : Keys} {k : List UInt8} (h : hit xs k = true) : k ∈ xs := by
  unfold hit at h
  exact List.mem_of_getElem? (eq_of_beq h)
theorem mem_hit {xs : Keys} {k : List UInt8} (hp : PW xs) (h : k ∈ xs) : hit xs k = true := by
  obtain ⟨j, hj, rfl⟩ := List.getElem_of_mem h
  have hle : kat xs xs[j] ≤ j := by
    rcases Nat.lt_or_ge j (kat xs xs[j]) with h1 | h1
    · have := lt_kat (xs := xs) (k := xs[j]) (x := xs[j]) (List.mem_take_iff_getElem.2 ⟨j, by omega, rfl⟩)
      rw [cmpL_self] at this
      omega
    · exact h1
  have hk : kat xs xs[j] < xs.length := by omega
  unfold hit
  rw [List.getElem?_eq_getElem hk]
  rcases Nat.lt_or_ge (kat xs xs[j]) j with h1 | h1
  · have h2 := List.pairwise_iff_getElem.1 hp _ _ hk hj h1
    have h3 := kat_ge hk
    omega
  · have e : kat xs xs[j] = j := by omega
    simp only [e]
    simp
theorem hit_iff {xs : Keys} {k : List UInt8} (hp : PW xs) : hit xs k = true ↔ k ∈ xs := ⟨hit_mem, mem_hit hp⟩
theorem ins_mem {xs : Keys} {k x : List UInt8} : x ∈ ins xs k ↔ x = k ∨ x ∈ xs := by
  unfold ins
  by_cases h : hit xs k = true
  · rw [if_pos h]
    constructor
    · exact .inr
    · rintro (rfl | h')
      · exact hit_mem h
      · exact h'
  · rw [if_neg h]
    have e : x ∈ xs ↔ x ∈ xs.take (kat xs k) ∨ x ∈ xs.drop (kat xs k) := by
      rw [← List.mem_append, List.take_append_drop]
    rw [List.mem_append, List.mem_cons, e]
    constructor
    · rintro (h1 | rfl | h1)
      · exact .inr (.inl h1)
      · exact .inl rfl
      · exact .inr (.inr h1)
    · rintro (rfl | h1 | h1)
      · exact .inr (.inl rfl)
      · exact .inl h1
      · exact .inr (.inr h1)
theorem ins_len (xs : Keys) (k : List UInt8) : (ins xs k).length = if hit xs k = true then xs.length else xs.length + 1 := by
  unfold ins
  have := kat_le xs k
  split
  · rfl
  · simp; omega
theorem ins_pw {xs : Keys} {k : List UInt8} (hp : PW xs) : PW (ins xs k) := by
  unfold ins
  by_cases h : hit xs k = true
  · rw [if_pos h]; exact hp
  · rw [if_neg h]
    have hap : PW (xs.take (kat xs k) ++ xs.drop (kat xs k)) := by rw [List.take_append_drop]; exact hp
    obtain ⟨h1, h2, h3⟩ := List.pairwise_append.1 hap
    have hk : ∀ y ∈ xs.drop (kat xs k), cmpL k y < 0 := by
      intro y hy
      have hlt : kat xs k < xs.length := by
        rcases Nat.lt_or_ge (kat xs k) xs.length with h' | h'
        · exact h'
        · rw [List.drop_of_length_le h'] at hy; cases hy
      have hge := kat_ge hlt
      have hne : cmpL xs[kat xs k] k ≠ 0 := fun e => h (by
        unfold hit
        rw [List.getElem?_eq_getElem hlt, cmpL_zero e]
        simp)
      have hs := cmpL_swap k xs[kat xs k]
      have hlt2 : cmpL k xs[kat xs k] < 0 := by omega
      rw [List.drop_eq_getElem_cons hlt] at hy h2
      rcases List.mem_cons.1 hy with rfl | hy
      · exact hlt2
      · have := (List.pairwise_cons.1 h2).1 y hy
        exact (cmpL_trans (Int.le_of_lt hlt2) (Int.le_of_lt this)).2 (.inl hlt2)
    refine List.pairwise_append.2 ⟨h1, List.pairwise_cons.2 ⟨hk, h2⟩, fun x hx y hy => ?_⟩
    rcases List.mem_cons.1 hy with rfl | hy
    · exact lt_kat hx
    · exact h3 x hx y hy

theorem sorted_m {xs : Keys} (hp : PW xs) (hn : xs.length ≤ 1000000000000000000) : m33_keys_Sorted xs = some true := by
  obtain ⟨v, hv, hr⟩ := iter_inv (f := m33_keys_Sorted_s2 xs) (P := fun s => ∃ i : Nat, s = (i : Int) ∧ 1 ≤ i) (μ := fun s => xs.length - s.toNat)
    (R := fun v => match v with | .inl r => False | .inr _ => True) (by
    rintro _ ⟨i, rfl, h1⟩
    unfold m33_keys_Sorted_s2
    by_cases hi : i < xs.length
    · left
      rw [if_pos (decide_eq_true (by omega)), wI_id (by omega) (by omega), show (i : Int) - 1 = ((i - 1 : Nat) : Int) from by omega, idx_nat, idx_nat, List.getElem?_eq_getElem hi, List.getElem?_eq_getElem (by omega)]
      simp only [Option.bind_some, cmp_m]
      have := List.pairwise_iff_getElem.1 hp (i - 1) i (by omega) hi (by omega)
      rw [if_neg (by rw [decide_eq_true_eq]; omega)]
      exact ⟨_, rfl, ⟨i + 1, by rw [wI_id (by omega) (by omega)]; rfl, by omega⟩, by rw [wI_id (by omega) (by omega)]; omega⟩
    · right; left
      rw [if_neg (by rw [decide_eq_true_eq]; omega)]
      exact ⟨_, rfl, trivial⟩) fuel 1 ⟨1, rfl, Nat.le_refl _⟩ (lt_fuel (by show xs.length - 1 ≤ _; omega))
  unfold m33_keys_Sorted
  rw [hv]
  cases v with
  | inl r => exact hr.elim
  | inr u => rfl
theorem sorted_some (xs : Keys) (hn : xs.length ≤ 1000000000000000000) : ∃ v, m33_keys_Sorted xs = some v := by
  obtain ⟨v, hv, hr⟩ := iter_inv (f := m33_keys_Sorted_s2 xs) (P := fun s => ∃ i : Nat, s = (i : Int) ∧ 1 ≤ i) (μ := fun s => xs.length - s.toNat)
    (R := fun _ => True) (by
    rintro _ ⟨i, rfl, h1⟩
    unfold m33_keys_Sorted_s2
    by_cases hi : i < xs.length
    · rw [if_pos (decide_eq_true (by omega)), wI_id (by omega) (by omega), show (i : Int) - 1 = ((i - 1 : Nat) : Int) from by omega, idx_nat, idx_nat, List.getElem?_eq_getElem hi, List.getElem?_eq_getElem (by omega)]
      simp only [Option.bind_some, cmp_m]
      by_cases hc : 0 ≤ cmpL xs[i - 1] xs[i]
      · right; right
        rw [if_pos (decide_eq_true hc)]
        exact ⟨_, rfl, trivial⟩
      · left
        rw [if_neg (by rw [decide_eq_true_eq]; omega)]
        exact ⟨_, rfl, ⟨i + 1, by rw [wI_id (by omega) (by omega)]; rfl, by omega⟩, by rw [wI_id (by omega) (by omega)]; omega⟩
    · right; left
      rw [if_neg (by rw [decide_eq_true_eq]; omega)]
      exact ⟨_, rfl, trivial⟩) fuel 1 ⟨1, rfl, Nat.le_refl _⟩ (lt_fuel (by show xs.length - 1 ≤ _; omega))
  unfold m33_keys_Sorted
  rw [hv]
  cases v with
  | inl r => exact ⟨r, rfl⟩
  | inr u => exact ⟨true, rfl⟩
theorem idx_mem {α : Type} {xs : List α} {j : Int} {u : α} (h : idx xs j = some u) : u ∈ xs := List.mem_of_getElem? (idx_eq h).2
theorem rsorted_eq (xs : Keys) (hx : ∀ x ∈ xs, x.length ≤ 1000000000000000000) : m34_r06_Sorted xs = m33_keys_Sorted xs := by
  have : m34_r06_Sorted_s2 xs = m33_keys_Sorted_s2 xs := by
    funext s
    unfold m34_r06_Sorted_s2 m33_keys_Sorted_s2
    cases h : idx xs (wI (s - 1)) with
    | none => rfl
    | some u =>
      simp only [Option.bind_some, cmp_m, rcmp_m u _ (hx u (idx_mem h))]
  unfold m34_r06_Sorted m33_keys_Sorted
  rw [this]
  rfl
theorem few_m (xs : Keys) : ∃ v, m12_r03_Few xs 50 = some v ∧ (v = true → xs.length ≤ 20 ∧ ∀ x ∈ xs, x.length ≤ 50) := by
  unfold m12_r03_Few
  by_cases h20 : (20 : Int) < xs.length
  · exact ⟨false, by rw [if_pos (decide_eq_true h20)], fun h => by cases h⟩
  rw [if_neg (by rw [decide_eq_true_eq]; exact h20)]
  obtain ⟨v, hv, hr⟩ := iter_inv (f := m12_r03_Few_s2 xs 50) (P := fun s => ∃ i : Nat, s = (i : Int) ∧ i ≤ xs.length ∧ ∀ j y, j < i → xs[j]? = some y → y.length ≤ 50) (μ := fun s => xs.length - s.toNat)
    (R := fun v => match v with | .inl r => r = false | .inr _ => ∀ x ∈ xs, x.length ≤ 50) (by
    rintro _ ⟨i, rfl, h1, h2⟩
    unfold m12_r03_Few_s2
    by_cases hi : i < xs.length
    · have e := List.getElem?_eq_getElem hi
      rw [if_pos (decide_eq_true (by omega)), idx_nat, e]
      simp only [Option.bind_some]
      by_cases hc : (50 : Int) < xs[i].length
      · right; right
        rw [if_pos (decide_eq_true hc)]
        exact ⟨_, rfl, rfl⟩
      · left
        rw [if_neg (by rw [decide_eq_true_eq]; exact hc)]
        refine ⟨_, rfl, ⟨i + 1, by rw [wI_id (by omega) (by omega)]; rfl, hi, fun j y hj hy => ?_⟩, by rw [wI_id (by omega) (by omega)]; omega⟩
        rcases Nat.lt_succ_iff_lt_or_eq.1 hj with h | rfl
        · exact h2 j y h hy
        · rw [e] at hy; cases hy; omega
    · right; left
      rw [if_neg (by rw [decide_eq_true_eq]; omega)]
      refine ⟨_, rfl, fun x hx => ?_⟩
      obtain ⟨j, hj, rfl⟩ := List.getElem_of_mem hx
      exact h2 j _ (by omega) (List.getElem?_eq_getElem hj)) fuel 0 ⟨0, rfl, Nat.zero_le _, fun j y hj => absurd hj (Nat.not_lt_zero _)⟩ (lt_fuel (by show xs.length - 0 ≤ _; omega))
  rw [hv]
  cases v with
  | inl r => exact ⟨r, rfl, fun h => by rw [show r = false from hr] at h; cases h⟩
  | inr u => exact ⟨true, rfl, fun _ => ⟨by omega, hr⟩⟩

theorem keysRows_true (a0 : Keys) (a1 a2 : List UInt8) : m7_l06_KeysRows a0 a1 a2 = some true := by
  unfold m7_l06_KeysRows
  rw [awake06]
  simp only [Option.bind_some]
  obtain ⟨v, hv, hf⟩ := few_m a0
  rw [hv]
  simp only [Option.bind_some]
  cases v with
  | false => rfl
  | true =>
    obtain ⟨hn, hx⟩ := hf rfl
    rw [if_neg (by simp)]
    by_cases h1 : (50 : Int) < a1.length
    · rw [if_pos (decide_eq_true h1)]
    rw [if_neg (by rw [decide_eq_true_eq]; exact h1)]
    by_cases h2 : (50 : Int) < a2.length
    · rw [if_pos (decide_eq_true h2)]
    rw [if_neg (by rw [decide_eq_true_eq]; exact h2)]
    unfold m7_l06_KeysRows_k2
    obtain ⟨b, hb, hp, hl, hm⟩ := iterB_inv (f := m7_l06_KeysRows_s17 a0) (P := fun s => ∃ i : Nat, s.2 = (i : Int) ∧ i ≤ a0.length ∧ PW s.1 ∧ s.1.length ≤ i ∧ ∀ x, x ∈ s.1 ↔ x ∈ a0.take i) (μ := fun s => a0.length - s.2.toNat)
      (R := fun b => PW b ∧ b.length ≤ a0.length ∧ ∀ x, x ∈ b ↔ x ∈ a0) (by
      rintro ⟨acc, _⟩ ⟨i, rfl, hi, hp, hl, hm⟩
      dsimp only at hp hl hm
      unfold m7_l06_KeysRows_s17
      rcases Nat.lt_or_ge i a0.length with hlt | hge
      · left
        have e := List.getElem?_eq_getElem hlt
        rw [if_pos (decide_eq_true (by show (i : Int) < a0.length; omega))]
        dsimp only
        rw [idx_nat, e]
        simp only [Option.bind_some]
        rw [insert_m acc _ (by omega) (fun x h => by have := hx x (List.mem_of_mem_take ((hm x).1 h)); omega) (by have := hx _ (List.getElem_mem hlt); omega)]
        simp only [Option.bind_some]
        refine ⟨_, rfl, ⟨i + 1, by rw [wI_id (by omega) (by omega)]; rfl, hlt, ins_pw hp, ?_, fun x => ?_⟩, by rw [wI_id (by omega) (by omega)]; omega⟩
        · rw [ins_len]; split <;> omega
        · rw [ins_mem, hm, List.take_succ_eq_append_getElem hlt, List.mem_append, List.mem_singleton]
          exact Or.comm
      · right
        have e : i = a0.length := by omega
        subst e
        rw [if_neg (by rw [decide_eq_true_eq]; exact Int.lt_irrefl _)]
        exact ⟨_, rfl, hp, hl, fun x => by rw [hm, List.take_length]⟩) fuel (([] : Keys), 0) ⟨0, rfl, Nat.zero_le _, .nil, Nat.le_refl _, fun x => by simp⟩ (lt_fuel (by show a0.length - 0 ≤ _; omega))
    have hbx : ∀ x ∈ b, x.length ≤ 50 := fun x h => hx x ((hm x).1 h)
    rw [hb]
    simp only [Option.bind_some]
    unfold m7_l06_KeysRows_k3
    rw [insert_m b a1 (by omega) (fun x h => by have := hbx x h; omega) (by omega)]
    simp only [Option.bind_some]
    have hp4 : PW (ins b a1) := ins_pw hp
    have hl4 : (ins b a1).length ≤ 21 := by rw [ins_len]; split <;> omega
    have hm4 : a1 ∈ ins b a1 := ins_mem.2 (.inl rfl)
    have hh4 : hit (ins b a1) a1 = true := mem_hit hp4 hm4
    have hlt4 := hit_lt hh4
    rw [find_m _ _ (by omega), find_m _ _ (by omega), sorted_m hp (by omega), sorted_m hp4 (by omega)]
    simp only [Option.bind_some]
    rw [if_neg (by simp), if_neg (by simp), if_neg (by rw [hh4]; simp), if_neg (by rw [decide_eq_true_eq]; omega), if_neg (by rw [decide_eq_true_eq]; omega), if_neg (by
      rw [ins_len]
      cases hh : hit b a1 with
      | true => simp
      | false => simp; omega)]
    unfold m7_l06_KeysRows_k7
    rw [find_m _ _ (by omega), find_m _ _ (by omega)]
    simp only [Option.bind_some]
    obtain ⟨v, hv, hr⟩ := iter_inv (f := m7_l06_KeysRows_s11 a0 (ins b a1)) (P := fun s => ∃ i : Nat, s = (i : Int)) (μ := fun s => a0.length - s.toNat)
      (R := fun v => match v with | .inl r => False | .inr _ => True) (by
      rintro _ ⟨i, rfl⟩
      unfold m7_l06_KeysRows_s11
      by_cases hi : i < a0.length
      · left
        rw [if_pos (decide_eq_true (by omega)), idx_nat, List.getElem?_eq_getElem hi]
        simp only [Option.bind_some]
        rw [find_m _ _ (by omega)]
        simp only [Option.bind_some]
        have : hit (ins b a1) a0[i] = true := mem_hit hp4 (ins_mem.2 (.inr ((hm _).2 (List.getElem_mem hi))))
        rw [if_neg (by rw [this]; simp)]
        exact ⟨_, rfl, ⟨i + 1, by rw [wI_id (by omega) (by omega)]; rfl⟩, by rw [wI_id (by omega) (by omega)]; omega⟩
      · right; left
        rw [if_neg (by rw [decide_eq_true_eq]; omega)]
        exact ⟨_, rfl, trivial⟩) fuel 0 ⟨0, rfl⟩ (lt_fuel (by show a0.length - 0 ≤ _; omega))
    rw [hv]
    simp only [Option.bind_some]
    cases v with
    | inl r => exact hr.elim
    | inr u =>
      unfold m7_l06_KeysRows_k10
      dsimp only
      rw [if_pos rfl]
      by_cases hh : hit b a2 = true
      · rw [if_pos hh, mem_hit hp4 (ins_mem.2 (.inr (hit_mem hh)))]; rfl
      · rw [if_neg hh]
        by_cases he : a2 = a1
        · subst he
          rw [hh4]; simp
        · have : hit (ins b a1) a2 = false := by
            cases h3 : hit (ins b a1) a2 with
            | false => rfl
            | true =>
              rcases ins_mem.1 (hit_mem h3) with h4 | h4
              · exact absurd h4 he
              · exact absurd (mem_hit hp h4) hh
          rw [this, beq_false_of_ne he]; rfl
end Go.Proofs.Ytiadgkkebmclgaa.Abs
