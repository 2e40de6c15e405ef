/-
  Rows of keys: finding and putting in.
-/
import Derived.Test.YtiadgkkebmclgaaC06
namespace Go.Proofs.Ytiadgkkebmclgaa.Abs

abbrev Keys := List (List UInt8)
def kat (xs : Keys) (k : List UInt8) : Nat := xs.findIdx (fun x => decide (0 ≤ cmpL x k))
def hit (xs : Keys) (k : List UInt8) : Bool := xs[kat xs k]? == some k
theorem kat_le (xs : Keys) (k : List UInt8) : kat xs k ≤ xs.length := List.findIdx_le_length
theorem kat_of {xs : Keys} {k : List UInt8} {i : Nat} {x : List UInt8} (h : xs[i]? = some x) (h1 : 0 ≤ cmpL x k) (h2 : ∀ j y, j < i → xs[j]? = some y → cmpL y k < 0) : kat xs k = i := by
  obtain ⟨hi, rfl⟩ := List.getElem?_eq_some_iff.1 h
  unfold kat
  rw [List.findIdx_eq hi]
  refine ⟨by simpa using h1, fun j hj => ?_⟩
  have := h2 j xs[j] hj (List.getElem?_eq_getElem (by omega))
  rw [decide_eq_false_iff_not]
  omega
theorem kat_none {xs : Keys} {k : List UInt8} (h : ∀ j y, j < xs.length → xs[j]? = some y → cmpL y k < 0) : kat xs k = xs.length := by
  unfold kat
  rw [List.findIdx_eq_length]
  intro x hx
  obtain ⟨j, hj, rfl⟩ := List.getElem_of_mem hx
  have := h j xs[j] hj (List.getElem?_eq_getElem hj)
  rw [decide_eq_false_iff_not]
  omega
theorem cmp_zero_beq (x k : List UInt8) : decide (cmpL x k = 0) = (x == k) := by
  by_cases h : x = k
  · subst h; simp [cmpL_self]
  · rw [beq_false_of_ne h, decide_eq_false_iff_not]
    exact fun e => h (cmpL_zero e)

theorem find_m (xs : Keys) (k : List UInt8) (hn : xs.length ≤ 1000000000000000000) : m15_keys_Find xs k = some ((kat xs k : Int), hit xs k) := by
  obtain ⟨v, hv, hr⟩ := iter_inv (f := m35_slices_IndexFuncs_s2 xs k) (P := fun s => ∃ i : Nat, s = (i : Int) ∧ i ≤ xs.length ∧ ∀ j y, j < i → xs[j]? = some y → cmpL y k < 0) (μ := fun s => xs.length - s.toNat)
    (R := fun v => match v with | .inl r => r = (kat xs k : Int) ∧ kat xs k < xs.length | .inr _ => kat xs k = xs.length) (by
    rintro _ ⟨i, rfl, h1, h2⟩
    unfold m35_slices_IndexFuncs_s2 m36_keys_key_reacheds
    by_cases hi : i < xs.length
    · have e := List.getElem?_eq_getElem hi
      rw [if_pos (decide_eq_true (by omega)), idx_nat, e]
      simp only [Option.bind_some, cmp_m]
      by_cases hc : 0 ≤ cmpL xs[i] k
      · right; right
        rw [if_pos (decide_eq_true hc)]
        have ea := kat_of e hc h2
        exact ⟨_, rfl, by rw [ea], by rw [ea]; exact hi⟩
      · left
        rw [if_neg (by rw [decide_eq_true_eq]; exact hc)]
        refine ⟨_, rfl, ⟨i + 1, by rw [wI_id (by omega) (by omega)]; rfl, hi, fun j y hj hy => ?_⟩, by rw [wI_id (by omega) (by omega)]; omega⟩
        rcases Nat.lt_succ_iff_lt_or_eq.1 hj with h | rfl
        · exact h2 j y h hy
        · rw [e] at hy; cases hy; omega
    · right; left
      rw [if_neg (by rw [decide_eq_true_eq]; omega)]
      refine ⟨_, rfl, ?_⟩
      have : i = xs.length := by omega
      subst this
      exact kat_none h2) fuel 0 ⟨0, rfl, Nat.zero_le _, fun j y hj => absurd hj (Nat.not_lt_zero _)⟩ (lt_fuel (by show xs.length - 0 ≤ _; omega))
  unfold m15_keys_Find m35_slices_IndexFuncs
  rw [hv]
  simp only [Option.bind_some]
  cases v with
  | inl r =>
    obtain ⟨rfl, hlt⟩ : r = (kat xs k : Int) ∧ kat xs k < xs.length := hr
    simp only [Option.bind_some]
    rw [if_neg (by rw [decide_eq_true_eq]; omega), idx_nat, List.getElem?_eq_getElem hlt]
    simp only [Option.bind_some, m37_bytes_Equal]
    unfold hit
    rw [List.getElem?_eq_getElem hlt]
    rfl
  | inr u =>
    have e : kat xs k = xs.length := hr
    unfold m35_slices_IndexFuncs_k1
    simp only [Option.bind_some]
    rw [if_pos (by decide)]
    unfold hit
    rw [e]
    simp
theorem rfind_m (xs : Keys) (k : List UInt8) (hn : xs.length ≤ 1000000000000000000) (hx : ∀ x ∈ xs, x.length ≤ 1000000000000000000) : m16_r06_Find xs k = some ((kat xs k : Int), hit xs k) := by
  obtain ⟨v, hv, hr⟩ := iter_inv (f := m16_r06_Find_s2 xs k) (P := fun s => ∃ i : Nat, s = (i : Int) ∧ i ≤ xs.length ∧ ∀ j y, j < i → xs[j]? = some y → cmpL y k < 0) (μ := fun s => xs.length - s.toNat)
    (R := fun v => match v with | .inl r => r = ((kat xs k : Int), hit xs k) | .inr _ => kat xs k = xs.length) (by
    rintro _ ⟨i, rfl, h1, h2⟩
    unfold m16_r06_Find_s2
    by_cases hi : i < xs.length
    · have e := List.getElem?_eq_getElem hi
      rw [if_pos (decide_eq_true (by omega)), idx_nat, e]
      simp only [Option.bind_some, rcmp_m _ _ (hx _ (List.getElem_mem hi))]
      by_cases hc : 0 ≤ cmpL xs[i] k
      · right; right
        rw [if_pos (decide_eq_true hc)]
        have ea := kat_of e hc h2
        refine ⟨_, rfl, ?_⟩
        show _ = _
        unfold hit
        rw [ea, e, cmp_zero_beq]
        rfl
      · left
        rw [if_neg (by rw [decide_eq_true_eq]; exact hc)]
        refine ⟨_, rfl, ⟨i + 1, by rw [wI_id (by omega) (by omega)]; rfl, hi, fun j y hj hy => ?_⟩, by rw [wI_id (by omega) (by omega)]; omega⟩
        rcases Nat.lt_succ_iff_lt_or_eq.1 hj with h | rfl
        · exact h2 j y h hy
        · rw [e] at hy; cases hy; omega
    · right; left
      rw [if_neg (by rw [decide_eq_true_eq]; omega)]
      refine ⟨_, rfl, ?_⟩
      have : i = xs.length := by omega
      subst this
      exact kat_none h2) fuel 0 ⟨0, rfl, Nat.zero_le _, fun j y hj => absurd hj (Nat.not_lt_zero _)⟩ (lt_fuel (by show xs.length - 0 ≤ _; omega))
  unfold m16_r06_Find
  rw [hv]
  simp only [Option.bind_some]
  cases v with
  | inl r => rw [show r = ((kat xs k : Int), hit xs k) from hr]
  | inr u =>
    have e : kat xs k = xs.length := hr
    unfold m16_r06_Find_k1 hit
    rw [e]
    simp

def ins (xs : Keys) (k : List UInt8) : Keys := if hit xs k then xs else xs.take (kat xs k) ++ k :: xs.drop (kat xs k)
/-- What has been put down when j of them have been seen. -/
def part (xs : Keys) (k : List UInt8) (j : Nat) : Keys := if hit xs k = true ∨ j ≤ kat xs k then xs.take j else xs.take (kat xs k) ++ k :: (xs.drop (kat xs k)).take (j - kat xs k)
theorem hit_lt {xs : Keys} {k : List UInt8} (h : hit xs k = true) : kat xs k < xs.length := by
  unfold hit at h
  have := eq_of_beq h
  exact (List.getElem?_eq_some_iff.1 this).1
theorem part_len (xs : Keys) (k : List UInt8) (j : Nat) : (part xs k j).length ≤ j + 1 := by
  unfold part
  split
  · rw [List.length_take]; omega
  · simp only [List.length_append, List.length_cons, List.length_take]; omega
theorem part_end (xs : Keys) (k : List UInt8) : (if kat xs k = xs.length then part xs k xs.length ++ [k] else part xs k xs.length) = ins xs k := by
  unfold part ins
  by_cases hh : hit xs k = true
  · have := hit_lt hh
    rw [if_neg (by omega), if_pos (.inl hh), if_pos hh, List.take_length]
  · rw [if_neg hh]
    by_cases he : kat xs k = xs.length
    · rw [if_pos he, if_pos (.inr (by omega)), he, List.take_length, List.drop_length]
    · have := kat_le xs k
      rw [if_neg he, if_neg (by intro h; rcases h with h | h; exact hh h; omega)]
      congr 2
      rw [List.take_of_length_le (by rw [List.length_drop]; omega)]
theorem part_step (xs : Keys) (k : List UInt8) {j : Nat} {x : List UInt8} (h : xs[j]? = some x) : part xs k (j + 1) = (if j = kat xs k ∧ hit xs k = false then part xs k j ++ [k] else part xs k j) ++ [x] := by
  obtain ⟨hj, rfl⟩ := List.getElem?_eq_some_iff.1 h
  unfold part
  by_cases hh : hit xs k = true
  · rw [if_pos (.inl hh), if_neg (by rw [hh]; simp), if_pos (.inl hh), List.take_succ_eq_append_getElem hj]
  · have hf : hit xs k = false := by simpa using hh
    have hn : ∀ p : Prop, (hit xs k = true ∨ p) = p := fun p => by rw [hf]; simp
    simp only [hn]
    by_cases h1 : j + 1 ≤ kat xs k
    · rw [if_pos h1, if_neg (fun h => by have := h.1; omega), if_pos (by omega), List.take_succ_eq_append_getElem hj]
    · rw [if_neg h1]
      by_cases h2 : j = kat xs k
      · rw [if_pos ⟨h2, hf⟩, if_pos (by omega), ← h2, show j + 1 - j = 1 from by omega]
        simp
        rw [List.drop_eq_getElem_cons hj]
        rfl
      · rw [if_neg (fun h => h2 h.1), if_neg (by omega), show j + 1 - kat xs k = (j - kat xs k) + 1 from by omega, List.take_succ_eq_append_getElem (by rw [List.length_drop]; omega)]
        simp only [List.getElem_drop, List.append_assoc, List.cons_append, show kat xs k + (j - kat xs k) = j from by omega]

theorem insert_m (xs : Keys) (k : List UInt8) (hn : xs.length ≤ 100000) (hx : ∀ x ∈ xs, x.length ≤ 1000000) (hk : k.length ≤ 1000000) : m19_keys_Insert xs k = some (ins xs k) := by
  have ck : m38_bytes_Cloneo k = some k := m38_bytes_Cloneo_m k (by omega)
  obtain ⟨v, hv, rfl⟩ := iterB_inv (f := m19_keys_Insert_s6 xs k ((kat xs k : Int), hit xs k)) (P := fun s => ∃ i : Nat, i ≤ xs.length ∧ s = ((i : Int), part xs k i)) (μ := fun s => xs.length - s.1.toNat) (R := fun v => v = part xs k xs.length) (by
    rintro _ ⟨i, hi, rfl⟩
    unfold m19_keys_Insert_s6
    rcases Nat.lt_or_ge i xs.length with hlt | hge
    · left
      have e := List.getElem?_eq_getElem hlt
      have cx : m38_bytes_Cloneo xs[i] = some xs[i] := m38_bytes_Cloneo_m _ (by have := hx _ (List.getElem_mem hlt); omega)
      have hl := part_len xs k i
      refine ⟨(((i + 1 : Nat) : Int), part xs k (i + 1)), ?_, ⟨i + 1, hlt, rfl⟩, by simp only [Int.toNat_natCast]; omega⟩
      rw [if_pos (decide_eq_true (by show (i : Int) < xs.length; omega))]
      dsimp only
      rw [idx_nat, e, Option.bind_some]
      unfold m19_keys_Insert_k8
      simp only [ck, cx, Option.bind_some]
      rw [part_step xs k e, wI_id (by omega) (by omega)]
      by_cases h1 : i = kat xs k
      · rw [if_pos (decide_eq_true (by omega))]
        cases hh : hit xs k with
        | true => rw [if_neg (by simp), if_pos (by simp; omega), if_neg (by simp)]; rfl
        | false => rw [if_pos (by simp), if_pos (by simp; omega), if_pos (by simp; omega), if_pos ⟨h1, rfl⟩]; rfl
      · rw [if_neg (by rw [decide_eq_true_eq]; omega), if_pos (by simp; omega), if_neg (fun h => h1 h.1)]; rfl
    · right
      have e : i = xs.length := by omega
      subst e
      refine ⟨_, ?_, rfl⟩
      rw [if_neg (by rw [decide_eq_true_eq]; exact Int.lt_irrefl _)]) fuel (0, ([] : Keys)) ⟨0, Nat.zero_le _, by unfold part; rw [if_pos (.inr (Nat.zero_le _))]; rfl⟩ (lt_fuel (by show xs.length - 0 ≤ _; omega))
  unfold m19_keys_Insert
  rw [find_m xs k (by omega)]
  simp only [Option.bind_some]
  rw [wI_id (by omega) (by omega), if_pos ⟨Int.le_refl _, by omega, by omega⟩, hv]
  simp only [Option.bind_some]
  unfold m19_keys_Insert_k3
  have hl := part_len xs k xs.length
  have hp := part_end xs k
  dsimp only
  simp only [ck, Option.bind_some]
  by_cases he : kat xs k = xs.length
  · rw [if_pos he] at hp
    rw [if_pos (decide_eq_true (by omega)), if_pos (by simp; omega), hp]
  · rw [if_neg he] at hp
    rw [if_neg (by rw [decide_eq_true_eq]; omega), hp]
theorem rinsert_m (xs : Keys) (k : List UInt8) (hn : xs.length ≤ 100000) (hx : ∀ x ∈ xs, x.length ≤ 1000000) (hk : k.length ≤ 1000000) : m20_r06_Insert xs k = some (ins xs k) := by
  unfold m20_r06_Insert
  rw [rfind_m xs k (by omega) (fun x h => by have := hx x h; omega)]
  simp only [Option.bind_some]
  have hle := kat_le xs k
  unfold ins
  cases hh : hit xs k with
  | true => rw [if_pos rfl, if_pos rfl, if_pos (by simp; omega)]; rfl
  | false =>
    rw [if_neg (by simp), if_neg (by simp), cut_of (Int.le_refl _) (by omega) (by omega)]
    simp only [Option.bind_some]
    rw [if_pos (by simp; omega), if_pos (by simp; omega), cut_of (by omega) (by omega) (Int.le_refl _)]
    simp only [Option.bind_some]
    rw [if_pos (by simp; omega)]
    simp
    rw [List.take_of_length_le (by simp)]
theorem lists_m (xs : Keys) (hn : xs.length ≤ 1000000000000000000) : m18_r03_Lists xs xs = some true := by
  obtain ⟨v, hv, hr⟩ := iter_inv (f := m18_r03_Lists_s2 xs xs) (P := fun s => ∃ i : Nat, s = (i : Int) ∧ i ≤ xs.length) (μ := fun s => xs.length - s.toNat)
    (R := fun v => match v with | .inl r => False | .inr _ => True) (by
    rintro _ ⟨i, rfl, h1⟩
    unfold m18_r03_Lists_s2
    by_cases hi : i < xs.length
    · left
      rw [if_pos (decide_eq_true (by omega)), idx_nat, List.getElem?_eq_getElem hi]
      simp only [Option.bind_some]
      rw [if_neg (by simp)]
      exact ⟨_, rfl, ⟨i + 1, by rw [wI_id (by omega) (by omega)]; rfl, hi⟩, by rw [wI_id (by omega) (by omega)]; omega⟩
    · right; left
      rw [if_neg (by rw [decide_eq_true_eq]; omega)]
      exact ⟨_, rfl, trivial⟩) fuel 0 ⟨0, rfl, Nat.zero_le _⟩ (lt_fuel (by show xs.length - 0 ≤ _; omega))
  unfold m18_r03_Lists
  rw [if_neg (by simp), hv]
  cases v with
  | inl r => exact hr.elim
  | inr u => rfl
end Go.Proofs.Ytiadgkkebmclgaa.Abs
