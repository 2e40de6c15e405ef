/-
  What the library's functions compute.
-/
import Derived.Test.YtbmciegldpeaiaaS11
namespace Go.Proofs.Ytbmciegldpeaiaa.Abs




theorem cmp_m (a b : List UInt8) : m74_keys_Cmp a b = some (cmpL a b) := rfl

theorem cmpL_drop {a b : List UInt8} {i : Nat} {x y : UInt8} (ha : a[i]? = some x) (hb : b[i]? = some y) : cmpL (a.drop i) (b.drop i) = if x < y then -1 else if y < x then 1 else cmpL (a.drop (i + 1)) (b.drop (i + 1)) := by
  obtain ⟨h1, rfl⟩ := List.getElem?_eq_some_iff.1 ha
  obtain ⟨h2, rfl⟩ := List.getElem?_eq_some_iff.1 hb
  rw [List.drop_eq_getElem_cons h1, List.drop_eq_getElem_cons h2]
  rfl
theorem u8_lt_int (x y : UInt8) : ((x.toBitVec.toNat : Int) < (y.toBitVec.toNat : Int)) ↔ x < y := by
  rw [UInt8.lt_iff_toNat_lt, Int.ofNat_lt]
  rfl
theorem rcmp_m (a b : List UInt8) (ha : a.length ≤ 1000000000000000000) : m56_r06_Cmp a b = some (cmpL a b) := by
  obtain ⟨v, hv, hr⟩ := iter_inv (f := m56_r06_Cmp_s2 a b) (P := fun s => ∃ i : Nat, s = (i : Int) ∧ i ≤ a.length ∧ i ≤ b.length ∧ cmpL a b = cmpL (a.drop i) (b.drop i)) (μ := fun s => a.length - s.toNat)
    (R := fun v => match v with | .inl r => r = cmpL a b | .inr _ => cmpL a b = if a.length < b.length then -1 else if b.length < a.length then 1 else 0) (by
    rintro _ ⟨i, rfl, h1, h2, h3⟩
    unfold m56_r06_Cmp_s2
    by_cases ha' : i < a.length
    · rw [if_pos (decide_eq_true (by omega))]
      by_cases hb' : i < b.length
      · rw [if_pos (decide_eq_true (by omega))]
        unfold m56_r06_Cmp_k3
        have ea := List.getElem?_eq_getElem ha'
        have eb := List.getElem?_eq_getElem hb'
        have e := cmpL_drop ea eb
        rw [idx_nat, idx_nat, ea, eb]
        simp only [Option.bind_some]
        by_cases hx : a[i] < b[i]
        · right; right
          rw [if_pos (decide_eq_true ((u8_lt_int _ _).2 hx))]
          refine ⟨_, rfl, ?_⟩
          show (-1 : Int) = _
          rw [h3, e, if_pos hx]
        · rw [if_neg (by rw [decide_eq_true_eq, u8_lt_int]; exact hx)]
          by_cases hy : b[i] < a[i]
          · right; right
            rw [if_pos (decide_eq_true ((u8_lt_int _ _).2 hy))]
            refine ⟨_, rfl, ?_⟩
            show (1 : Int) = _
            rw [h3, e, if_neg hx, if_pos hy]
          · left
            rw [if_neg (by rw [decide_eq_true_eq, u8_lt_int]; exact hy)]
            refine ⟨_, rfl, ⟨i + 1, by rw [wI_id (by omega) (by omega)]; rfl, ha', hb', by rw [h3, e, if_neg hx, if_neg hy]⟩, by rw [wI_id (by omega) (by omega)]; omega⟩
      · right; left
        rw [if_neg (by rw [decide_eq_true_eq]; omega)]
        refine ⟨_, rfl, ?_⟩
        show cmpL a b = _
        have : i = b.length := by omega
        rw [h3, this, List.drop_length, List.drop_eq_getElem_cons (by omega), if_neg (by omega), if_pos (by omega)]
        rfl
    · right; left
      rw [if_neg (by rw [decide_eq_true_eq]; omega)]
      refine ⟨_, rfl, ?_⟩
      show cmpL a b = _
      have : i = a.length := by omega
      rw [h3, this, List.drop_length]
      by_cases hb' : a.length < b.length
      · rw [List.drop_eq_getElem_cons hb', if_pos hb']; rfl
      · rw [List.drop_of_length_le (by omega), if_neg hb', if_neg (by omega)]; rfl) fuel 0 ⟨0, rfl, Nat.zero_le _, Nat.zero_le _, rfl⟩ (lt_fuel (by show a.length - 0 ≤ _; omega))
  unfold m56_r06_Cmp
  rw [hv, Option.bind_some]
  cases v with
  | inl r => rw [show r = cmpL a b from hr]
  | inr u =>
    have hr' : cmpL a b = if a.length < b.length then -1 else if b.length < a.length then 1 else 0 := hr
    unfold m56_r06_Cmp_k1
    rw [hr']
    by_cases h1 : a.length < b.length
    · rw [if_pos (decide_eq_true (by omega)), if_pos h1]
    · rw [if_neg (by rw [decide_eq_true_eq]; omega), if_neg h1]
      by_cases h2 : b.length < a.length
      · rw [if_pos (decide_eq_true (by omega)), if_pos h2]
      · rw [if_neg (by rw [decide_eq_true_eq]; omega), if_neg h2]

def hasV (r : GApiRange) (k : List UInt8) : Bool := decide (0 ≤ cmpL k r.Lo) && (r.Open || decide (cmpL k r.Hi < 0))
theorem has_m (r : GApiRange) (k : List UInt8) : m63_keys_Has r k = some (hasV r k) := by
  unfold m63_keys_Has hasV
  simp only [cmp_m, Option.bind_some]
  cases decide (0 ≤ cmpL k r.Lo) <;> cases r.Open <;> simp
theorem rhas_m (r : GApiRange) (k : List UInt8) (h : k.length ≤ 1000000000000000000) : m34_r06_Has r k = some (hasV r k) := by
  unfold m34_r06_Has hasV
  simp only [rcmp_m _ _ h, Option.bind_some]
  cases decide (0 ≤ cmpL k r.Lo) <;> cases r.Open <;> simp
def emptyV (r : GApiRange) : Bool := !r.Open && ((decide (r.Lo = []) && decide (r.Hi = [0])) || decide (cmpL r.Hi r.Lo ≤ 0))
theorem len0 {α : Type} (a : List α) : decide ((a.length : Int) = 0) = decide (a = []) := by
  rw [decide_eq_decide]
  cases a <;> simp
  omega
theorem empty_m (r : GApiRange) : m70_keys_Empty r = some (emptyV r) := by
  obtain ⟨lo, hi, o⟩ := r
  unfold m70_keys_Empty m70_keys_Empty_k1 emptyV
  simp only [cmp_m, Option.bind_some, len0]
  cases o with
  | true => rfl
  | false =>
    cases lo with
    | cons x xs => simp
    | nil =>
      rcases hi with _ | ⟨x, _ | ⟨y, ys⟩⟩
      · simp
      · have e : (decide ((x.toBitVec.toNat : Int) = (0 : Int))) = decide (x = 0) := by
          rw [decide_eq_decide]
          constructor
          · intro h; exact UInt8.toNat_inj.1 (by have : x.toNat = 0 := by have h' : ((x.toNat : Nat) : Int) = 0 := h; omega
                                                 rw [this]; rfl)
          · rintro rfl; rfl
        rw [show idx [x] 0 = some x from rfl]
        simp only [Option.bind_some, e]
        by_cases hx : x = 0 <;> simp [hx]
      · have : ((List.length (x :: y :: ys) : Nat) : Int) ≠ 1 := by simp; omega
        simp [this]
        omega
theorem rone_m (a : List UInt8) (h : a.length ≤ 1000000) : m51_r06_One a = some ⟨a, a ++ [0], false⟩ := by
  unfold m51_r06_One
  rw [if_pos (by simp; omega), if_pos (by simp; omega)]
  simp

theorem cmpL_app_lt : ∀ {k a : List UInt8}, cmpL k (a ++ [0]) < 0 → cmpL k a ≤ 0
  | k, [], h => by rw [cmpL_one h]; exact Int.le_refl _
  | [], x :: xs, _ => by show (-1 : Int) ≤ 0; decide
  | y :: ys, x :: xs, h => by
    have h' : (if y < x then (-1 : Int) else if x < y then 1 else cmpL ys (xs ++ [0])) < 0 := h
    show (if y < x then (-1 : Int) else if x < y then 1 else cmpL ys xs) ≤ 0
    by_cases h1 : y < x
    · rw [if_pos h1]; decide
    · rw [if_neg h1] at h' ⊢
      by_cases h2 : x < y
      · rw [if_pos h2] at h'; exact absurd h' (by decide)
      · rw [if_neg h2] at h' ⊢
        exact cmpL_app_lt h'



abbrev Keys := List (List UInt8)
def kat (xs : Keys) (k : List UInt8) : Nat := xs.findIdx (fun x => decide (0 ≤ cmpL x k))
def hit (xs : Keys) (k : List UInt8) : Bool := xs[kat xs k]? == some k
theorem kat_le (xs : Keys) (k : List UInt8) : kat xs k ≤ xs.length := List.findIdx_le_length
theorem kat_of {xs : Keys} {k : List UInt8} {i : Nat} {x : List UInt8} (h : xs[i]? = some x) (h1 : 0 ≤ cmpL x k) (h2 : ∀ j y, j < i → xs[j]? = some y → cmpL y k < 0) : kat xs k = i := by
  obtain ⟨hi, rfl⟩ := List.getElem?_eq_some_iff.1 h
  unfold kat
  rw [List.findIdx_eq hi]
  refine ⟨by simpa using h1, fun j hj => ?_⟩
  have := h2 j xs[j] hj (List.getElem?_eq_getElem (by omega))
  rw [decide_eq_false_iff_not]
  omega
theorem kat_none {xs : Keys} {k : List UInt8} (h : ∀ j y, j < xs.length → xs[j]? = some y → cmpL y k < 0) : kat xs k = xs.length := by
  unfold kat
  rw [List.findIdx_eq_length]
  intro x hx
  obtain ⟨j, hj, rfl⟩ := List.getElem_of_mem hx
  have := h j xs[j] hj (List.getElem?_eq_getElem hj)
  rw [decide_eq_false_iff_not]
  omega
theorem cmp_zero_beq (x k : List UInt8) : decide (cmpL x k = 0) = (x == k) := by
  by_cases h : x = k
  · subst h; simp [cmpL_self]
  · rw [beq_false_of_ne h, decide_eq_false_iff_not]
    exact fun e => h (cmpL_zero e)

theorem find_m (xs : Keys) (k : List UInt8) (hn : xs.length ≤ 1000000000000000000) : m66_keys_Find xs k = some ((kat xs k : Int), hit xs k) := by
  obtain ⟨v, hv, hr⟩ := iter_inv (f := m75_slices_IndexFuncs_s2 xs k) (P := fun s => ∃ i : Nat, s = (i : Int) ∧ i ≤ xs.length ∧ ∀ j y, j < i → xs[j]? = some y → cmpL y k < 0) (μ := fun s => xs.length - s.toNat)
    (R := fun v => match v with | .inl r => r = (kat xs k : Int) ∧ kat xs k < xs.length | .inr _ => kat xs k = xs.length) (by
    rintro _ ⟨i, rfl, h1, h2⟩
    unfold m75_slices_IndexFuncs_s2 m76_keys_key_reacheds
    by_cases hi : i < xs.length
    · have e := List.getElem?_eq_getElem hi
      rw [if_pos (decide_eq_true (by omega)), idx_nat, e]
      simp only [Option.bind_some, cmp_m]
      by_cases hc : 0 ≤ cmpL xs[i] k
      · right; right
        rw [if_pos (decide_eq_true hc)]
        have ea := kat_of e hc h2
        exact ⟨_, rfl, by rw [ea], by rw [ea]; exact hi⟩
      · left
        rw [if_neg (by rw [decide_eq_true_eq]; exact hc)]
        refine ⟨_, rfl, ⟨i + 1, by rw [wI_id (by omega) (by omega)]; rfl, hi, fun j y hj hy => ?_⟩, by rw [wI_id (by omega) (by omega)]; omega⟩
        rcases Nat.lt_succ_iff_lt_or_eq.1 hj with h | rfl
        · exact h2 j y h hy
        · rw [e] at hy; cases hy; omega
    · right; left
      rw [if_neg (by rw [decide_eq_true_eq]; omega)]
      refine ⟨_, rfl, ?_⟩
      have : i = xs.length := by omega
      subst this
      exact kat_none h2) fuel 0 ⟨0, rfl, Nat.zero_le _, fun j y hj => absurd hj (Nat.not_lt_zero _)⟩ (lt_fuel (by show xs.length - 0 ≤ _; omega))
  unfold m66_keys_Find m75_slices_IndexFuncs
  rw [hv]
  simp only [Option.bind_some]
  cases v with
  | inl r =>
    obtain ⟨rfl, hlt⟩ : r = (kat xs k : Int) ∧ kat xs k < xs.length := hr
    simp only [Option.bind_some]
    rw [if_neg (by rw [decide_eq_true_eq]; omega), idx_nat, List.getElem?_eq_getElem hlt]
    simp only [Option.bind_some, m77_bytes_Equal]
    unfold hit
    rw [List.getElem?_eq_getElem hlt]
    rfl
  | inr u =>
    have e : kat xs k = xs.length := hr
    unfold m75_slices_IndexFuncs_k1
    simp only [Option.bind_some]
    rw [if_pos (by decide)]
    unfold hit
    rw [e]
    simp
def ins (xs : Keys) (k : List UInt8) : Keys := if hit xs k then xs else xs.take (kat xs k) ++ k :: xs.drop (kat xs k)

def part (xs : Keys) (k : List UInt8) (j : Nat) : Keys := if hit xs k = true ∨ j ≤ kat xs k then xs.take j else xs.take (kat xs k) ++ k :: (xs.drop (kat xs k)).take (j - kat xs k)
theorem hit_lt {xs : Keys} {k : List UInt8} (h : hit xs k = true) : kat xs k < xs.length := by
  unfold hit at h
  have := eq_of_beq h
  exact (List.getElem?_eq_some_iff.1 this).1
theorem part_len (xs : Keys) (k : List UInt8) (j : Nat) : (part xs k j).length ≤ j + 1 := by
  unfold part
  split
  · rw [List.length_take]; omega
  · simp only [List.length_append, List.length_cons, List.length_take]; omega
theorem part_end (xs : Keys) (k : List UInt8) : (if kat xs k = xs.length then part xs k xs.length ++ [k] else part xs k xs.length) = ins xs k := by
  unfold part ins
  by_cases hh : hit xs k = true
  · have := hit_lt hh
    rw [if_neg (by omega), if_pos (.inl hh), if_pos hh, List.take_length]
  · rw [if_neg hh]
    by_cases he : kat xs k = xs.length
    · rw [if_pos he, if_pos (.inr (by omega)), he, List.take_length, List.drop_length]
    · have := kat_le xs k
      rw [if_neg he, if_neg (by intro h; rcases h with h | h; exact hh h; omega)]
      congr 2
      rw [List.take_of_length_le (by rw [List.length_drop]; omega)]
theorem part_step (xs : Keys) (k : List UInt8) {j : Nat} {x : List UInt8} (h : xs[j]? = some x) : part xs k (j + 1) = (if j = kat xs k ∧ hit xs k = false then part xs k j ++ [k] else part xs k j) ++ [x] := by
  obtain ⟨hj, rfl⟩ := List.getElem?_eq_some_iff.1 h
  unfold part
  by_cases hh : hit xs k = true
  · rw [if_pos (.inl hh), if_neg (by rw [hh]; simp), if_pos (.inl hh), List.take_succ_eq_append_getElem hj]
  · have hf : hit xs k = false := by simpa using hh
    have hn : ∀ p : Prop, (hit xs k = true ∨ p) = p := fun p => by rw [hf]; simp
    simp only [hn]
    by_cases h1 : j + 1 ≤ kat xs k
    · rw [if_pos h1, if_neg (fun h => by have := h.1; omega), if_pos (by omega), List.take_succ_eq_append_getElem hj]
    · rw [if_neg h1]
      by_cases h2 : j = kat xs k
      · rw [if_pos ⟨h2, hf⟩, if_pos (by omega), ← h2, show j + 1 - j = 1 from by omega]
        simp
        rw [List.drop_eq_getElem_cons hj]
        rfl
      · rw [if_neg (fun h => h2 h.1), if_neg (by omega), show j + 1 - kat xs k = (j - kat xs k) + 1 from by omega, List.take_succ_eq_append_getElem (by rw [List.length_drop]; omega)]
        simp only [List.getElem_drop, List.append_assoc, List.cons_append, show kat xs k + (j - kat xs k) = j from by omega]



abbrev PW (xs : Keys) : Prop := xs.Pairwise (fun x y => cmpL x y < 0)
theorem lt_kat {xs : Keys} {k x : List UInt8} (h : x ∈ xs.take (kat xs k)) : cmpL x k < 0 := by
  obtain ⟨j, hj, rfl⟩ := List.getElem_of_mem h
  rw [List.length_take] at hj
  rw [List.getElem_take]
  have := List.not_of_lt_findIdx (p := fun x => decide (0 ≤ cmpL x k)) (xs := xs) (i := j) (by have h' : kat xs k = List.findIdx (fun x => decide (0 ≤ cmpL x k)) xs := rfl; omega)
  have h2 : ¬ 0 ≤ cmpL xs[j] k := by simpa using this
  omega
theorem kat_ge {xs : Keys} {k : List UInt8} (h : kat xs k < xs.length) : 0 ≤ cmpL xs[kat xs k] k := by
  have := List.findIdx_getElem (p := fun x => decide (0 ≤ cmpL x k)) (xs := xs) (w := h)
  exact of_decide_eq_true this
theorem hit_mem {xs : Keys} {k : List UInt8} (h : hit xs k = true) : k ∈ xs := by
  unfold hit at h
  exact List.mem_of_getElem? (eq_of_beq h)
theorem mem_hit {xs : Keys} {k : List UInt8} (hp : PW xs) (h : k ∈ xs) : hit xs k = true := by
  obtain ⟨j, hj, rfl⟩ := List.getElem_of_mem h
  have hle : kat xs xs[j] ≤ j := by
    rcases Nat.lt_or_ge j (kat xs xs[j]) with h1 | h1
    · have := lt_kat (xs := xs) (k := xs[j]) (x := xs[j]) (List.mem_take_iff_getElem.2 ⟨j, by omega, rfl⟩)
      rw [cmpL_self] at this
      omega
    · exact h1
  have hk : kat xs xs[j] < xs.length := by omega
  unfold hit
  rw [List.getElem?_eq_getElem hk]
  rcases Nat.lt_or_ge (kat xs xs[j]) j with h1 | h1
  · have h2 := List.pairwise_iff_getElem.1 hp _ _ hk hj h1
    have h3 := kat_ge hk
    omega
  · have e : kat xs xs[j] = j := by omega
    simp only [e]
    simp
theorem hit_iff {xs : Keys} {k : List UInt8} (hp : PW xs) : hit xs k = true ↔ k ∈ xs := ⟨hit_mem, mem_hit hp⟩
theorem ins_mem {xs : Keys} {k x : List UInt8} : x ∈ ins xs k ↔ x = k ∨ x ∈ xs := by
  unfold ins
  by_cases h : hit xs k = true
  · rw [if_pos h]
    constructor
    · exact .inr
    · rintro (rfl | h')
      · exact hit_mem h
      · exact h'
  · rw [if_neg h]
    have e : x ∈ xs ↔ x ∈ xs.take (kat xs k) ∨ x ∈ xs.drop (kat xs k) := by
      rw [← List.mem_append, List.take_append_drop]
    rw [List.mem_append, List.mem_cons, e]
    constructor
    · rintro (h1 | rfl | h1)
      · exact .inr (.inl h1)
      · exact .inl rfl
      · exact .inr (.inr h1)
    · rintro (rfl | h1 | h1)
      · exact .inr (.inl rfl)
      · exact .inl h1
      · exact .inr (.inr h1)
theorem ins_len (xs : Keys) (k : List UInt8) : (ins xs k).length = if hit xs k = true then xs.length else xs.length + 1 := by
  unfold ins
  have := kat_le xs k
  split
  · rfl
  · simp; omega
theorem ins_pw {xs : Keys} {k : List UInt8} (hp : PW xs) : PW (ins xs k) := by
  unfold ins
  by_cases h : hit xs k = true
  · rw [if_pos h]; exact hp
  · rw [if_neg h]
    have hap : PW (xs.take (kat xs k) ++ xs.drop (kat xs k)) := by rw [List.take_append_drop]; exact hp
    obtain ⟨h1, h2, h3⟩ := List.pairwise_append.1 hap
    have hk : ∀ y ∈ xs.drop (kat xs k), cmpL k y < 0 := by
      intro y hy
      have hlt : kat xs k < xs.length := by
        rcases Nat.lt_or_ge (kat xs k) xs.length with h' | h'
        · exact h'
        · rw [List.drop_of_length_le h'] at hy; cases hy
      have hge := kat_ge hlt
      have hne : cmpL xs[kat xs k] k ≠ 0 := fun e => h (by
        unfold hit
        rw [List.getElem?_eq_getElem hlt, cmpL_zero e]
        simp)
      have hs := cmpL_swap k xs[kat xs k]
      have hlt2 : cmpL k xs[kat xs k] < 0 := by omega
      rw [List.drop_eq_getElem_cons hlt] at hy h2
      rcases List.mem_cons.1 hy with rfl | hy
      · exact hlt2
      · have := (List.pairwise_cons.1 h2).1 y hy
        exact (cmpL_trans (Int.le_of_lt hlt2) (Int.le_of_lt this)).2 (.inl hlt2)
    refine List.pairwise_append.2 ⟨h1, List.pairwise_cons.2 ⟨hk, h2⟩, fun x hx y hy => ?_⟩
    rcases List.mem_cons.1 hy with rfl | hy
    · exact lt_kat hx
    · exact h3 x hx y hy

theorem sorted_m {xs : Keys} (hp : PW xs) (hn : xs.length ≤ 1000000000000000000) : m72_keys_Sorted xs = some true := by
  obtain ⟨v, hv, hr⟩ := iter_inv (f := m72_keys_Sorted_s2 xs) (P := fun s => ∃ i : Nat, s = (i : Int) ∧ 1 ≤ i) (μ := fun s => xs.length - s.toNat)
    (R := fun v => match v with | .inl r => False | .inr _ => True) (by
    rintro _ ⟨i, rfl, h1⟩
    unfold m72_keys_Sorted_s2
    by_cases hi : i < xs.length
    · left
      rw [if_pos (decide_eq_true (by omega)), wI_id (by omega) (by omega), show (i : Int) - 1 = ((i - 1 : Nat) : Int) from by omega, idx_nat, idx_nat, List.getElem?_eq_getElem hi, List.getElem?_eq_getElem (by omega)]
      simp only [Option.bind_some, cmp_m]
      have := List.pairwise_iff_getElem.1 hp (i - 1) i (by omega) hi (by omega)
      rw [if_neg (by rw [decide_eq_true_eq]; omega)]
      exact ⟨_, rfl, ⟨i + 1, by rw [wI_id (by omega) (by omega)]; rfl, by omega⟩, by rw [wI_id (by omega) (by omega)]; omega⟩
    · right; left
      rw [if_neg (by rw [decide_eq_true_eq]; omega)]
      exact ⟨_, rfl, trivial⟩) fuel 1 ⟨1, rfl, Nat.le_refl _⟩ (lt_fuel (by show xs.length - 1 ≤ _; omega))
  unfold m72_keys_Sorted
  rw [hv]
  cases v with
  | inl r => exact hr.elim
  | inr u => rfl
theorem sorted_some (xs : Keys) (hn : xs.length ≤ 1000000000000000000) : ∃ v, m72_keys_Sorted xs = some v := by
  obtain ⟨v, hv, hr⟩ := iter_inv (f := m72_keys_Sorted_s2 xs) (P := fun s => ∃ i : Nat, s = (i : Int) ∧ 1 ≤ i) (μ := fun s => xs.length - s.toNat)
    (R := fun _ => True) (by
    rintro _ ⟨i, rfl, h1⟩
    unfold m72_keys_Sorted_s2
    by_cases hi : i < xs.length
    · rw [if_pos (decide_eq_true (by omega)), wI_id (by omega) (by omega), show (i : Int) - 1 = ((i - 1 : Nat) : Int) from by omega, idx_nat, idx_nat, List.getElem?_eq_getElem hi, List.getElem?_eq_getElem (by omega)]
      simp only [Option.bind_some, cmp_m]
      by_cases hc : 0 ≤ cmpL xs[i - 1] xs[i]
      · right; right
        rw [if_pos (decide_eq_true hc)]
        exact ⟨_, rfl, trivial⟩
      · left
        rw [if_neg (by rw [decide_eq_true_eq]; omega)]
        exact ⟨_, rfl, ⟨i + 1, by rw [wI_id (by omega) (by omega)]; rfl, by omega⟩, by rw [wI_id (by omega) (by omega)]; omega⟩
    · right; left
      rw [if_neg (by rw [decide_eq_true_eq]; omega)]
      exact ⟨_, rfl, trivial⟩) fuel 1 ⟨1, rfl, Nat.le_refl _⟩ (lt_fuel (by show xs.length - 1 ≤ _; omega))
  unfold m72_keys_Sorted
  rw [hv]
  cases v with
  | inl r => exact ⟨r, rfl⟩
  | inr u => exact ⟨true, rfl⟩
theorem idx_mem {α : Type} {xs : List α} {j : Int} {u : α} (h : idx xs j = some u) : u ∈ xs := List.mem_of_getElem? (idx_eq h).2


theorem short_m (r : GApiRange) : ∃ v, m18_r06_Short r = some v ∧ (v = true → r.Lo.length ≤ 100 ∧ r.Hi.length ≤ 100) := by
  unfold m18_r06_Short
  by_cases h1 : (r.Lo.length : Int) ≤ 100
  · rw [if_pos (decide_eq_true h1)]
    exact ⟨_, rfl, fun h => ⟨by omega, by have := of_decide_eq_true h; omega⟩⟩
  · rw [if_neg (by rw [decide_eq_true_eq]; exact h1)]
    exact ⟨_, rfl, fun h => by cases h⟩
def knR (x : GReadsRead) : GReadsKnown := ⟨x.Tx, x.Rng.Lo, x.Rng.Hi, x.Rng.Open⟩
theorem knR_inj {a b : GReadsRead} (h : knR a = knR b) : a = b := by
  cases a with | mk t r => cases r; cases b with | mk t' r' => cases r'; simp [knR] at h; simp [h]
theorem kn_m (x : GReadsRead) : m60_reads_knownOf x = some (knR x) := rfl

/-! Where each stands -/
section
variable {κ : Type} [DecidableEq κ]
def addK (l : List κ) (k : κ) : List κ := if k ∈ l then l else l ++ [k]
theorem ixPut_keys (M : List (κ × Int)) (k : κ) (i : Int) : (ixPut M k i).map (·.1) = addK (M.map (·.1)) k := by
  unfold addK
  by_cases h : k ∈ M.map (·.1)
  · rw [if_pos h]
    unfold ixPut
    rw [if_pos (show (M.any fun x => decide (x.1 = k)) = true from ixHas_iff.2 h), List.map_map]
    apply List.map_congr_left
    intro x _
    simp only [Function.comp]
    split <;> rfl
  · rw [if_neg h, ixPut_new h, List.map_append]; rfl
theorem addK_mem {l : List κ} {k x : κ} : x ∈ addK l k ↔ x ∈ l ∨ x = k := by
  unfold addK
  split
  · constructor
    · exact .inl
    · rintro (h | rfl)
      · exact h
      · assumption
  · rw [List.mem_append, List.mem_singleton]
theorem addK_nodup {l : List κ} (h : l.Nodup) (k : κ) : (addK l k).Nodup := by
  unfold addK
  split
  · exact h
  · rename_i hk
    refine List.nodup_append.2 ⟨h, by simp, fun a ha b hb => ?_⟩
    rw [List.mem_singleton.1 hb]
    exact fun e => hk (e ▸ ha)
theorem foldK : ∀ (l acc : List κ), acc.Nodup → (l.foldl addK acc).Nodup ∧ (∀ x, x ∈ l.foldl addK acc ↔ x ∈ acc ∨ x ∈ l) ∧ (l.foldl addK acc).length ≤ acc.length + l.length ∧ ((l.foldl addK acc).length = acc.length + l.length ↔ (acc ++ l).Nodup)
  | [], acc, h => ⟨h, fun x => by simp, by simp, by simp [h]⟩
  | k :: l, acc, h => by
    obtain ⟨h1, h2, h3, h4⟩ := foldK l (addK acc k) (addK_nodup h k)
    rw [List.foldl_cons]
    have hlen : (addK acc k).length = acc.length ∧ k ∈ acc ∨ (addK acc k).length = acc.length + 1 ∧ k ∉ acc ∧ addK acc k = acc ++ [k] := by
      unfold addK
      split
      · exact .inl ⟨rfl, by assumption⟩
      · exact .inr ⟨by simp, by assumption, rfl⟩
    refine ⟨h1, fun x => ?_, ?_, ?_⟩
    · rw [h2, addK_mem, List.mem_cons, or_assoc]
    · rw [List.length_cons]; rcases hlen with ⟨h, _⟩ | ⟨h, _⟩ <;> omega
    · rcases hlen with ⟨h5, h6⟩ | ⟨h5, h6, h7⟩
      · constructor
        · intro he; rw [List.length_cons] at he; omega
        · intro hn
          have := (List.nodup_append.1 hn).2.2 k h6 k (List.mem_cons_self ..)
          exact absurd rfl this
      · rw [List.length_cons]
        rw [h7, List.append_assoc, List.singleton_append] at h4
        rw [← h4, h7]
        constructor <;> intro h <;> simp at h ⊢ <;> omega
end

theorem index_fold (l : List GReadsRead) : ∃ M : List (GReadsKnown × Int), (l.length ≤ 1000000 → True ∧ m53_reads_indexs l = some M) ∧ M.map (·.1) = (l.map knR).foldl addK [] := by
  have key : ∀ (f : Int × List (GReadsKnown × Int) → Option (LB (Int × List (GReadsKnown × Int)) (List (GReadsKnown × Int)))), (∀ (i : Nat) x acc, l[i]? = some x → l.length ≤ 1000000 → f ((i : Int), acc) = some (.cont (((i + 1 : Nat) : Int), ixPut acc (knR x) (i : Int)))) → (∀ acc, f ((l.length : Int), acc) = some (.brk acc)) →
      ∃ M, (l.length ≤ 1000000 → iterB f fuel (0, []) = some M) ∧ M.map (·.1) = (l.map knR).foldl addK [] := fun f h1 h2 => by
    by_cases hl : l.length ≤ 1000000
    · obtain ⟨v, hv, hr⟩ := iterB_inv (f := f) (P := fun s => ∃ (i : Nat) (M : List (GReadsKnown × Int)), i ≤ l.length ∧ s = ((i : Int), M) ∧ M.map (·.1) = ((l.take i).map knR).foldl addK []) (μ := fun s => l.length - s.1.toNat) (R := fun M => M.map (·.1) = (l.map knR).foldl addK []) (by
        rintro _ ⟨i, M, hi, rfl, hm⟩
        rcases Nat.lt_or_ge i l.length with hlt | hge
        · left
          refine ⟨_, h1 i _ _ (List.getElem?_eq_getElem hlt) hl, ⟨i + 1, _, hlt, rfl, ?_⟩, by simp only [Int.toNat_natCast]; omega⟩
          rw [ixPut_keys, hm, List.take_succ_eq_append_getElem hlt, List.map_append, List.foldl_append]
          rfl
        · right
          have e : i = l.length := by omega
          subst e
          exact ⟨_, h2 _, by rw [List.take_length] at hm; exact hm⟩) fuel (0, []) ⟨0, [], Nat.zero_le _, rfl, rfl⟩ (lt_fuel (by show l.length - 0 ≤ _; omega))
      exact ⟨v, fun _ => hv, hr⟩
    · refine ⟨((l.map knR).foldl addK []).map (fun k => (k, 0)), fun h => absurd h hl, ?_⟩
      rw [List.map_map]
      exact List.map_id _
  obtain ⟨M, hM, hk⟩ := key (m53_reads_indexs_s2 l) (fun i x acc hx hl => by
    have hlt := (List.getElem?_eq_some_iff.1 hx).1
    unfold m53_reads_indexs_s2
    dsimp only
    rw [if_pos (decide_eq_true (by omega)), idx_nat, hx, Option.bind_some, kn_m, Option.bind_some, wI_id (by omega) (by omega)]
    rfl) (fun acc => by
    unfold m53_reads_indexs_s2
    dsimp only
    rw [if_neg (by rw [decide_eq_true_eq]; omega)])
  refine ⟨M, fun hl => ?_, hk⟩
  have h := hM hl
  refine ⟨trivial, ?_⟩
  unfold m53_reads_indexs
  rw [h]; rfl

def srV (x : GReadsRead) : Bool := (m52_reads_saneRead x).getD false
theorem empty_some (r : GApiRange) : ∃ v, m70_keys_Empty r = some v := by
  unfold m70_keys_Empty m70_keys_Empty_k1
  simp only [cmp_m, Option.bind_some]
  repeat' (first | exact ⟨_, rfl⟩ | split | dsimp only [Option.bind_some])
  all_goals
    rename_i h1 h2
    have hl : (0 : Int) < r.Hi.length := by have := of_decide_eq_true h2; omega
    obtain ⟨u, hu, _⟩ := idx_get (xs := r.Hi) (j := 0) (by decide) hl
    rw [hu, Option.bind_some]
    split <;> exact ⟨_, rfl⟩
theorem sr_m (x : GReadsRead) : m52_reads_saneRead x = some (srV x) := by
  have : ∃ b, m52_reads_saneRead x = some b := by
    obtain ⟨v, hv⟩ := empty_some ⟨x.Rng.Lo, x.Rng.Hi, x.Rng.Open⟩
    unfold m52_reads_saneRead m69_keys_SaneRange
    simp only [hv, Option.bind_some]
    repeat' (first | exact ⟨_, rfl⟩ | split | dsimp only [Option.bind_some])
  obtain ⟨b, hb⟩ := this
  unfold srV
  rw [hb]; rfl

structure Good (l : List GReadsRead) : Prop where
  sr : ∀ x ∈ l, srV x = true
  len : l.length ≤ 128
  nd : l.Nodup
theorem Good.nil : Good [] := ⟨fun x h => (by simp at h), by decide, List.nodup_nil⟩
theorem nodup_kn {l : List GReadsRead} : (l.map knR).Nodup ↔ l.Nodup := by
  constructor
  · exact nodup_of_map _
  · intro h
    exact List.pairwise_map.2 (h.imp fun hne e => hne (knR_inj e))

theorem sane_m {l : List GReadsRead} (hl : l.length ≤ 1000000) : ∃ b, m29_reads_Sane ⟨l⟩ = some b ∧ (b = true ↔ Good l) := by
  unfold m29_reads_Sane
  rw [allR l srV false (m29_reads_Sane_s4 ⟨l⟩) (by omega) (fun i x hx => by
    have hlt := (List.getElem?_eq_some_iff.1 hx).1
    unfold m29_reads_Sane_s4
    dsimp only
    rw [if_pos (decide_eq_true (by omega)), idx_nat, hx, Option.bind_some, show (⟨x.Tx, ⟨x.Rng.Lo, x.Rng.Hi, x.Rng.Open⟩⟩ : GReadsRead) = x from rfl, sr_m, Option.bind_some, wI_id (by omega) (by omega)]
    cases srV x <;> rfl) (by
    unfold m29_reads_Sane_s4
    dsimp only
    rw [if_neg (by rw [decide_eq_true_eq]; omega)])]
  cases ha : l.all srV with
  | false =>
    refine ⟨false, rfl, (fun h => by cases h), fun h => ?_⟩
    rw [List.all_eq_true.2 h.sr] at ha; cases ha
  | true =>
    show ∃ b, m29_reads_Sane_k1 ⟨l⟩ () = some b ∧ _
    unfold m29_reads_Sane_k1
    dsimp only
    by_cases h128 : l.length ≤ 128
    · rw [if_pos (decide_eq_true (by omega))]
      obtain ⟨M, hM, hk⟩ := index_fold l
      rw [(hM hl).2, Option.bind_some]
      refine ⟨_, rfl, ?_⟩
      have hf := foldK (l.map knR) [] List.nodup_nil
      rw [← hk] at hf
      simp only [List.length_map, List.length_nil, Nat.zero_add, List.nil_append] at hf
      rw [decide_eq_true_eq]
      constructor
      · intro h
        exact ⟨List.all_eq_true.1 ha, h128, nodup_kn.1 (hf.2.2.2.1 (by omega))⟩
      · intro h
        have := hf.2.2.2.2 (nodup_kn.2 h.nd)
        omega
    · rw [if_neg (by rw [decide_eq_true_eq]; omega)]
      exact ⟨false, rfl, fun h => (by cases h), fun h => absurd h.len h128⟩
theorem sane_t {l : List GReadsRead} (h : Good l) : m29_reads_Sane ⟨l⟩ = some true := by
  obtain ⟨b, hb, hi⟩ := sane_m (l := l) (by have := h.len; omega)
  rw [hb, hi.2 h]

theorem concat_two (a b : List GReadsRead) (h : (a.length + b.length) * 64 ≤ 140737488355328) : m61_slices_Concato [a, b] = some (a ++ b) := by
  have := m61_slices_Concato_m [a, b] (by simpa using h) (by simp)
  rw [this]; simp


theorem add_m {l : List GReadsRead} (hl : l.length ≤ 1000000) (tx : Int) (r : GApiRange) :
    (Good l ∧ srV ⟨tx, r⟩ = true ∧ (((⟨tx, r⟩ : GReadsRead) ∈ l ∧ m39_reads_Add ⟨l⟩ tx r = some (⟨l⟩, 0)) ∨ ((⟨tx, r⟩ : GReadsRead) ∉ l ∧ ((128 ≤ l.length ∧ m39_reads_Add ⟨l⟩ tx r = some (⟨[]⟩, 8)) ∨ (l.length < 128 ∧ m39_reads_Add ⟨l⟩ tx r = some (⟨l ++ [⟨tx, r⟩]⟩, 0) ∧ Good (l ++ [⟨tx, r⟩])))))) ∨
    (¬ (Good l ∧ srV ⟨tx, r⟩ = true) ∧ m39_reads_Add ⟨l⟩ tx r = some (⟨[]⟩, 1)) := by
  unfold m39_reads_Add
  obtain ⟨b, hb, hi⟩ := sane_m hl
  dsimp only
  rw [hb, Option.bind_some]
  cases b with
  | false =>
    refine .inr ⟨fun h => ?_, by rw [if_pos (by rfl)]⟩
    have := hi.2 h.1; cases this
  | true =>
    have hg := hi.1 rfl
    rw [if_neg (nn (by rfl)), sr_m, Option.bind_some]
    cases hs : srV ⟨tx, r⟩ with
    | false => exact .inr ⟨fun h => (by cases h.2), by rw [if_pos (by rfl)]⟩
    | true =>
      rw [if_neg (nn (by rfl))]
      refine .inl ⟨hg, rfl, ?_⟩
      unfold m39_reads_Add_k1
      dsimp only
      obtain ⟨M, hM, hk⟩ := index_fold l
      have hf := foldK (l.map knR) [] List.nodup_nil
      rw [← hk] at hf
      rw [(hM hl).2, Option.bind_some, kn_m, Option.bind_some]
      have hmem : ixHas M (knR ⟨tx, r⟩) = true ↔ (⟨tx, r⟩ : GReadsRead) ∈ l := by
        rw [ixHas_iff, hf.2.1]
        simp only [List.not_mem_nil, false_or]
        constructor
        · intro h
          obtain ⟨x, hx, he⟩ := List.mem_map.1 h
          rw [← knR_inj he]; exact hx
        · intro h; exact List.mem_map.2 ⟨_, h, rfl⟩
      by_cases hin : (⟨tx, r⟩ : GReadsRead) ∈ l
      · rw [if_pos (hmem.2 hin)]
        exact .inl ⟨hin, rfl⟩
      · rw [if_neg (fun h => hin (hmem.1 h))]
        refine .inr ⟨hin, ?_⟩
        by_cases h128 : 128 ≤ l.length
        · rw [if_pos (decide_eq_true (by omega))]
          exact .inl ⟨h128, rfl⟩
        · rw [if_neg (by rw [decide_eq_true_eq]; omega), concat_two _ _ (by rw [List.length_singleton]; omega)]
          refine .inr ⟨by omega, rfl, fun x hx => ?_, by rw [List.length_append, List.length_singleton]; omega, ?_⟩
          · rcases List.mem_append.1 hx with hx | hx
            · exact hg.sr x hx
            · rw [List.mem_singleton.1 hx]; exact hs
          · refine List.nodup_append.2 ⟨hg.nd, by simp, fun a ha b hb => ?_⟩
            rw [List.mem_singleton.1 hb]
            exact fun e => hin (e ▸ ha)


def hitTx (l : List GReadsRead) (k : List UInt8) : List Int := (l.filter fun x => hasV x.Rng k).map (·.Tx)
theorem hits_m {l : List GReadsRead} (hl : l.length ≤ 1000000) (k : List UInt8) : m67_reads_Hits ⟨l⟩ k = some (riseV (hitTx l k)) := by
  unfold m67_reads_Hits
  rw [collB l (fun x => if hasV x.Rng k then [x.Tx] else []) (m67_reads_Hits_s5 ⟨l⟩ k) 1 (fun x => by split <;> simp) (by omega) (fun i x acc hx ha => by
    have hlt := (List.getElem?_eq_some_iff.1 hx).1
    unfold m67_reads_Hits_s5
    dsimp only
    rw [if_pos (decide_eq_true (by omega)), idx_nat, hx, Option.bind_some, show (⟨x.Rng.Lo, x.Rng.Hi, x.Rng.Open⟩ : GApiRange) = x.Rng from rfl, has_m, Option.bind_some, wI_id (by omega) (by omega)]
    cases hasV x.Rng k with
    | true => rw [if_pos rfl, if_pos (by rw [List.length_singleton]; omega), if_pos rfl]; rfl
    | false => rw [if_neg (nn (by rfl)), if_neg (nn (by rfl)), List.append_nil]; rfl) (fun acc => by
    unfold m67_reads_Hits_s5
    dsimp only
    rw [if_neg (by rw [decide_eq_true_eq]; omega)]), Option.bind_some, flat_opt]
  have hlen : (hitTx l k).length ≤ l.length := by
    unfold hitTx; rw [List.length_map]; exact List.length_filter_le _ _
  show m67_reads_Hits_k1 (hitTx l k) = _
  unfold m67_reads_Hits_k1 m78_slices_Sort m79_slices_Compact
  rw [if_pos (by omega), Option.bind_some, if_pos (List.length_mergeSort _), if_pos (by rw [List.length_mergeSort]; omega)]
  rfl
theorem hitT_mem {l : List GReadsRead} {k : List UInt8} {t : Int} : t ∈ riseV (hitTx l k) ↔ ∃ x ∈ l, hasV x.Rng k = true ∧ x.Tx = t := by
  rw [riseV_mem]
  unfold hitTx
  rw [List.mem_map]
  constructor
  · rintro ⟨x, hx, rfl⟩
    obtain ⟨h1, h2⟩ := List.mem_filter.1 hx
    exact ⟨x, h1, h2, rfl⟩
  · rintro ⟨x, h1, h2, rfl⟩
    exact ⟨x, List.mem_filter.2 ⟨h1, h2⟩, rfl⟩


theorem contains_m (txs : List Int) (t : Int) (hl : txs.length ≤ 1000000) : m57_slices_Contains txs t = some (decide (t ∈ txs)) := by
  unfold m57_slices_Contains m58_slices_Index
  obtain ⟨v, hv, hr⟩ := iter_inv (f := m58_slices_Index_s2 txs t) (P := fun s => ∃ i : Nat, i ≤ txs.length ∧ s = (i : Int) ∧ t ∉ txs.take i) (μ := fun s => txs.length - s.toNat)
    (R := fun x => match x with | .inl r => 0 ≤ r ∧ t ∈ txs | .inr _ => t ∉ txs) (by
      rintro _ ⟨i, hi, rfl, hp⟩
      unfold m58_slices_Index_s2
      rcases Nat.lt_or_ge i txs.length with hlt | hge
      · rw [if_pos (decide_eq_true (by omega)), idx_nat, List.getElem?_eq_getElem hlt, Option.bind_some, wI_id (by omega) (by omega)]
        by_cases he : t = txs[i]
        · rw [if_pos (decide_eq_true he)]
          exact .inr (.inr ⟨_, rfl, Int.natCast_nonneg _, by rw [he]; exact List.getElem_mem _⟩)
        · rw [if_neg (by rw [decide_eq_true_eq]; exact he)]
          refine .inl ⟨_, rfl, ⟨i + 1, hlt, rfl, ?_⟩, by simp only [Int.toNat_natCast]; omega⟩
          rw [List.take_succ_eq_append_getElem hlt, List.mem_append, List.mem_singleton]
          rintro (h | h)
          · exact hp h
          · exact he h
      · have e : i = txs.length := by omega
        subst e
        rw [if_neg (by rw [decide_eq_true_eq]; omega)]
        rw [List.take_length] at hp
        exact .inr (.inl ⟨_, rfl, hp⟩)) fuel 0 ⟨0, Nat.zero_le _, rfl, by simp⟩ (lt_fuel (by show txs.length - 0 ≤ _; omega))
  rw [hv]
  cases v with
  | inl r =>
    show some (decide (0 ≤ r)) = _
    rw [decide_eq_true hr.1, decide_eq_true hr.2]
  | inr u =>
    show some (decide ((0 : Int) ≤ -1)) = _
    rw [decide_eq_false (show ¬ t ∈ txs from hr)]
    rfl
def onlyV (l : List GReadsRead) (txs : List Int) (b : Bool) : List GReadsRead := l.filter fun x => decide (x.Tx ∈ txs) == b
theorem only_m {l : List GReadsRead} (hl : l.length ≤ 1000000) (txs : List Int) (ht : txs.length ≤ 1000000) (b : Bool) : m55_reads_only ⟨l⟩ txs b = some ⟨onlyV l txs b⟩ := by
  unfold m55_reads_only
  rw [collB l (fun x => if decide (x.Tx ∈ txs) == b then [x] else []) (m55_reads_only_s2 ⟨l⟩ txs b) 1 (fun x => by split <;> simp) (by omega) (fun i x acc hx ha => by
    have hlt := (List.getElem?_eq_some_iff.1 hx).1
    unfold m55_reads_only_s2
    dsimp only
    rw [if_pos (decide_eq_true (by omega)), idx_nat, hx, Option.bind_some, contains_m txs _ ht, Option.bind_some, wI_id (by omega) (by omega)]
    cases (decide (x.Tx ∈ txs) == b) with
    | true => rw [if_pos rfl, if_pos (by rw [List.length_singleton]; omega), if_pos rfl]; rfl
    | false => rw [if_neg (nn (by rfl)), if_neg (nn (by rfl)), List.append_nil]; rfl) (fun acc => by
    unfold m55_reads_only_s2
    dsimp only
    rw [if_neg (by rw [decide_eq_true_eq]; omega)]), Option.bind_some, flat_opt, List.map_id']
  rfl
theorem drop_m {l : List GReadsRead} (hl : l.length ≤ 1000000) (txs : List Int) (ht : txs.length ≤ 1000000) : m32_reads_Drop ⟨l⟩ txs = some ⟨onlyV l txs false⟩ := by
  unfold m32_reads_Drop
  dsimp only
  rw [only_m hl txs ht]; rfl
theorem onlyV_len (l : List GReadsRead) (txs : List Int) (b : Bool) : (onlyV l txs b).length ≤ l.length := List.length_filter_le _ _
theorem onlyV_mem {l : List GReadsRead} {txs : List Int} {b : Bool} {x : GReadsRead} : x ∈ onlyV l txs b ↔ x ∈ l ∧ (decide (x.Tx ∈ txs) = b) := by
  unfold onlyV
  rw [List.mem_filter, beq_iff_eq]
theorem onlyV_good {l : List GReadsRead} (h : Good l) (txs : List Int) (b : Bool) : Good (onlyV l txs b) :=
  ⟨fun x hx => h.sr x (onlyV_mem.1 hx).1, Nat.le_trans (onlyV_len ..) h.len, h.nd.sublist (List.filter_sublist ..)⟩
def ofV (l : List GReadsRead) (t : Int) : List GApiRange := (l.filter fun x => decide (x.Tx = t)).map (·.Rng)


theorem allT {α ρ : Type} (xs : List α) (f : Int → Option (LR Int Unit ρ)) (hl : xs.length ≤ 1000000000000000000)
    (h : ∀ (i : Nat) x, xs[i]? = some x → f (i : Int) = some (.cont ((i + 1 : Nat) : Int))) (hend : f (xs.length : Int) = some (.brk ())) : iter f fuel 0 = some (.inr ()) := by
  obtain ⟨v, hv, hr⟩ := iter_inv (f := f) (P := fun s => ∃ i : Nat, i ≤ xs.length ∧ s = (i : Int)) (μ := fun s => xs.length - s.toNat) (R := fun r => r = .inr ()) (by
    rintro _ ⟨i, hi, rfl⟩
    rcases Nat.lt_or_ge i xs.length with hlt | hge
    · exact .inl ⟨_, h i _ (List.getElem?_eq_getElem hlt), ⟨i + 1, hlt, rfl⟩, by simp only [Int.toNat_natCast]; omega⟩
    · have e : i = xs.length := by omega
      subst e
      exact .inr (.inl ⟨(), hend, rfl⟩)) fuel 0 ⟨0, Nat.zero_le _, rfl⟩ (lt_fuel (by show xs.length - 0 ≤ _; omega))
  rw [hv, hr]

def oR (x : GR10Read) : GReadsRead := ⟨x.Tx, x.Rng⟩
def tR (x : GReadsRead) : GR10Read := ⟨x.Tx, x.Rng⟩
theorem oR_inj {a b : GR10Read} (h : oR a = oR b) : a = b := by
  cases a; cases b; simp [oR] at h; simp [h]

theorem hitLen (l : List GReadsRead) (k : List UInt8) : (riseV (hitTx l k)).length ≤ l.length := by
  refine Nat.le_trans (riseV_len _) ?_
  unfold hitTx
  rw [List.length_map]
  exact List.length_filter_le _ _



theorem filter_parts {α : Type} (p : α → Bool) : ∀ l : List α, (l.filter p).length + (l.filter (fun x => !p x)).length = l.length
  | [] => rfl
  | x :: l => by
    have := filter_parts p l
    rw [List.filter_cons, List.filter_cons, List.length_cons]
    cases p x <;> simp <;> omega


theorem riseV_self {l : List Int} (h : RiseI l) : riseV l = l := riseI_ext (riseV_rise l) h fun _ => riseV_mem

def oneR (k : List UInt8) : GApiRange := ⟨k, k ++ [0], false⟩
theorem oneR_has (k : List UInt8) : hasV (oneR k) k = true := by
  unfold hasV oneR
  dsimp only
  rw [cmpL_self, cmpL_app0]
  decide
theorem oneR_sane {k : List UInt8} (h1 : 1 ≤ k.length) (h16 : k.length ≤ 16) (t : Nat) : srV ⟨(t : Int), oneR k⟩ = true := by
  have : m52_reads_saneRead ⟨(t : Int), oneR k⟩ = some true := by
    unfold m52_reads_saneRead m69_keys_SaneRange m70_keys_Empty m70_keys_Empty_k1 oneR
    dsimp only
    have hc : cmpL (k ++ [0]) k = 1 := by rw [cmpL_swap, cmpL_app0]; rfl
    rw [if_pos (decide_eq_true (by omega)), if_pos (decide_eq_true (by omega)), if_pos (decide_eq_true (by rw [List.length_append, List.length_singleton]; omega)), if_neg (by decide), Option.bind_some, if_pos rfl, if_neg (by decide), if_neg (by rw [decide_eq_true_eq]; omega), if_neg (by decide), cmp_m, hc]
    rfl
  unfold srV
  rw [this]; rfl

def full128 (k : List UInt8) (n : Nat) : List GReadsRead := (List.range n).map fun (i : Nat) => ⟨(i : Int), oneR k⟩
theorem full_len (k : List UInt8) (n : Nat) : (full128 k n).length = n := by unfold full128; simp
theorem full_mem {k : List UInt8} {n : Nat} {x : GReadsRead} : x ∈ full128 k n ↔ ∃ i : Nat, i < n ∧ x = ⟨(i : Int), oneR k⟩ := by
  unfold full128
  rw [List.mem_map]
  constructor
  · rintro ⟨i, hi, rfl⟩; exact ⟨i, List.mem_range.1 hi, rfl⟩
  · rintro ⟨i, hi, rfl⟩; exact ⟨i, List.mem_range.2 hi, rfl⟩
theorem full_tx (k : List UInt8) (n : Nat) : RiseI ((full128 k n).map (·.Tx)) := by
  unfold full128
  rw [List.map_map]
  refine List.pairwise_map.2 ((List.pairwise_lt_range (n := n)).imp fun h => ?_)
  show ((_ : Nat) : Int) < ((_ : Nat) : Int)
  exact Int.ofNat_lt.2 h
theorem full_hits {k : List UInt8} {l : List GReadsRead} (hl : ∀ x ∈ l, x.Rng = oneR k) : hitTx l k = l.map (·.Tx) := by
  unfold hitTx
  rw [List.filter_eq_self.2 fun x hx => by rw [hl x hx, oneR_has]]

theorem and127 (a0 : Int) : ∃ n : Nat, n < 128 ∧ ((BitVec.ofInt 64 a0 &&& BitVec.ofInt 64 127).toNat : Int) = (n : Int) := by
  refine ⟨(BitVec.ofInt 64 a0 &&& BitVec.ofInt 64 127).toNat, ?_, rfl⟩
  rw [BitVec.toNat_and]
  exact Nat.lt_of_le_of_lt Nat.and_le_right (by decide)

instance : DecidableEq GApiRange := fun a b => decidable_of_iff (a.Lo = b.Lo ∧ a.Hi = b.Hi ∧ a.Open = b.Open) (by cases a; cases b; simp)
instance : DecidableEq GR10Read := fun a b => decidable_of_iff (a.Tx = b.Tx ∧ a.Rng = b.Rng) (by cases a; cases b; simp)
theorem map_tR_oR (l : List GR10Read) : (l.map oR).map tR = l := by
  rw [List.map_map]
  exact List.map_id l


end Go.Proofs.Ytbmciegldpeaiaa.Abs
