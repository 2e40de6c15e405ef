/-
  What the library's functions compute.
-/
import Derived.Test.YtdehclinlcnlhaaS19
namespace Go.Proofs.Ytdehclinlcnlhaa.Abs




theorem cmp_m (a b : List UInt8) : m57_keys_Cmp a b = some (cmpL a b) := rfl

theorem cmpL_drop {a b : List UInt8} {i : Nat} {x y : UInt8} (ha : a[i]? = some x) (hb : b[i]? = some y) : cmpL (a.drop i) (b.drop i) = if x < y then -1 else if y < x then 1 else cmpL (a.drop (i + 1)) (b.drop (i + 1)) := by
  obtain ⟨h1, rfl⟩ := List.getElem?_eq_some_iff.1 ha
  obtain ⟨h2, rfl⟩ := List.getElem?_eq_some_iff.1 hb
  rw [List.drop_eq_getElem_cons h1, List.drop_eq_getElem_cons h2]
  rfl
theorem u8_lt_int (x y : UInt8) : ((x.toBitVec.toNat : Int) < (y.toBitVec.toNat : Int)) ↔ x < y := by
  rw [UInt8.lt_iff_toNat_lt, Int.ofNat_lt]
  rfl
theorem rcmp_m (a b : List UInt8) (ha : a.length ≤ 1000000000000000000) : m27_r06_Cmp a b = some (cmpL a b) := by
  obtain ⟨v, hv, hr⟩ := iter_inv (f := m27_r06_Cmp_s2 a b) (P := fun s => ∃ i : Nat, s = (i : Int) ∧ i ≤ a.length ∧ i ≤ b.length ∧ cmpL a b = cmpL (a.drop i) (b.drop i)) (μ := fun s => a.length - s.toNat)
    (R := fun v => match v with | .inl r => r = cmpL a b | .inr _ => cmpL a b = if a.length < b.length then -1 else if b.length < a.length then 1 else 0) (by
    rintro _ ⟨i, rfl, h1, h2, h3⟩
    unfold m27_r06_Cmp_s2
    by_cases ha' : i < a.length
    · rw [if_pos (decide_eq_true (by omega))]
      by_cases hb' : i < b.length
      · rw [if_pos (decide_eq_true (by omega))]
        unfold m27_r06_Cmp_k3
        have ea := List.getElem?_eq_getElem ha'
        have eb := List.getElem?_eq_getElem hb'
        have e := cmpL_drop ea eb
        rw [idx_nat, idx_nat, ea, eb]
        simp only [Option.bind_some]
        by_cases hx : a[i] < b[i]
        · right; right
          rw [if_pos (decide_eq_true ((u8_lt_int _ _).2 hx))]
          refine ⟨_, rfl, ?_⟩
          show (-1 : Int) = _
          rw [h3, e, if_pos hx]
        · rw [if_neg (by rw [decide_eq_true_eq, u8_lt_int]; exact hx)]
          by_cases hy : b[i] < a[i]
          · right; right
            rw [if_pos (decide_eq_true ((u8_lt_int _ _).2 hy))]
            refine ⟨_, rfl, ?_⟩
            show (1 : Int) = _
            rw [h3, e, if_neg hx, if_pos hy]
          · left
            rw [if_neg (by rw [decide_eq_true_eq, u8_lt_int]; exact hy)]
            refine ⟨_, rfl, ⟨i + 1, by rw [wI_id (by omega) (by omega)]; rfl, ha', hb', by rw [h3, e, if_neg hx, if_neg hy]⟩, by rw [wI_id (by omega) (by omega)]; omega⟩
      · right; left
        rw [if_neg (by rw [decide_eq_true_eq]; omega)]
        refine ⟨_, rfl, ?_⟩
        show cmpL a b = _
        have : i = b.length := by omega
        rw [h3, this, List.drop_length, List.drop_eq_getElem_cons (by omega), if_neg (by omega), if_pos (by omega)]
        rfl
    · right; left
      rw [if_neg (by rw [decide_eq_true_eq]; omega)]
      refine ⟨_, rfl, ?_⟩
      show cmpL a b = _
      have : i = a.length := by omega
      rw [h3, this, List.drop_length]
      by_cases hb' : a.length < b.length
      · rw [List.drop_eq_getElem_cons hb', if_pos hb']; rfl
      · rw [List.drop_of_length_le (by omega), if_neg hb', if_neg (by omega)]; rfl) fuel 0 ⟨0, rfl, Nat.zero_le _, Nat.zero_le _, rfl⟩ (lt_fuel (by show a.length - 0 ≤ _; omega))
  unfold m27_r06_Cmp
  rw [hv, Option.bind_some]
  cases v with
  | inl r => rw [show r = cmpL a b from hr]
  | inr u =>
    have hr' : cmpL a b = if a.length < b.length then -1 else if b.length < a.length then 1 else 0 := hr
    unfold m27_r06_Cmp_k1
    rw [hr']
    by_cases h1 : a.length < b.length
    · rw [if_pos (decide_eq_true (by omega)), if_pos h1]
    · rw [if_neg (by rw [decide_eq_true_eq]; omega), if_neg h1]
      by_cases h2 : b.length < a.length
      · rw [if_pos (decide_eq_true (by omega)), if_pos h2]
      · rw [if_neg (by rw [decide_eq_true_eq]; omega), if_neg h2]

def hasV (r : GApiRange) (k : List UInt8) : Bool := decide (0 ≤ cmpL k r.Lo) && (r.Open || decide (cmpL k r.Hi < 0))
theorem has_m (r : GApiRange) (k : List UInt8) : m72_keys_Has r k = some (hasV r k) := by
  unfold m72_keys_Has hasV
  simp only [cmp_m, Option.bind_some]
  cases decide (0 ≤ cmpL k r.Lo) <;> cases r.Open <;> simp
theorem rhas_m (r : GApiRange) (k : List UInt8) (h : k.length ≤ 1000000000000000000) : m35_r06_Has r k = some (hasV r k) := by
  unfold m35_r06_Has hasV
  simp only [rcmp_m _ _ h, Option.bind_some]
  cases decide (0 ≤ cmpL k r.Lo) <;> cases r.Open <;> simp
def emptyV (r : GApiRange) : Bool := !r.Open && ((decide (r.Lo = []) && decide (r.Hi = [0])) || decide (cmpL r.Hi r.Lo ≤ 0))
theorem len0 {α : Type} (a : List α) : decide ((a.length : Int) = 0) = decide (a = []) := by
  rw [decide_eq_decide]
  cases a <;> simp
  omega
theorem empty_m (r : GApiRange) : m66_keys_Empty r = some (emptyV r) := by
  obtain ⟨lo, hi, o⟩ := r
  unfold m66_keys_Empty m66_keys_Empty_k1 emptyV
  simp only [cmp_m, Option.bind_some, len0]
  cases o with
  | true => rfl
  | false =>
    cases lo with
    | cons x xs => simp
    | nil =>
      rcases hi with _ | ⟨x, _ | ⟨y, ys⟩⟩
      · simp
      · have e : (decide ((x.toBitVec.toNat : Int) = (0 : Int))) = decide (x = 0) := by
          rw [decide_eq_decide]
          constructor
          · intro h; exact UInt8.toNat_inj.1 (by have : x.toNat = 0 := by have h' : ((x.toNat : Nat) : Int) = 0 := h; omega
                                                 rw [this]; rfl)
          · rintro rfl; rfl
        rw [show idx [x] 0 = some x from rfl]
        simp only [Option.bind_some, e]
        by_cases hx : x = 0 <;> simp [hx]
      · have : ((List.length (x :: y :: ys) : Nat) : Int) ≠ 1 := by simp; omega
        simp [this]
        omega
theorem one_m (a : List UInt8) (h : a.length ≤ 1000000) : m44_keys_One a = some ⟨a, a ++ [0], false⟩ := by
  unfold m44_keys_One
  rw [m52_slices_Concato_m _ (by simp; omega) (by simp)]
  simp
theorem cmpL_app_lt : ∀ {k a : List UInt8}, cmpL k (a ++ [0]) < 0 → cmpL k a ≤ 0
  | k, [], h => by rw [cmpL_one h]; exact Int.le_refl _
  | [], x :: xs, _ => by show (-1 : Int) ≤ 0; decide
  | y :: ys, x :: xs, h => by
    have h' : (if y < x then (-1 : Int) else if x < y then 1 else cmpL ys (xs ++ [0])) < 0 := h
    show (if y < x then (-1 : Int) else if x < y then 1 else cmpL ys xs) ≤ 0
    by_cases h1 : y < x
    · rw [if_pos h1]; decide
    · rw [if_neg h1] at h' ⊢
      by_cases h2 : x < y
      · rw [if_pos h2] at h'; exact absurd h' (by decide)
      · rw [if_neg h2] at h' ⊢
        exact cmpL_app_lt h'



abbrev Keys := List (List UInt8)
def kat (xs : Keys) (k : List UInt8) : Nat := xs.findIdx (fun x => decide (0 ≤ cmpL x k))
def hit (xs : Keys) (k : List UInt8) : Bool := xs[kat xs k]? == some k
theorem kat_le (xs : Keys) (k : List UInt8) : kat xs k ≤ xs.length := List.findIdx_le_length
theorem kat_of {xs : Keys} {k : List UInt8} {i : Nat} {x : List UInt8} (h : xs[i]? = some x) (h1 : 0 ≤ cmpL x k) (h2 : ∀ j y, j < i → xs[j]? = some y → cmpL y k < 0) : kat xs k = i := by
  obtain ⟨hi, rfl⟩ := List.getElem?_eq_some_iff.1 h
  unfold kat
  rw [List.findIdx_eq hi]
  refine ⟨by simpa using h1, fun j hj => ?_⟩
  have := h2 j xs[j] hj (List.getElem?_eq_getElem (by omega))
  rw [decide_eq_false_iff_not]
  omega
theorem kat_none {xs : Keys} {k : List UInt8} (h : ∀ j y, j < xs.length → xs[j]? = some y → cmpL y k < 0) : kat xs k = xs.length := by
  unfold kat
  rw [List.findIdx_eq_length]
  intro x hx
  obtain ⟨j, hj, rfl⟩ := List.getElem_of_mem hx
  have := h j xs[j] hj (List.getElem?_eq_getElem hj)
  rw [decide_eq_false_iff_not]
  omega
theorem cmp_zero_beq (x k : List UInt8) : decide (cmpL x k = 0) = (x == k) := by
  by_cases h : x = k
  · subst h; simp [cmpL_self]
  · rw [beq_false_of_ne h, decide_eq_false_iff_not]
    exact fun e => h (cmpL_zero e)

theorem find_m (xs : Keys) (k : List UInt8) (hn : xs.length ≤ 1000000000000000000) : m61_keys_Find xs k = some ((kat xs k : Int), hit xs k) := by
  obtain ⟨v, hv, hr⟩ := iter_inv (f := m75_slices_IndexFuncs_s2 xs k) (P := fun s => ∃ i : Nat, s = (i : Int) ∧ i ≤ xs.length ∧ ∀ j y, j < i → xs[j]? = some y → cmpL y k < 0) (μ := fun s => xs.length - s.toNat)
    (R := fun v => match v with | .inl r => r = (kat xs k : Int) ∧ kat xs k < xs.length | .inr _ => kat xs k = xs.length) (by
    rintro _ ⟨i, rfl, h1, h2⟩
    unfold m75_slices_IndexFuncs_s2 m76_keys_key_reacheds
    by_cases hi : i < xs.length
    · have e := List.getElem?_eq_getElem hi
      rw [if_pos (decide_eq_true (by omega)), idx_nat, e]
      simp only [Option.bind_some, cmp_m]
      by_cases hc : 0 ≤ cmpL xs[i] k
      · right; right
        rw [if_pos (decide_eq_true hc)]
        have ea := kat_of e hc h2
        exact ⟨_, rfl, by rw [ea], by rw [ea]; exact hi⟩
      · left
        rw [if_neg (by rw [decide_eq_true_eq]; exact hc)]
        refine ⟨_, rfl, ⟨i + 1, by rw [wI_id (by omega) (by omega)]; rfl, hi, fun j y hj hy => ?_⟩, by rw [wI_id (by omega) (by omega)]; omega⟩
        rcases Nat.lt_succ_iff_lt_or_eq.1 hj with h | rfl
        · exact h2 j y h hy
        · rw [e] at hy; cases hy; omega
    · right; left
      rw [if_neg (by rw [decide_eq_true_eq]; omega)]
      refine ⟨_, rfl, ?_⟩
      have : i = xs.length := by omega
      subst this
      exact kat_none h2) fuel 0 ⟨0, rfl, Nat.zero_le _, fun j y hj => absurd hj (Nat.not_lt_zero _)⟩ (lt_fuel (by show xs.length - 0 ≤ _; omega))
  unfold m61_keys_Find m75_slices_IndexFuncs
  rw [hv]
  simp only [Option.bind_some]
  cases v with
  | inl r =>
    obtain ⟨rfl, hlt⟩ : r = (kat xs k : Int) ∧ kat xs k < xs.length := hr
    simp only [Option.bind_some]
    rw [if_neg (by rw [decide_eq_true_eq]; omega), idx_nat, List.getElem?_eq_getElem hlt]
    simp only [Option.bind_some, m77_bytes_Equal]
    unfold hit
    rw [List.getElem?_eq_getElem hlt]
    rfl
  | inr u =>
    have e : kat xs k = xs.length := hr
    unfold m75_slices_IndexFuncs_k1
    simp only [Option.bind_some]
    rw [if_pos (by decide)]
    unfold hit
    rw [e]
    simp
def ins (xs : Keys) (k : List UInt8) : Keys := if hit xs k then xs else xs.take (kat xs k) ++ k :: xs.drop (kat xs k)

def part (xs : Keys) (k : List UInt8) (j : Nat) : Keys := if hit xs k = true ∨ j ≤ kat xs k then xs.take j else xs.take (kat xs k) ++ k :: (xs.drop (kat xs k)).take (j - kat xs k)
theorem hit_lt {xs : Keys} {k : List UInt8} (h : hit xs k = true) : kat xs k < xs.length := by
  unfold hit at h
  have := eq_of_beq h
  exact (List.getElem?_eq_some_iff.1 this).1
theorem part_len (xs : Keys) (k : List UInt8) (j : Nat) : (part xs k j).length ≤ j + 1 := by
  unfold part
  split
  · rw [List.length_take]; omega
  · simp only [List.length_append, List.length_cons, List.length_take]; omega
theorem part_end (xs : Keys) (k : List UInt8) : (if kat xs k = xs.length then part xs k xs.length ++ [k] else part xs k xs.length) = ins xs k := by
  unfold part ins
  by_cases hh : hit xs k = true
  · have := hit_lt hh
    rw [if_neg (by omega), if_pos (.inl hh), if_pos hh, List.take_length]
  · rw [if_neg hh]
    by_cases he : kat xs k = xs.length
    · rw [if_pos he, if_pos (.inr (by omega)), he, List.take_length, List.drop_length]
    · have := kat_le xs k
      rw [if_neg he, if_neg (by intro h; rcases h with h | h; exact hh h; omega)]
      congr 2
      rw [List.take_of_length_le (by rw [List.length_drop]; omega)]
theorem part_step (xs : Keys) (k : List UInt8) {j : Nat} {x : List UInt8} (h : xs[j]? = some x) : part xs k (j + 1) = (if j = kat xs k ∧ hit xs k = false then part xs k j ++ [k] else part xs k j) ++ [x] := by
  obtain ⟨hj, rfl⟩ := List.getElem?_eq_some_iff.1 h
  unfold part
  by_cases hh : hit xs k = true
  · rw [if_pos (.inl hh), if_neg (by rw [hh]; simp), if_pos (.inl hh), List.take_succ_eq_append_getElem hj]
  · have hf : hit xs k = false := by simpa using hh
    have hn : ∀ p : Prop, (hit xs k = true ∨ p) = p := fun p => by rw [hf]; simp
    simp only [hn]
    by_cases h1 : j + 1 ≤ kat xs k
    · rw [if_pos h1, if_neg (fun h => by have := h.1; omega), if_pos (by omega), List.take_succ_eq_append_getElem hj]
    · rw [if_neg h1]
      by_cases h2 : j = kat xs k
      · rw [if_pos ⟨h2, hf⟩, if_pos (by omega), ← h2, show j + 1 - j = 1 from by omega]
        simp
        rw [List.drop_eq_getElem_cons hj]
        rfl
      · rw [if_neg (fun h => h2 h.1), if_neg (by omega), show j + 1 - kat xs k = (j - kat xs k) + 1 from by omega, List.take_succ_eq_append_getElem (by rw [List.length_drop]; omega)]
        simp only [List.getElem_drop, List.append_assoc, List.cons_append, show kat xs k + (j - kat xs k) = j from by omega]



abbrev PW (xs : Keys) : Prop := xs.Pairwise (fun x y => cmpL x y < 0)
theorem lt_kat {xs : Keys} {k x : List UInt8} (h : x ∈ xs.take (kat xs k)) : cmpL x k < 0 := by
  obtain ⟨j, hj, rfl⟩ := List.getElem_of_mem h
  rw [List.length_take] at hj
  rw [List.getElem_take]
  have := List.not_of_lt_findIdx (p := fun x => decide (0 ≤ cmpL x k)) (xs := xs) (i := j) (by have h' : kat xs k = List.findIdx (fun x => decide (0 ≤ cmpL x k)) xs := rfl; omega)
  have h2 : ¬ 0 ≤ cmpL xs[j] k := by simpa using this
  omega
theorem kat_ge {xs : Keys} {k : List UInt8} (h : kat xs k < xs.length) : 0 ≤ cmpL xs[kat xs k] k := by
  have := List.findIdx_getElem (p := fun x => decide (0 ≤ cmpL x k)) (xs := xs) (w := h)
  exact of_decide_eq_true this
theorem hit_mem {xs : Keys} {k : List UInt8} (h : hit xs k = true) : k ∈ xs := by
  unfold hit at h
  exact List.mem_of_getElem? (eq_of_beq h)
theorem mem_hit {xs : Keys} {k : List UInt8} (hp : PW xs) (h : k ∈ xs) : hit xs k = true := by
  obtain ⟨j, hj, rfl⟩ := List.getElem_of_mem h
  have hle : kat xs xs[j] ≤ j := by
    rcases Nat.lt_or_ge j (kat xs xs[j]) with h1 | h1
    · have := lt_kat (xs := xs) (k := xs[j]) (x := xs[j]) (List.mem_take_iff_getElem.2 ⟨j, by omega, rfl⟩)
      rw [cmpL_self] at this
      omega
    · exact h1
  have hk : kat xs xs[j] < xs.length := by omega
  unfold hit
  rw [List.getElem?_eq_getElem hk]
  rcases Nat.lt_or_ge (kat xs xs[j]) j with h1 | h1
  · have h2 := List.pairwise_iff_getElem.1 hp _ _ hk hj h1
    have h3 := kat_ge hk
    omega
  · have e : kat xs xs[j] = j := by omega
    simp only [e]
    simp
theorem hit_iff {xs : Keys} {k : List UInt8} (hp : PW xs) : hit xs k = true ↔ k ∈ xs := ⟨hit_mem, mem_hit hp⟩
theorem ins_mem {xs : Keys} {k x : List UInt8} : x ∈ ins xs k ↔ x = k ∨ x ∈ xs := by
  unfold ins
  by_cases h : hit xs k = true
  · rw [if_pos h]
    constructor
    · exact .inr
    · rintro (rfl | h')
      · exact hit_mem h
      · exact h'
  · rw [if_neg h]
    have e : x ∈ xs ↔ x ∈ xs.take (kat xs k) ∨ x ∈ xs.drop (kat xs k) := by
      rw [← List.mem_append, List.take_append_drop]
    rw [List.mem_append, List.mem_cons, e]
    constructor
    · rintro (h1 | rfl | h1)
      · exact .inr (.inl h1)
      · exact .inl rfl
      · exact .inr (.inr h1)
    · rintro (rfl | h1 | h1)
      · exact .inr (.inl rfl)
      · exact .inl h1
      · exact .inr (.inr h1)
theorem ins_len (xs : Keys) (k : List UInt8) : (ins xs k).length = if hit xs k = true then xs.length else xs.length + 1 := by
  unfold ins
  have := kat_le xs k
  split
  · rfl
  · simp; omega
theorem ins_pw {xs : Keys} {k : List UInt8} (hp : PW xs) : PW (ins xs k) := by
  unfold ins
  by_cases h : hit xs k = true
  · rw [if_pos h]; exact hp
  · rw [if_neg h]
    have hap : PW (xs.take (kat xs k) ++ xs.drop (kat xs k)) := by rw [List.take_append_drop]; exact hp
    obtain ⟨h1, h2, h3⟩ := List.pairwise_append.1 hap
    have hk : ∀ y ∈ xs.drop (kat xs k), cmpL k y < 0 := by
      intro y hy
      have hlt : kat xs k < xs.length := by
        rcases Nat.lt_or_ge (kat xs k) xs.length with h' | h'
        · exact h'
        · rw [List.drop_of_length_le h'] at hy; cases hy
      have hge := kat_ge hlt
      have hne : cmpL xs[kat xs k] k ≠ 0 := fun e => h (by
        unfold hit
        rw [List.getElem?_eq_getElem hlt, cmpL_zero e]
        simp)
      have hs := cmpL_swap k xs[kat xs k]
      have hlt2 : cmpL k xs[kat xs k] < 0 := by omega
      rw [List.drop_eq_getElem_cons hlt] at hy h2
      rcases List.mem_cons.1 hy with rfl | hy
      · exact hlt2
      · have := (List.pairwise_cons.1 h2).1 y hy
        exact (cmpL_trans (Int.le_of_lt hlt2) (Int.le_of_lt this)).2 (.inl hlt2)
    refine List.pairwise_append.2 ⟨h1, List.pairwise_cons.2 ⟨hk, h2⟩, fun x hx y hy => ?_⟩
    rcases List.mem_cons.1 hy with rfl | hy
    · exact lt_kat hx
    · exact h3 x hx y hy

theorem sorted_m {xs : Keys} (hp : PW xs) (hn : xs.length ≤ 1000000000000000000) : m42_keys_Sorted xs = some true := by
  obtain ⟨v, hv, hr⟩ := iter_inv (f := m42_keys_Sorted_s2 xs) (P := fun s => ∃ i : Nat, s = (i : Int) ∧ 1 ≤ i) (μ := fun s => xs.length - s.toNat)
    (R := fun v => match v with | .inl r => False | .inr _ => True) (by
    rintro _ ⟨i, rfl, h1⟩
    unfold m42_keys_Sorted_s2
    by_cases hi : i < xs.length
    · left
      rw [if_pos (decide_eq_true (by omega)), wI_id (by omega) (by omega), show (i : Int) - 1 = ((i - 1 : Nat) : Int) from by omega, idx_nat, idx_nat, List.getElem?_eq_getElem hi, List.getElem?_eq_getElem (by omega)]
      simp only [Option.bind_some, cmp_m]
      have := List.pairwise_iff_getElem.1 hp (i - 1) i (by omega) hi (by omega)
      rw [if_neg (by rw [decide_eq_true_eq]; omega)]
      exact ⟨_, rfl, ⟨i + 1, by rw [wI_id (by omega) (by omega)]; rfl, by omega⟩, by rw [wI_id (by omega) (by omega)]; omega⟩
    · right; left
      rw [if_neg (by rw [decide_eq_true_eq]; omega)]
      exact ⟨_, rfl, trivial⟩) fuel 1 ⟨1, rfl, Nat.le_refl _⟩ (lt_fuel (by show xs.length - 1 ≤ _; omega))
  unfold m42_keys_Sorted
  rw [hv]
  cases v with
  | inl r => exact hr.elim
  | inr u => rfl
theorem sorted_some (xs : Keys) (hn : xs.length ≤ 1000000000000000000) : ∃ v, m42_keys_Sorted xs = some v := by
  obtain ⟨v, hv, hr⟩ := iter_inv (f := m42_keys_Sorted_s2 xs) (P := fun s => ∃ i : Nat, s = (i : Int) ∧ 1 ≤ i) (μ := fun s => xs.length - s.toNat)
    (R := fun _ => True) (by
    rintro _ ⟨i, rfl, h1⟩
    unfold m42_keys_Sorted_s2
    by_cases hi : i < xs.length
    · rw [if_pos (decide_eq_true (by omega)), wI_id (by omega) (by omega), show (i : Int) - 1 = ((i - 1 : Nat) : Int) from by omega, idx_nat, idx_nat, List.getElem?_eq_getElem hi, List.getElem?_eq_getElem (by omega)]
      simp only [Option.bind_some, cmp_m]
      by_cases hc : 0 ≤ cmpL xs[i - 1] xs[i]
      · right; right
        rw [if_pos (decide_eq_true hc)]
        exact ⟨_, rfl, trivial⟩
      · left
        rw [if_neg (by rw [decide_eq_true_eq]; omega)]
        exact ⟨_, rfl, ⟨i + 1, by rw [wI_id (by omega) (by omega)]; rfl, by omega⟩, by rw [wI_id (by omega) (by omega)]; omega⟩
    · right; left
      rw [if_neg (by rw [decide_eq_true_eq]; omega)]
      exact ⟨_, rfl, trivial⟩) fuel 1 ⟨1, rfl, Nat.le_refl _⟩ (lt_fuel (by show xs.length - 1 ≤ _; omega))
  unfold m42_keys_Sorted
  rw [hv]
  cases v with
  | inl r => exact ⟨r, rfl⟩
  | inr u => exact ⟨true, rfl⟩
theorem idx_mem {α : Type} {xs : List α} {j : Int} {u : α} (h : idx xs j = some u) : u ∈ xs := List.mem_of_getElem? (idx_eq h).2


theorem short_m (r : GApiRange) : ∃ v, m26_r06_Short r = some v ∧ (v = true → r.Lo.length ≤ 100 ∧ r.Hi.length ≤ 100) := by
  unfold m26_r06_Short
  by_cases h1 : (r.Lo.length : Int) ≤ 100
  · rw [if_pos (decide_eq_true h1)]
    exact ⟨_, rfl, fun h => ⟨by omega, by have := of_decide_eq_true h; omega⟩⟩
  · rw [if_neg (by rw [decide_eq_true_eq]; exact h1)]
    exact ⟨_, rfl, fun h => by cases h⟩
theorem saneK (k : List UInt8) : ∃ v, m48_keys_Sane k = some v ∧ m80_r06_Sane k = some v := by
  unfold m48_keys_Sane m80_r06_Sane
  by_cases h : (1 : Int) ≤ k.length
  · exact ⟨decide ((k.length : Int) ≤ 16), by rw [if_pos (decide_eq_true h)], by rw [if_pos (decide_eq_true h)]⟩
  · exact ⟨false, by rw [if_neg (by rw [decide_eq_true_eq]; exact h)], by rw [if_neg (by rw [decide_eq_true_eq]; exact h)]⟩


def wk (x : GApiWrite) : List UInt8 := x.Key
def swV (w : GApiWrite) : Bool := (m60_buffer_saneWrite w).getD false
theorem sw_m (w : GApiWrite) : m60_buffer_saneWrite w = some (swV w) := by
  have : ∃ b, m60_buffer_saneWrite w = some b := by
    unfold m60_buffer_saneWrite m48_keys_Sane
    repeat' (first | exact ⟨_, rfl⟩ | split | dsimp only [Option.bind_some])
  obtain ⟨b, hb⟩ := this
  unfold swV
  rw [hb]; rfl

structure Good (b : List GApiWrite) : Prop where
  sw : ∀ w ∈ b, swV w = true
  len : b.length ≤ 16
  rise : RiseK wk b
theorem Good.nil : Good [] := ⟨fun w h => (by simp at h), by decide, List.Pairwise.nil⟩

theorem pw_rise {α : Type} {kf : α → List UInt8} {l : List α} : PW (l.map kf) ↔ RiseK kf l := List.pairwise_map

theorem keysOf_m {b : List GApiWrite} (hb : b.length ≤ 1000000) : m62_buffer_keysOf ⟨b⟩ = some (b.map wk) := by
  unfold m62_buffer_keysOf
  obtain ⟨v, hv, hr⟩ := iterB_inv (f := m62_buffer_keysOf_s2 ⟨b⟩) (P := fun s => ∃ j : Nat, j ≤ b.length ∧ s = ((j : Int), (b.take j).map wk)) (μ := fun s => b.length - s.1.toNat) (R := fun v => v = b.map wk) (by
    rintro _ ⟨j, hj, rfl⟩
    unfold m62_buffer_keysOf_s2
    dsimp only
    rcases Nat.lt_or_ge j b.length with hlt | hge
    · left
      rw [if_pos (decide_eq_true (by omega)), idx_nat, List.getElem?_eq_getElem hlt, Option.bind_some, if_pos (by rw [List.length_map, List.length_take, List.length_singleton]; omega), wI_id (by omega) (by omega)]
      refine ⟨_, rfl, ⟨j + 1, hlt, ?_⟩, by dsimp only; omega⟩
      rw [List.take_succ_eq_append_getElem hlt, List.map_append]; rfl
    · right
      have e : j = b.length := by omega
      subst e
      rw [if_neg (by rw [decide_eq_true_eq]; omega)]
      exact ⟨_, rfl, by rw [List.take_length]⟩) fuel (0, []) ⟨0, Nat.zero_le _, by simp⟩ (lt_fuel (by show b.length - 0 ≤ _; omega))
  rw [hv, hr]; rfl

theorem sane_m {b : List GApiWrite} (h : Good b) : m59_buffer_Sane ⟨b⟩ = some true := by
  have hl := h.len
  unfold m59_buffer_Sane
  rw [scanR b (fun w => !swV w) (fun _ => false) (m59_buffer_Sane_s4 ⟨b⟩) (by omega) (fun i x hx => by
    have hlt := (List.getElem?_eq_some_iff.1 hx).1
    unfold m59_buffer_Sane_s4
    dsimp only
    rw [if_pos (decide_eq_true (by omega)), idx_nat, hx, Option.bind_some, sw_m, Option.bind_some, wI_id (by omega) (by omega)]
    cases swV x <;> rfl) (by
    unfold m59_buffer_Sane_s4
    dsimp only
    rw [if_neg (by rw [decide_eq_true_eq]; omega)]), find_none (fun x hx => by rw [h.sw x hx]; rfl)]
  show m59_buffer_Sane_k1 ⟨b⟩ () = _
  unfold m59_buffer_Sane_k1
  dsimp only
  rw [if_pos (decide_eq_true (by omega)), keysOf_m (by omega), Option.bind_some, sorted_m (pw_rise.2 h.rise) (by rw [List.length_map]; omega), Option.bind_some]


def setR (b : List GApiWrite) (w : GApiWrite) : List GApiWrite := srtK wk (mputK wk b w)
theorem mput_dist {α : Type} {kf : α → List UInt8} {t : List α} (h : DistK kf t) (x : α) : DistK kf (mputK kf t x) := by
  refine List.pairwise_cons.2 ⟨fun y hy => ?_, h.sublist (List.filter_sublist ..)⟩
  have := (List.mem_filter.1 hy).2
  intro e
  rw [e] at this
  simp at this
theorem mdel_dist {α : Type} {kf : α → List UInt8} {t : List α} (h : DistK kf t) (k : List UInt8) : DistK kf (mdelK kf t k) := h.sublist (List.filter_sublist ..)
theorem mput_mem {α : Type} {kf : α → List UInt8} {t : List α} {x y : α} : y ∈ mputK kf t x ↔ y = x ∨ (y ∈ t ∧ kf y ≠ kf x) := by
  unfold mputK
  rw [List.mem_cons, List.mem_filter]
  simp
theorem mdel_mem {α : Type} {kf : α → List UInt8} {t : List α} {k : List UInt8} {y : α} : y ∈ mdelK kf t k ↔ y ∈ t ∧ kf y ≠ k := by
  unfold mdelK
  rw [List.mem_filter]
  simp
theorem setR_mem {b : List GApiWrite} {w x : GApiWrite} : x ∈ setR b w ↔ x = w ∨ (x ∈ b ∧ wk x ≠ wk w) := srtK_mem.trans mput_mem
theorem setR_rise {b : List GApiWrite} (h : RiseK wk b) (w : GApiWrite) : RiseK wk (setR b w) := srtK_rise (mput_dist h.dist w)

theorem kat_mem {b : List GApiWrite} (h : RiseK wk b) {k : List UInt8} : hit (b.map wk) k = true ↔ k ∈ b.map wk := hit_iff (pw_rise.2 h)


theorem set_there {b : List GApiWrite} (h : RiseK wk b) {w : GApiWrite} (hh : hit (b.map wk) (wk w) = true) : b.set (kat (b.map wk) (wk w)) w = setR b w := by
  have hk : (b.map wk)[kat (b.map wk) (wk w)]? = some (wk w) := by
    unfold hit at hh
    exact beq_iff_eq.1 hh
  obtain ⟨p1, _, p3⟩ := mput_at (List.Perm.refl b) h.dist (x := w) hk
  refine rise_eq ?_ (setR_rise h w) (p1.trans (srtK_perm _).symm)
  have e : (b.set (kat (b.map wk) (wk w)) w).map wk = b.map wk := (mput_at (List.Perm.refl b) h.dist (x := w) hk).2.1
  exact pw_rise.1 (by rw [e]; exact pw_rise.2 h)
theorem set_new {b : List GApiWrite} (h : RiseK wk b) {w : GApiWrite} (hh : hit (b.map wk) (wk w) = false) : b.take (kat (b.map wk) (wk w)) ++ w :: b.drop (kat (b.map wk) (wk w)) = setR b w := by
  have hk : wk w ∉ b.map wk := fun hm => by rw [(kat_mem h).2 hm] at hh; cases hh
  have hp : (b.take (kat (b.map wk) (wk w)) ++ w :: b.drop (kat (b.map wk) (wk w))).Perm (w :: b) := by
    refine List.perm_middle.trans ?_
    rw [List.take_append_drop]
  have hf : mputK wk b w = w :: b := by unfold mputK; rw [filt_none hk]
  refine rise_eq ?_ (setR_rise h w) (hp.trans (by rw [← hf]; exact (srtK_perm _).symm))
  have hi := ins_pw (k := wk w) (pw_rise.2 h)
  unfold ins at hi
  rw [if_neg (by rw [hh]; decide)] at hi
  refine pw_rise.1 ?_
  rw [List.map_append, List.map_cons, List.map_take, List.map_drop]
  exact hi
theorem setR_len {b : List GApiWrite} (h : RiseK wk b) (w : GApiWrite) : (setR b w).length = if hit (b.map wk) (wk w) = true then b.length else b.length + 1 := by
  cases hh : hit (b.map wk) (wk w) with
  | true => rw [← set_there h hh, if_pos rfl, List.length_set]
  | false =>
    rw [← set_new h hh, if_neg (by decide), List.length_append, List.length_cons, List.length_take, List.length_drop]
    have := kat_le (b.map wk) (wk w)
    rw [List.length_map] at this
    omega

theorem set_ok {b : List GApiWrite} (h : Good b) {w : GApiWrite} (hw : swV w = true) (hr : wk w ∈ b.map wk ∨ b.length < 16) : m45_buffer_Set ⟨b⟩ w = some (⟨setR b w⟩, 0) ∧ Good (setR b w) := by
  have hl := h.len
  have hg : Good (setR b w) := by
    refine ⟨fun x hx => ?_, ?_, setR_rise h.rise w⟩
    · rcases setR_mem.1 hx with rfl | ⟨hx, _⟩
      · exact hw
      · exact h.sw x hx
    · rw [setR_len h.rise]
      split
      · exact hl
      · rename_i hn
        rcases hr with hr | hr
        · exact absurd ((kat_mem h.rise).2 hr) hn
        · omega
  refine ⟨?_, hg⟩
  unfold m45_buffer_Set
  rw [show (⟨(GBufferBuf.mk b).L⟩ : GBufferBuf) = ⟨b⟩ from rfl, sane_m h, Option.bind_some, show (⟨w.Key, w.Val, w.Del⟩ : GApiWrite) = w from rfl, sw_m, Option.bind_some, hw]
  unfold m45_buffer_Set_k1
  rw [keysOf_m (by omega), Option.bind_some, find_m _ _ (by rw [List.length_map]; omega), Option.bind_some]
  dsimp only
  rw [m63_slices_Cloneo_m _ (by omega), Option.bind_some]
  have hkl := kat_le (b.map wk) (wk w)
  rw [List.length_map] at hkl
  rw [if_neg (by decide), if_neg (by decide)]
  cases hh : hit (b.map wk) w.Key with
  | true =>
    have hlt := hit_lt hh
    rw [List.length_map] at hlt
    rw [if_pos rfl, idx_nat, List.getElem?_eq_getElem hlt, Option.bind_some, Int.toNat_natCast]
    exact congrArg (fun l => some (GBufferBuf.mk l, (0 : Int))) (set_there h.rise hh)
  | false =>
    have hlt : b.length < 16 := by
      rcases hr with hr | hr
      · have := (kat_mem h.rise).2 hr
        rw [show wk w = w.Key from rfl, hh] at this; cases this
      · exact hr
    rw [if_neg (by decide), if_neg (by rw [decide_eq_true_eq]; omega)]
    unfold m64_slices_Insert insM
    dsimp only
    rw [if_pos ⟨⟨Int.natCast_nonneg _, by show ((kat (b.map wk) (wk w) : Nat) : Int) ≤ _; omega⟩, by omega⟩, Option.bind_some, Int.toNat_natCast]
    exact congrArg (fun l => some (GBufferBuf.mk l, (0 : Int))) (set_new h.rise hh)

theorem set_bad {b : List GApiWrite} (h : Good b) {w : GApiWrite} (hn : ¬ (swV w = true ∧ (wk w ∈ b.map wk ∨ b.length < 16))) : ∃ e : Int, e ≠ 0 ∧ (swV w = true → e = 8) ∧ m45_buffer_Set ⟨b⟩ w = some (⟨[]⟩, e) := by
  have hl := h.len
  unfold m45_buffer_Set
  rw [show (⟨(GBufferBuf.mk b).L⟩ : GBufferBuf) = ⟨b⟩ from rfl, sane_m h, Option.bind_some, show (⟨w.Key, w.Val, w.Del⟩ : GApiWrite) = w from rfl, sw_m, Option.bind_some, if_neg (by decide)]
  cases hw : swV w with
  | false => exact ⟨1, by decide, fun h => (by cases h), rfl⟩
  | true =>
    have hn2 : ¬ (wk w ∈ b.map wk ∨ b.length < 16) := fun h => hn ⟨hw, h⟩
    have hh : hit (b.map wk) w.Key = false := by
      cases hh : hit (b.map wk) w.Key with
      | false => rfl
      | true => exact absurd (.inl ((kat_mem h.rise).1 hh)) hn2
    unfold m45_buffer_Set_k1
    rw [if_neg (by decide), keysOf_m (by omega), Option.bind_some, find_m _ _ (by rw [List.length_map]; omega), Option.bind_some]
    dsimp only
    rw [m63_slices_Cloneo_m _ (by omega), Option.bind_some, hh, if_neg (by decide), if_pos (decide_eq_true (by omega))]
    exact ⟨8, by decide, fun _ => rfl, rfl⟩


theorem set_any {b : List GApiWrite} (h : Good b) (w : GApiWrite) : (m45_buffer_Set ⟨b⟩ w = some (⟨setR b w⟩, 0) ∧ Good (setR b w) ∧ swV w = true) ∨ ∃ e : Int, e ≠ 0 ∧ m45_buffer_Set ⟨b⟩ w = some (⟨[]⟩, e) := by
  by_cases hc : swV w = true ∧ (wk w ∈ b.map wk ∨ b.length < 16)
  · obtain ⟨h1, h2⟩ := set_ok h hc.1 hc.2
    exact .inl ⟨h1, h2, hc.1⟩
  · obtain ⟨e, h1, _, h2⟩ := set_bad h hc
    exact .inr ⟨e, h1, h2⟩

theorem get_some {α : Type} {kf : α → List UInt8} {b : List α} (h : DistK kf b) {w : α} (hw : w ∈ b) : b.find? (fun x => kf x == kf w) = some w := by
  induction b with
  | nil => simp at hw
  | cons x b ih =>
    obtain ⟨h1, h2⟩ := List.pairwise_cons.1 h
    rcases List.mem_cons.1 hw with rfl | hw
    · rw [List.find?_cons]; simp
    · rw [List.find?_cons, show (kf x == kf w) = false from by simpa using h1 w hw]
      exact ih h2 hw
theorem get_none {α : Type} {kf : α → List UInt8} {b : List α} {k : List UInt8} (h : ∀ w ∈ b, kf w ≠ k) : b.find? (fun x => kf x == k) = none := find_none fun x hx => by simpa using h x hx

theorem kvs_m {xs : List GApiKV} (hl : xs.length ≤ 1000000) : m16_r05_KVs xs xs = some true := by
  unfold m16_r05_KVs
  rw [decide_eq_true rfl, if_neg (by decide), scanR xs (fun _ => false) (fun _ => false) (m16_r05_KVs_s2 xs xs) (by omega) (fun i x hx => by
    have hlt := (List.getElem?_eq_some_iff.1 hx).1
    unfold m16_r05_KVs_s2
    rw [if_pos (decide_eq_true (by omega)), idx_nat, hx, Option.bind_some, Option.bind_some, wI_id (by omega) (by omega)]
    simp) (by
    unfold m16_r05_KVs_s2
    rw [if_neg (by rw [decide_eq_true_eq]; omega)]), find_none (fun _ _ => rfl)]
  rfl


def kvw (w : GApiWrite) : GApiKV := ⟨w.Key, w.Val⟩
def lstep (r : GApiRange) (t : List GApiKV) (x : GApiKV) : List GApiKV := if hasV r x.Key then mputK kvk t x else t
def wstep (r : GApiRange) (t : List GApiKV) (w : GApiWrite) : List GApiKV := if w.Del then mdelK kvk t w.Key else if hasV r w.Key then mputK kvk t (kvw w) else t
def ovL (b : List GApiWrite) (l : List GApiKV) (r : GApiRange) : List GApiKV := srtK kvk (b.foldl (wstep r) (l.foldl (lstep r) []))

theorem lfold_mem {r : GApiRange} : ∀ {l t : List GApiKV}, DistK kvk l → (∀ x ∈ t, ∀ y ∈ l, kvk x ≠ kvk y) → DistK kvk t → (∀ x, x ∈ l.foldl (lstep r) t ↔ x ∈ t ∨ (x ∈ l ∧ hasV r x.Key = true)) ∧ DistK kvk (l.foldl (lstep r) t)
  | [], t, _, _, hd => ⟨fun x => by simp, hd⟩
  | y :: l, t, h, hn, hd => by
    obtain ⟨h1, h2⟩ := List.pairwise_cons.1 h
    rw [List.foldl_cons]
    have hs : (∀ x, x ∈ lstep r t y ↔ x ∈ t ∨ (x = y ∧ hasV r y.Key = true)) ∧ DistK kvk (lstep r t y) := by
      unfold lstep
      cases hh : hasV r y.Key with
      | false => exact ⟨fun x => by simp, hd⟩
      | true =>
        rw [if_pos rfl]
        refine ⟨fun x => ?_, mput_dist hd y⟩
        rw [mput_mem]
        constructor
        · rintro (h | ⟨h, _⟩)
          · exact .inr ⟨h, rfl⟩
          · exact .inl h
        · rintro (h | ⟨h, _⟩)
          · exact .inr ⟨h, hn x h y (List.mem_cons_self ..)⟩
          · exact .inl h
    obtain ⟨i1, i2⟩ := lfold_mem (r := r) h2 (t := lstep r t y) (fun x hx z hz => by
      rcases (hs.1 x).1 hx with h | ⟨h, _⟩
      · exact hn x h z (List.mem_cons_of_mem _ hz)
      · rw [h]; exact h1 z hz) hs.2
    refine ⟨fun x => ?_, i2⟩
    rw [i1, hs.1, List.mem_cons]
    constructor
    · rintro ((h | ⟨h, h'⟩) | ⟨h, h'⟩)
      · exact .inl h
      · exact .inr ⟨.inl h, by rw [h]; exact h'⟩
      · exact .inr ⟨.inr h, h'⟩
    · rintro (h | ⟨h | h, h'⟩)
      · exact .inl (.inl h)
      · exact .inl (.inr ⟨h, by rw [← h]; exact h'⟩)
      · exact .inr ⟨h, h'⟩

theorem wfold_mem {r : GApiRange} : ∀ {b : List GApiWrite} {t : List GApiKV}, DistK wk b → (∀ x ∈ t, hasV r x.Key = true) → DistK kvk t →
    (∀ x, x ∈ b.foldl (wstep r) t ↔ (x ∈ t ∧ x.Key ∉ b.map wk) ∨ ∃ w ∈ b, w.Del = false ∧ hasV r w.Key = true ∧ x = kvw w) ∧ DistK kvk (b.foldl (wstep r) t)
  | [], t, _, _, hd => ⟨fun x => by simp, hd⟩
  | y :: b, t, h, hr, hd => by
    obtain ⟨h1, h2⟩ := List.pairwise_cons.1 h
    rw [List.foldl_cons]
    have hs : (∀ x, x ∈ wstep r t y ↔ (x ∈ t ∧ x.Key ≠ y.Key) ∨ (y.Del = false ∧ hasV r y.Key = true ∧ x = kvw y)) ∧ DistK kvk (wstep r t y) := by
      unfold wstep
      cases hdel : y.Del with
      | true =>
        rw [if_pos rfl]
        refine ⟨fun x => ?_, mdel_dist hd _⟩
        rw [mdel_mem]
        simp [kvk]
      | false =>
        rw [if_neg (by decide)]
        cases hh : hasV r y.Key with
        | false =>
          rw [if_neg (by decide)]
          refine ⟨fun x => ⟨fun hx => .inl ⟨hx, fun e => ?_⟩, fun hx => ?_⟩, hd⟩
          · have := hr x hx; rw [e, hh] at this; cases this
          · rcases hx with ⟨hx, _⟩ | ⟨_, hx, _⟩
            · exact hx
            · cases hx
        | true =>
          rw [if_pos rfl]
          refine ⟨fun x => ?_, mput_dist hd _⟩
          rw [mput_mem]
          constructor
          · rintro (h | h)
            · exact .inr ⟨rfl, rfl, h⟩
            · exact .inl h
          · rintro (h | ⟨_, _, h⟩)
            · exact .inr h
            · exact .inl h
    obtain ⟨i1, i2⟩ := wfold_mem (r := r) h2 (t := wstep r t y) (fun x hx => by
      rcases (hs.1 x).1 hx with ⟨h, _⟩ | ⟨_, h, e⟩
      · exact hr x h
      · rw [e]; exact h) hs.2
    refine ⟨fun x => ?_, i2⟩
    rw [i1, hs.1, List.map_cons, List.mem_cons]
    constructor
    · rintro (⟨⟨h, h'⟩ | ⟨hd', hr', e⟩, hb⟩ | ⟨w, hw, hx⟩)
      · exact .inl ⟨h, fun e => e.elim h' hb⟩
      · exact .inr ⟨y, List.mem_cons_self .., hd', hr', e⟩
      · exact .inr ⟨w, List.mem_cons_of_mem _ hw, hx⟩
    · rintro (⟨h, hb⟩ | ⟨w, hw, hx⟩)
      · exact .inl ⟨.inl ⟨h, fun e => hb (.inl e)⟩, fun e => hb (.inr e)⟩
      · rcases List.mem_cons.1 hw with rfl | hw
        · refine .inl ⟨.inr hx, fun hm => ?_⟩
          obtain ⟨z, hz, hk⟩ := List.mem_map.1 hm
          rw [hx.2.2] at hk
          exact h1 z hz hk.symm
        · exact .inr ⟨w, hw, hx⟩

theorem ov_fold {b : List GApiWrite} {l : List GApiKV} (r : GApiRange) (hb : RiseK wk b) (hl : RiseK kvk l) :
    (∀ x, x ∈ b.foldl (wstep r) (l.foldl (lstep r) []) ↔ (hasV r x.Key = true ∧ x ∈ l ∧ x.Key ∉ b.map wk) ∨ ∃ w ∈ b, w.Del = false ∧ hasV r w.Key = true ∧ x = kvw w) ∧ DistK kvk (b.foldl (wstep r) (l.foldl (lstep r) [])) := by
  obtain ⟨h1, h2⟩ := lfold_mem (r := r) (t := []) hl.dist (fun x hx => by simp at hx) List.Pairwise.nil
  obtain ⟨h3, h4⟩ := wfold_mem (r := r) hb.dist (t := l.foldl (lstep r) []) (fun x hx => by
    rcases (h1 x).1 hx with h | h
    · simp at h
    · exact h.2) h2
  refine ⟨fun x => ?_, h4⟩
  rw [h3, h1]
  simp only [List.not_mem_nil, false_or]
  constructor
  · rintro (⟨⟨a, b⟩, c⟩ | h)
    · exact .inl ⟨b, a, c⟩
    · exact .inr h
  · rintro (⟨b, a, c⟩ | h)
    · exact .inl ⟨⟨a, b⟩, c⟩
    · exact .inr h
theorem ov_mem {b : List GApiWrite} {l : List GApiKV} {r : GApiRange} (hb : RiseK wk b) (hl : RiseK kvk l) {x : GApiKV} :
    x ∈ ovL b l r ↔ (hasV r x.Key = true ∧ x ∈ l ∧ x.Key ∉ b.map wk) ∨ ∃ w ∈ b, w.Del = false ∧ hasV r w.Key = true ∧ x = kvw w := srtK_mem.trans ((ov_fold r hb hl).1 x)
theorem ov_rise {b : List GApiWrite} {l : List GApiKV} (r : GApiRange) (hb : RiseK wk b) (hl : RiseK kvk l) : RiseK kvk (ovL b l r) := srtK_rise (ov_fold r hb hl).2
theorem lfold_len (r : GApiRange) : ∀ (l t : List GApiKV), (l.foldl (lstep r) t).length ≤ t.length + l.length
  | [], t => by simp
  | y :: l, t => by
    have := lfold_len r l (lstep r t y)
    have h2 : (lstep r t y).length ≤ t.length + 1 := by
      unfold lstep mputK
      split
      · have := List.length_filter_le (fun z => !(kvk z == kvk y)) t
        rw [List.length_cons]; omega
      · omega
    rw [List.foldl_cons, List.length_cons]; omega
theorem wfold_len (r : GApiRange) : ∀ (b : List GApiWrite) (t : List GApiKV), (b.foldl (wstep r) t).length ≤ t.length + b.length
  | [], t => by simp
  | y :: l, t => by
    have := wfold_len r l (wstep r t y)
    have h2 : (wstep r t y).length ≤ t.length + 1 := by
      unfold wstep mputK mdelK
      split
      · have := List.length_filter_le (fun z => !(kvk z == y.Key)) t; omega
      · split
        · have := List.length_filter_le (fun z => !(kvk z == kvk (kvw y))) t
          rw [List.length_cons]; omega
        · omega
    rw [List.foldl_cons, List.length_cons]; omega
theorem ov_len (b : List GApiWrite) (l : List GApiKV) (r : GApiRange) : (ovL b l r).length ≤ l.length + b.length := by
  unfold ovL
  rw [(srtK_perm _).length_eq]
  have h1 := wfold_len r b (l.foldl (lstep r) [])
  have h2 := lfold_len r l []
  simp at h2
  omega

theorem risen_m {l : List GApiKV} (h : RiseK kvk l) (hl : l.length ≤ 1000000) : m71_buffer_risen l = some true := by
  unfold m71_buffer_risen
  obtain ⟨v, hv, hr⟩ := iterB_inv (f := m71_buffer_risen_s3 l) (P := fun s => ∃ j : Nat, j ≤ l.length ∧ s = ((j : Int), (l.take j).map kvk)) (μ := fun s => l.length - s.1.toNat) (R := fun v => v = l.map kvk) (by
    rintro _ ⟨j, hj, rfl⟩
    unfold m71_buffer_risen_s3
    dsimp only
    rcases Nat.lt_or_ge j l.length with hlt | hge
    · left
      rw [if_pos (decide_eq_true (by omega)), idx_nat, List.getElem?_eq_getElem hlt, Option.bind_some, if_pos (by rw [List.length_map, List.length_take, List.length_singleton]; omega), wI_id (by omega) (by omega)]
      refine ⟨_, rfl, ⟨j + 1, hlt, ?_⟩, by dsimp only; omega⟩
      rw [List.take_succ_eq_append_getElem hlt, List.map_append]; rfl
    · right
      have e : j = l.length := by omega
      subst e
      rw [if_neg (by rw [decide_eq_true_eq]; omega)]
      exact ⟨_, rfl, by rw [List.take_length]⟩) fuel (0, []) ⟨0, Nat.zero_le _, by simp⟩ (lt_fuel (by show l.length - 0 ≤ _; omega))
  rw [hv, hr]
  show m71_buffer_risen_k1 _ = _
  unfold m71_buffer_risen_k1
  rw [sorted_m (List.pairwise_map.2 h) (by rw [List.length_map]; omega)]
  rfl

theorem over_m {b : List GApiWrite} {l : List GApiKV} (r : GApiRange) {n : Int} (hb : Good b) (hl : RiseK kvk l) (hn : l.length ≤ 1000000) (h1 : 1 ≤ n) : m58_buffer_Over ⟨b⟩ l r n = some ((ovL b l r).take n.toNat) := by
  have hbl := hb.len
  unfold m58_buffer_Over
  rw [sane_m hb, Option.bind_some, if_neg (by decide), risen_m hl hn, Option.bind_some, if_neg (by decide), if_neg (by rw [decide_eq_true_eq]; omega)]
  have e1 := iterB_fold (f := overs1 l r) (fun (t : List GApiKV) (i : Nat) => ((i : Int), t)) l (lstep r) (fun t => t) (by omega) (fun acc i x hx => by
    have hlt := (List.getElem?_eq_some_iff.1 hx).1
    unfold overs1
    dsimp only
    rw [if_pos (decide_eq_true (by omega)), idx_nat, hx, Option.bind_some, has_m, Option.bind_some, wI_id (by omega) (by omega)]
    rfl) (fun acc => by
    unfold overs1
    dsimp only
    rw [if_neg (by rw [decide_eq_true_eq]; omega)]) []
  have e2 := iterB_fold (f := overs2 ⟨b⟩ r) (fun (t : List GApiKV) (i : Nat) => ((i : Int), t)) b (wstep r) (fun t => t) (by omega) (fun acc i x hx => by
    have hlt := (List.getElem?_eq_some_iff.1 hx).1
    unfold overs2 wstep
    dsimp only
    rw [if_pos (decide_eq_true (by omega)), idx_nat, hx, Option.bind_some, wI_id (by omega) (by omega)]
    cases hd : x.Del with
    | true => rfl
    | false =>
      rw [if_neg (by decide), has_m, Option.bind_some]
      rfl) (fun acc => by
    unfold overs2
    dsimp only
    rw [if_neg (by rw [decide_eq_true_eq]; omega)]) (l.foldl (lstep r) [])
  have e1' : iterB (overs1 l r) fuel (0, []) = some (l.foldl (lstep r) []) := e1
  have e2' : iterB (overs2 ⟨b⟩ r) fuel (0, l.foldl (lstep r) []) = some (b.foldl (wstep r) (l.foldl (lstep r) [])) := e2
  rw [e1', Option.bind_some]
  unfold overk1
  rw [e2', Option.bind_some]
  unfold overk2
  have hlen := ov_len b l r
  have hlen' : (b.foldl (wstep r) (l.foldl (lstep r) [])).length = (ovL b l r).length := (srtK_perm (kf := kvk) _).length_eq.symm
  rw [if_pos (by omega)]
  show cut (ovL b l r) 0 (if n < ((ovL b l r).length : Int) then n else ((ovL b l r).length : Int)) = _
  split
  · rw [cut_of (by omega) (by omega) (by omega)]; simp
  · rw [cut_of (by omega) (by omega) (by omega), List.take_of_length_le (l := ovL b l r) (by omega)]; simp


theorem rising_m {l : List GApiKV} (hk : ∀ x ∈ l, x.Key.length ≤ 1000000) (hl : l.length ≤ 1000000) : ∃ v, m12_r09_Rising l = some v ∧ (v = true ↔ RiseK kvk l) := by
  rcases Nat.lt_or_ge l.length 1 with h0 | h0
  · have : l = [] := List.eq_nil_of_length_eq_zero (by omega)
    subst this
    exact ⟨true, by decide +kernel, fun _ => List.Pairwise.nil, fun _ => rfl⟩
  obtain ⟨v, hv, hr⟩ := iter_inv (f := m12_r09_Rising_s2 l) (P := fun s => ∃ i : Nat, 1 ≤ i ∧ i ≤ l.length ∧ s = (i : Int) ∧ RiseK kvk (l.take i)) (μ := fun s => l.length - s.toNat)
    (R := fun x => match x with | .inl r => r = false ∧ ¬ RiseK kvk l | .inr _ => RiseK kvk l) (by
      rintro _ ⟨i, h1, hi, rfl, hp⟩
      unfold m12_r09_Rising_s2
      rcases Nat.lt_or_ge i l.length with hlt | hge
      · have hlt' : i - 1 < l.length := by omega
        rw [if_pos (decide_eq_true (by omega)), wI_id (by omega) (by omega), show (i : Int) - 1 = ((i - 1 : Nat) : Int) by omega, idx_nat, idx_nat, List.getElem?_eq_getElem hlt, List.getElem?_eq_getElem hlt', Option.bind_some, Option.bind_some, rcmp_m _ _ (by have := hk _ (List.getElem_mem hlt'); omega), Option.bind_some, wI_id (by omega) (by omega)]
        by_cases hc : 0 ≤ cmpL l[i - 1].Key l[i].Key
        · rw [if_pos (decide_eq_true hc)]
          refine .inr (.inr ⟨_, rfl, rfl, fun h => ?_⟩)
          have := (List.pairwise_iff_getElem.1 h) (i - 1) i hlt' hlt (by omega)
          have : cmpL l[i - 1].Key l[i].Key < 0 := this
          omega
        · rw [if_neg (by rw [decide_eq_true_eq]; exact hc)]
          refine .inl ⟨_, rfl, ⟨i + 1, by omega, by omega, rfl, ?_⟩, by simp only [Int.toNat_natCast]; omega⟩
          rw [List.take_succ_eq_append_getElem hlt]
          refine List.pairwise_append.2 ⟨hp, List.pairwise_singleton _ _, fun a ha c hc' => ?_⟩
          rw [List.mem_singleton.1 hc']
          have hlast : l.take i = l.take (i - 1) ++ [l[i - 1]] := by
            have := List.take_succ_eq_append_getElem hlt'
            rwa [show i - 1 + 1 = i by omega] at this
          have hc2 : cmpL (kvk l[i - 1]) (kvk l[i]) < 0 := by show cmpL l[i - 1].Key l[i].Key < 0; omega
          rw [hlast] at ha hp
          rcases List.mem_append.1 ha with ha | ha
          · have := (List.pairwise_append.1 hp).2.2 a ha _ (List.mem_singleton.2 rfl)
            exact (cmpL_trans (Int.le_of_lt this) (Int.le_of_lt hc2)).2 (.inl this)
          · rw [List.mem_singleton.1 ha]; exact hc2
      · have e : i = l.length := by omega
        subst e
        rw [if_neg (by rw [decide_eq_true_eq]; omega)]
        refine .inr (.inl ⟨_, rfl, ?_⟩)
        rw [List.take_length] at hp
        exact hp) fuel 1 ⟨1, Nat.le_refl _, h0, rfl, by
          match l, h0 with
          | x :: l, _ => exact List.pairwise_singleton _ _⟩ (lt_fuel (by show l.length - 1 ≤ _; omega))
  unfold m12_r09_Rising
  rw [hv]
  cases v with
  | inl r => exact ⟨r, rfl, fun h => (by rw [hr.1] at h; cases h), fun h => absurd h hr.2⟩
  | inr b => exact ⟨true, rfl, fun _ => hr, fun _ => rfl⟩

theorem key_small {b : List GApiWrite} (h : Good b) : ∀ w ∈ b, w.Key.length ≤ 1000 := fun w hw => by
  have h1 := h.sw w hw
  have h2 := sw_m w
  rw [h1] at h2
  unfold m60_buffer_saneWrite m48_keys_Sane at h2
  by_cases hc : (w.Key.length : Int) ≤ 16
  · omega
  · exfalso
    revert h2
    simp [hc]
    try split <;> simp


end Go.Proofs.Ytdehclinlcnlhaa.Abs
