/-
  What the library's functions compute.
-/
import Derived.Test.YtkbkpafidgfhdaaS10
namespace Go.Proofs.Ytkbkpafidgfhdaa.Abs



theorem cmp_m (a b : List UInt8) : m50_keys_Cmp a b = some (cmpL a b) := rfl

theorem cmpL_drop {a b : List UInt8} {i : Nat} {x y : UInt8} (ha : a[i]? = some x) (hb : b[i]? = some y) : cmpL (a.drop i) (b.drop i) = if x < y then -1 else if y < x then 1 else cmpL (a.drop (i + 1)) (b.drop (i + 1)) := by
  obtain ⟨h1, rfl⟩ := List.getElem?_eq_some_iff.1 ha
  obtain ⟨h2, rfl⟩ := List.getElem?_eq_some_iff.1 hb
  rw [List.drop_eq_getElem_cons h1, List.drop_eq_getElem_cons h2]
  rfl
theorem u8_lt_int (x y : UInt8) : ((x.toBitVec.toNat : Int) < (y.toBitVec.toNat : Int)) ↔ x < y := by
  rw [UInt8.lt_iff_toNat_lt, Int.ofNat_lt]
  rfl
theorem rcmp_m (a b : List UInt8) (ha : a.length ≤ 1000000000000000000) : m44_r06_Cmp a b = some (cmpL a b) := by
  obtain ⟨v, hv, hr⟩ := iter_inv (f := m44_r06_Cmp_s2 a b) (P := fun s => ∃ i : Nat, s = (i : Int) ∧ i ≤ a.length ∧ i ≤ b.length ∧ cmpL a b = cmpL (a.drop i) (b.drop i)) (μ := fun s => a.length - s.toNat)
    (R := fun v => match v with | .inl r => r = cmpL a b | .inr _ => cmpL a b = if a.length < b.length then -1 else if b.length < a.length then 1 else 0) (by
    rintro _ ⟨i, rfl, h1, h2, h3⟩
    unfold m44_r06_Cmp_s2
    by_cases ha' : i < a.length
    · rw [if_pos (decide_eq_true (by omega))]
      by_cases hb' : i < b.length
      · rw [if_pos (decide_eq_true (by omega))]
        unfold m44_r06_Cmp_k3
        have ea := List.getElem?_eq_getElem ha'
        have eb := List.getElem?_eq_getElem hb'
        have e := cmpL_drop ea eb
        rw [idx_nat, idx_nat, ea, eb]
        simp only [Option.bind_some]
        by_cases hx : a[i] < b[i]
        · right; right
          rw [if_pos (decide_eq_true ((u8_lt_int _ _).2 hx))]
          refine ⟨_, rfl, ?_⟩
          show (-1 : Int) = _
          rw [h3, e, if_pos hx]
        · rw [if_neg (by rw [decide_eq_true_eq, u8_lt_int]; exact hx)]
          by_cases hy : b[i] < a[i]
          · right; right
            rw [if_pos (decide_eq_true ((u8_lt_int _ _).2 hy))]
            refine ⟨_, rfl, ?_⟩
            show (1 : Int) = _
            rw [h3, e, if_neg hx, if_pos hy]
          · left
            rw [if_neg (by rw [decide_eq_true_eq, u8_lt_int]; exact hy)]
            refine ⟨_, rfl, ⟨i + 1, by rw [wI_id (by omega) (by omega)]; rfl, ha', hb', by rw [h3, e, if_neg hx, if_neg hy]⟩, by rw [wI_id (by omega) (by omega)]; omega⟩
      · right; left
        rw [if_neg (by rw [decide_eq_true_eq]; omega)]
        refine ⟨_, rfl, ?_⟩
        show cmpL a b = _
        have : i = b.length := by omega
        rw [h3, this, List.drop_length, List.drop_eq_getElem_cons (by omega), if_neg (by omega), if_pos (by omega)]
        rfl
    · right; left
      rw [if_neg (by rw [decide_eq_true_eq]; omega)]
      refine ⟨_, rfl, ?_⟩
      show cmpL a b = _
      have : i = a.length := by omega
      rw [h3, this, List.drop_length]
      by_cases hb' : a.length < b.length
      · rw [List.drop_eq_getElem_cons hb', if_pos hb']; rfl
      · rw [List.drop_of_length_le (by omega), if_neg hb', if_neg (by omega)]; rfl) fuel 0 ⟨0, rfl, Nat.zero_le _, Nat.zero_le _, rfl⟩ (lt_fuel (by show a.length - 0 ≤ _; omega))
  unfold m44_r06_Cmp
  rw [hv, Option.bind_some]
  cases v with
  | inl r => rw [show r = cmpL a b from hr]
  | inr u =>
    have hr' : cmpL a b = if a.length < b.length then -1 else if b.length < a.length then 1 else 0 := hr
    unfold m44_r06_Cmp_k1
    rw [hr']
    by_cases h1 : a.length < b.length
    · rw [if_pos (decide_eq_true (by omega)), if_pos h1]
    · rw [if_neg (by rw [decide_eq_true_eq]; omega), if_neg h1]
      by_cases h2 : b.length < a.length
      · rw [if_pos (decide_eq_true (by omega)), if_pos h2]
      · rw [if_neg (by rw [decide_eq_true_eq]; omega), if_neg h2]

def hasV (r : GApiRange) (k : List UInt8) : Bool := decide (0 ≤ cmpL k r.Lo) && (r.Open || decide (cmpL k r.Hi < 0))
theorem has_m (r : GApiRange) (k : List UInt8) : m38_keys_Has r k = some (hasV r k) := by
  unfold m38_keys_Has hasV
  simp only [cmp_m, Option.bind_some]
  cases decide (0 ≤ cmpL k r.Lo) <;> cases r.Open <;> simp
theorem rhas_m (r : GApiRange) (k : List UInt8) (h : k.length ≤ 1000000000000000000) : m29_r06_Has r k = some (hasV r k) := by
  unfold m29_r06_Has hasV
  simp only [rcmp_m _ _ h, Option.bind_some]
  cases decide (0 ≤ cmpL k r.Lo) <;> cases r.Open <;> simp
def emptyV (r : GApiRange) : Bool := !r.Open && ((decide (r.Lo = []) && decide (r.Hi = [0])) || decide (cmpL r.Hi r.Lo ≤ 0))
theorem len0 {α : Type} (a : List α) : decide ((a.length : Int) = 0) = decide (a = []) := by
  rw [decide_eq_decide]
  cases a <;> simp
  omega
theorem empty_m (r : GApiRange) : m46_keys_Empty r = some (emptyV r) := by
  obtain ⟨lo, hi, o⟩ := r
  unfold m46_keys_Empty m46_keys_Empty_k1 emptyV
  simp only [cmp_m, Option.bind_some, len0]
  cases o with
  | true => rfl
  | false =>
    cases lo with
    | cons x xs => simp
    | nil =>
      rcases hi with _ | ⟨x, _ | ⟨y, ys⟩⟩
      · simp
      · have e : (decide ((x.toBitVec.toNat : Int) = (0 : Int))) = decide (x = 0) := by
          rw [decide_eq_decide]
          constructor
          · intro h; exact UInt8.toNat_inj.1 (by have : x.toNat = 0 := by have h' : ((x.toNat : Nat) : Int) = 0 := h; omega
                                                 rw [this]; rfl)
          · rintro rfl; rfl
        rw [show idx [x] 0 = some x from rfl]
        simp only [Option.bind_some, e]
        by_cases hx : x = 0 <;> simp [hx]
      · have : ((List.length (x :: y :: ys) : Nat) : Int) ≠ 1 := by simp; omega
        simp [this]
        omega
theorem rempty_m (r : GApiRange) (h : r.Hi.length ≤ 1000000000000000000) : m49_r06_Empty r = some (emptyV r) := by
  obtain ⟨lo, hi, o⟩ := r
  unfold m49_r06_Empty emptyV
  simp only [rcmp_m _ _ h, Option.bind_some, len0]
  cases o with
  | true => rfl
  | false =>
    by_cases hc : cmpL hi lo ≤ 0
    · simp [hc]
    · cases lo with
      | cons x xs => simp [hc]
      | nil =>
        rcases hi with _ | ⟨x, _ | ⟨y, ys⟩⟩
        · simp [hc]
        · have e : (decide ((x.toBitVec.toNat : Int) = (0 : Int))) = decide (x = 0) := by
            rw [decide_eq_decide]
            constructor
            · intro h; exact UInt8.toNat_inj.1 (by have : x.toNat = 0 := by have h' : ((x.toNat : Nat) : Int) = 0 := h; omega
                                                   rw [this]; rfl)
            · rintro rfl; rfl
          rw [show idx [x] 0 = some x from rfl]
          simp only [Option.bind_some, e]
          by_cases hx : x = 0 <;> simp [hx, hc]
        · have : ((List.length (x :: y :: ys) : Nat) : Int) ≠ 1 := by simp; omega
          simp [hc]
          omega
theorem rone_m (a : List UInt8) (h : a.length ≤ 1000000) : m31_r06_One a = some ⟨a, a ++ [0], false⟩ := by
  unfold m31_r06_One
  rw [if_pos (by simp; omega), if_pos (by simp; omega)]
  simp

theorem cmpL_app_lt : ∀ {k a : List UInt8}, cmpL k (a ++ [0]) < 0 → cmpL k a ≤ 0
  | k, [], h => by rw [cmpL_one h]; exact Int.le_refl _
  | [], x :: xs, _ => by show (-1 : Int) ≤ 0; decide
  | y :: ys, x :: xs, h => by
    have h' : (if y < x then (-1 : Int) else if x < y then 1 else cmpL ys (xs ++ [0])) < 0 := h
    show (if y < x then (-1 : Int) else if x < y then 1 else cmpL ys xs) ≤ 0
    by_cases h1 : y < x
    · rw [if_pos h1]; decide
    · rw [if_neg h1] at h' ⊢
      by_cases h2 : x < y
      · rw [if_pos h2] at h'; exact absurd h' (by decide)
      · rw [if_neg h2] at h' ⊢
        exact cmpL_app_lt h'



abbrev Keys := List (List UInt8)
def kat (xs : Keys) (k : List UInt8) : Nat := xs.findIdx (fun x => decide (0 ≤ cmpL x k))
def hit (xs : Keys) (k : List UInt8) : Bool := xs[kat xs k]? == some k
theorem kat_le (xs : Keys) (k : List UInt8) : kat xs k ≤ xs.length := List.findIdx_le_length
theorem kat_of {xs : Keys} {k : List UInt8} {i : Nat} {x : List UInt8} (h : xs[i]? = some x) (h1 : 0 ≤ cmpL x k) (h2 : ∀ j y, j < i → xs[j]? = some y → cmpL y k < 0) : kat xs k = i := by
  obtain ⟨hi, rfl⟩ := List.getElem?_eq_some_iff.1 h
  unfold kat
  rw [List.findIdx_eq hi]
  refine ⟨by simpa using h1, fun j hj => ?_⟩
  have := h2 j xs[j] hj (List.getElem?_eq_getElem (by omega))
  rw [decide_eq_false_iff_not]
  omega
theorem kat_none {xs : Keys} {k : List UInt8} (h : ∀ j y, j < xs.length → xs[j]? = some y → cmpL y k < 0) : kat xs k = xs.length := by
  unfold kat
  rw [List.findIdx_eq_length]
  intro x hx
  obtain ⟨j, hj, rfl⟩ := List.getElem_of_mem hx
  have := h j xs[j] hj (List.getElem?_eq_getElem hj)
  rw [decide_eq_false_iff_not]
  omega
theorem cmp_zero_beq (x k : List UInt8) : decide (cmpL x k = 0) = (x == k) := by
  by_cases h : x = k
  · subst h; simp [cmpL_self]
  · rw [beq_false_of_ne h, decide_eq_false_iff_not]
    exact fun e => h (cmpL_zero e)

def ins (xs : Keys) (k : List UInt8) : Keys := if hit xs k then xs else xs.take (kat xs k) ++ k :: xs.drop (kat xs k)
/-- What has been put down when j of them have been seen. -/
def part (xs : Keys) (k : List UInt8) (j : Nat) : Keys := if hit xs k = true ∨ j ≤ kat xs k then xs.take j else xs.take (kat xs k) ++ k :: (xs.drop (kat xs k)).take (j - kat xs k)
theorem hit_lt {xs : Keys} {k : List UInt8} (h : hit xs k = true) : kat xs k < xs.length := by
  unfold hit at h
  have := eq_of_beq h
  exact (List.getElem?_eq_some_iff.1 this).1
theorem part_len (xs : Keys) (k : List UInt8) (j : Nat) : (part xs k j).length ≤ j + 1 := by
  unfold part
  split
  · rw [List.length_take]; omega
  · simp only [List.length_append, List.length_cons, List.length_take]; omega
theorem part_end (xs : Keys) (k : List UInt8) : (if kat xs k = xs.length then part xs k xs.length ++ [k] else part xs k xs.length) = ins xs k := by
  unfold part ins
  by_cases hh : hit xs k = true
  · have := hit_lt hh
    rw [if_neg (by omega), if_pos (.inl hh), if_pos hh, List.take_length]
  · rw [if_neg hh]
    by_cases he : kat xs k = xs.length
    · rw [if_pos he, if_pos (.inr (by omega)), he, List.take_length, List.drop_length]
    · have := kat_le xs k
      rw [if_neg he, if_neg (by intro h; rcases h with h | h; exact hh h; omega)]
      congr 2
      rw [List.take_of_length_le (by rw [List.length_drop]; omega)]
theorem part_step (xs : Keys) (k : List UInt8) {j : Nat} {x : List UInt8} (h : xs[j]? = some x) : part xs k (j + 1) = (if j = kat xs k ∧ hit xs k = false then part xs k j ++ [k] else part xs k j) ++ [x] := by
  obtain ⟨hj, rfl⟩ := List.getElem?_eq_some_iff.1 h
  unfold part
  by_cases hh : hit xs k = true
  · rw [if_pos (.inl hh), if_neg (by rw [hh]; simp), if_pos (.inl hh), List.take_succ_eq_append_getElem hj]
  · have hf : hit xs k = false := by simpa using hh
    have hn : ∀ p : Prop, (hit xs k = true ∨ p) = p := fun p => by rw [hf]; simp
    simp only [hn]
    by_cases h1 : j + 1 ≤ kat xs k
    · rw [if_pos h1, if_neg (fun h => by have := h.1; omega), if_pos (by omega), List.take_succ_eq_append_getElem hj]
    · rw [if_neg h1]
      by_cases h2 : j = kat xs k
      · rw [if_pos ⟨h2, hf⟩, if_pos (by omega), ← h2, show j + 1 - j = 1 from by omega]
        simp
        rw [List.drop_eq_getElem_cons hj]
        rfl
      · rw [if_neg (fun h => h2 h.1), if_neg (by omega), show j + 1 - kat xs k = (j - kat xs k) + 1 from by omega, List.take_succ_eq_append_getElem (by rw [List.length_drop]; omega)]
        simp only [List.getElem_drop, List.append_assoc, List.cons_append, show kat xs k + (j - kat xs k) = j from by omega]



abbrev PW (xs : Keys) : Prop := xs.Pairwise (fun x y => cmpL x y < 0)
theorem lt_kat {xs : Keys} {k x : List UInt8} (h : x ∈ xs.take (kat xs k)) : cmpL x k < 0 := by
  obtain ⟨j, hj, rfl⟩ := List.getElem_of_mem h
  rw [List.length_take] at hj
  rw [List.getElem_take]
  have := List.not_of_lt_findIdx (p := fun x => decide (0 ≤ cmpL x k)) (xs := xs) (i := j) (by have h' : kat xs k = List.findIdx (fun x => decide (0 ≤ cmpL x k)) xs := rfl; omega)
  have h2 : ¬ 0 ≤ cmpL xs[j] k := by simpa using this
  omega
theorem kat_ge {xs : Keys} {k : List UInt8} (h : kat xs k < xs.length) : 0 ≤ cmpL xs[kat xs k] k := by
  have := List.findIdx_getElem (p := fun x => decide (0 ≤ cmpL x k)) (xs := xs) (w := h)
  exact of_decide_eq_true this
theorem hit_mem {xs : Keys} {k : List UInt8} (h : hit xs k = true) : k ∈ xs := by
  unfold hit at h
  exact List.mem_of_getElem? (eq_of_beq h)
theorem mem_hit {xs : Keys} {k : List UInt8} (hp : PW xs) (h : k ∈ xs) : hit xs k = true := by
  obtain ⟨j, hj, rfl⟩ := List.getElem_of_mem h
  have hle : kat xs xs[j] ≤ j := by
    rcases Nat.lt_or_ge j (kat xs xs[j]) with h1 | h1
    · have := lt_kat (xs := xs) (k := xs[j]) (x := xs[j]) (List.mem_take_iff_getElem.2 ⟨j, by omega, rfl⟩)
      rw [cmpL_self] at this
      omega
    · exact h1
  have hk : kat xs xs[j] < xs.length := by omega
  unfold hit
  rw [List.getElem?_eq_getElem hk]
  rcases Nat.lt_or_ge (kat xs xs[j]) j with h1 | h1
  · have h2 := List.pairwise_iff_getElem.1 hp _ _ hk hj h1
    have h3 := kat_ge hk
    omega
  · have e : kat xs xs[j] = j := by omega
    simp only [e]
    simp
theorem hit_iff {xs : Keys} {k : List UInt8} (hp : PW xs) : hit xs k = true ↔ k ∈ xs := ⟨hit_mem, mem_hit hp⟩
theorem ins_mem {xs : Keys} {k x : List UInt8} : x ∈ ins xs k ↔ x = k ∨ x ∈ xs := by
  unfold ins
  by_cases h : hit xs k = true
  · rw [if_pos h]
    constructor
    · exact .inr
    · rintro (rfl | h')
      · exact hit_mem h
      · exact h'
  · rw [if_neg h]
    have e : x ∈ xs ↔ x ∈ xs.take (kat xs k) ∨ x ∈ xs.drop (kat xs k) := by
      rw [← List.mem_append, List.take_append_drop]
    rw [List.mem_append, List.mem_cons, e]
    constructor
    · rintro (h1 | rfl | h1)
      · exact .inr (.inl h1)
      · exact .inl rfl
      · exact .inr (.inr h1)
    · rintro (rfl | h1 | h1)
      · exact .inr (.inl rfl)
      · exact .inl h1
      · exact .inr (.inr h1)
theorem ins_len (xs : Keys) (k : List UInt8) : (ins xs k).length = if hit xs k = true then xs.length else xs.length + 1 := by
  unfold ins
  have := kat_le xs k
  split
  · rfl
  · simp; omega
theorem ins_pw {xs : Keys} {k : List UInt8} (hp : PW xs) : PW (ins xs k) := by
  unfold ins
  by_cases h : hit xs k = true
  · rw [if_pos h]; exact hp
  · rw [if_neg h]
    have hap : PW (xs.take (kat xs k) ++ xs.drop (kat xs k)) := by rw [List.take_append_drop]; exact hp
    obtain ⟨h1, h2, h3⟩ := List.pairwise_append.1 hap
    have hk : ∀ y ∈ xs.drop (kat xs k), cmpL k y < 0 := by
      intro y hy
      have hlt : kat xs k < xs.length := by
        rcases Nat.lt_or_ge (kat xs k) xs.length with h' | h'
        · exact h'
        · rw [List.drop_of_length_le h'] at hy; cases hy
      have hge := kat_ge hlt
      have hne : cmpL xs[kat xs k] k ≠ 0 := fun e => h (by
        unfold hit
        rw [List.getElem?_eq_getElem hlt, cmpL_zero e]
        simp)
      have hs := cmpL_swap k xs[kat xs k]
      have hlt2 : cmpL k xs[kat xs k] < 0 := by omega
      rw [List.drop_eq_getElem_cons hlt] at hy h2
      rcases List.mem_cons.1 hy with rfl | hy
      · exact hlt2
      · have := (List.pairwise_cons.1 h2).1 y hy
        exact (cmpL_trans (Int.le_of_lt hlt2) (Int.le_of_lt this)).2 (.inl hlt2)
    refine List.pairwise_append.2 ⟨h1, List.pairwise_cons.2 ⟨hk, h2⟩, fun x hx y hy => ?_⟩
    rcases List.mem_cons.1 hy with rfl | hy
    · exact lt_kat hx
    · exact h3 x hx y hy

theorem idx_mem {α : Type} {xs : List α} {j : Int} {u : α} (h : idx xs j = some u) : u ∈ xs := List.mem_of_getElem? (idx_eq h).2


theorem short_m (r : GApiRange) : ∃ v, m10_r06_Short r = some v ∧ (v = true → r.Lo.length ≤ 100 ∧ r.Hi.length ≤ 100) := by
  unfold m10_r06_Short
  by_cases h1 : (r.Lo.length : Int) ≤ 100
  · rw [if_pos (decide_eq_true h1)]
    exact ⟨_, rfl, fun h => ⟨by omega, by have := of_decide_eq_true h; omega⟩⟩
  · rw [if_neg (by rw [decide_eq_true_eq]; exact h1)]
    exact ⟨_, rfl, fun h => by cases h⟩
theorem saneR (r : GApiRange) : ∃ v, m45_keys_SaneRange r = some v ∧ m48_r06_SaneRange r = some v := by
  unfold m45_keys_SaneRange m48_r06_SaneRange
  by_cases h : (r.Lo.length : Int) ≤ 17
  · rw [if_pos (decide_eq_true h), if_pos (decide_eq_true h)]
    by_cases h2 : (r.Hi.length : Int) ≤ 17
    · rw [if_pos (decide_eq_true h2), if_pos (decide_eq_true h2)]
      cases r.Open with
      | false => exact ⟨true, rfl, rfl⟩
      | true =>
        refine ⟨_, rfl, ?_⟩
        rw [if_neg (by simp)]
        congr 1
        rw [← decide_not, decide_eq_decide]
        omega
    · exact ⟨false, by rw [if_neg (by rw [decide_eq_true_eq]; exact h2)], by rw [if_neg (by rw [decide_eq_true_eq]; exact h2)]⟩
  · exact ⟨false, by rw [if_neg (by rw [decide_eq_true_eq]; exact h)], by rw [if_neg (by rw [decide_eq_true_eq]; exact h)]⟩
theorem same_m (r : GApiRange) : m43_r06_SameRange r r = some true := by
  unfold m43_r06_SameRange
  rw [if_pos (by simp), if_pos (by simp)]
  simp
end Go.Proofs.Ytkbkpafidgfhdaa.Abs
