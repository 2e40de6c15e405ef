/-
  Keys and their rows: what the texts compute.
-/
import Derived.Test.YtiadgkkebmclgaaS06
import Derived.Test.YtiadgkkebmclgaaCmp
namespace Go.Proofs.Ytiadgkkebmclgaa.Abs

theorem awake06 : m10_l06_awake = some true := by decide +kernel
theorem cmp_m (a b : List UInt8) : m23_keys_Cmp a b = some (cmpL a b) := rfl

theorem cmpL_drop {a b : List UInt8} {i : Nat} {x y : UInt8} (ha : a[i]? = some x) (hb : b[i]? = some y) : cmpL (a.drop i) (b.drop i) = if x < y then -1 else if y < x then 1 else cmpL (a.drop (i + 1)) (b.drop (i + 1)) := by
  obtain ⟨h1, rfl⟩ := List.getElem?_eq_some_iff.1 ha
  obtain ⟨h2, rfl⟩ := List.getElem?_eq_some_iff.1 hb
  rw [List.drop_eq_getElem_cons h1, List.drop_eq_getElem_cons h2]
  rfl
theorem u8_lt_int (x y : UInt8) : ((x.toBitVec.toNat : Int) < (y.toBitVec.toNat : Int)) ↔ x < y := by
  rw [UInt8.lt_iff_toNat_lt, Int.ofNat_lt]
  rfl
theorem rcmp_m (a b : List UInt8) (ha : a.length ≤ 1000000000000000000) : m24_r06_Cmp a b = some (cmpL a b) := by
  obtain ⟨v, hv, hr⟩ := iter_inv (f := m24_r06_Cmp_s2 a b) (P := fun s => ∃ i : Nat, s = (i : Int) ∧ i ≤ a.length ∧ i ≤ b.length ∧ cmpL a b = cmpL (a.drop i) (b.drop i)) (μ := fun s => a.length - s.toNat)
    (R := fun v => match v with | .inl r => r = cmpL a b | .inr _ => cmpL a b = if a.length < b.length then -1 else if b.length < a.length then 1 else 0) (by
    rintro _ ⟨i, rfl, h1, h2, h3⟩
    unfold m24_r06_Cmp_s2
    by_cases ha' : i < a.length
    · rw [if_pos (decide_eq_true (by omega))]
      by_cases hb' : i < b.length
      · rw [if_pos (decide_eq_true (by omega))]
        unfold m24_r06_Cmp_k3
        have ea := List.getElem?_eq_getElem ha'
        have eb := List.getElem?_eq_getElem hb'
        have e := cmpL_drop ea eb
        rw [idx_nat, idx_nat, ea, eb]
        simp only [Option.bind_some]
        by_cases hx : a[i] < b[i]
        · right; right
          rw [if_pos (decide_eq_true ((u8_lt_int _ _).2 hx))]
          refine ⟨_, rfl, ?_⟩
          show (-1 : Int) = _
          rw [h3, e, if_pos hx]
        · rw [if_neg (by rw [decide_eq_true_eq, u8_lt_int]; exact hx)]
          by_cases hy : b[i] < a[i]
          · right; right
            rw [if_pos (decide_eq_true ((u8_lt_int _ _).2 hy))]
            refine ⟨_, rfl, ?_⟩
            show (1 : Int) = _
            rw [h3, e, if_neg hx, if_pos hy]
          · left
            rw [if_neg (by rw [decide_eq_true_eq, u8_lt_int]; exact hy)]
            refine ⟨_, rfl, ⟨i + 1, by rw [wI_id (by omega) (by omega)]; rfl, ha', hb', by rw [h3, e, if_neg hx, if_neg hy]⟩, by rw [wI_id (by omega) (by omega)]; omega⟩
      · right; left
        rw [if_neg (by rw [decide_eq_true_eq]; omega)]
        refine ⟨_, rfl, ?_⟩
        show cmpL a b = _
        have : i = b.length := by omega
        rw [h3, this, List.drop_length, List.drop_eq_getElem_cons (by omega), if_neg (by omega), if_pos (by omega)]
        rfl
    · right; left
      rw [if_neg (by rw [decide_eq_true_eq]; omega)]
      refine ⟨_, rfl, ?_⟩
      show cmpL a b = _
      have : i = a.length := by omega
      rw [h3, this, List.drop_length]
      by_cases hb' : a.length < b.length
      · rw [List.drop_eq_getElem_cons hb', if_pos hb']; rfl
      · rw [List.drop_of_length_le (by omega), if_neg hb', if_neg (by omega)]; rfl) fuel 0 ⟨0, rfl, Nat.zero_le _, Nat.zero_le _, rfl⟩ (lt_fuel (by show a.length - 0 ≤ _; omega))
  unfold m24_r06_Cmp
  rw [hv, Option.bind_some]
  cases v with
  | inl r => rw [show r = cmpL a b from hr]
  | inr u =>
    have hr' : cmpL a b = if a.length < b.length then -1 else if b.length < a.length then 1 else 0 := hr
    unfold m24_r06_Cmp_k1
    rw [hr']
    by_cases h1 : a.length < b.length
    · rw [if_pos (decide_eq_true (by omega)), if_pos h1]
    · rw [if_neg (by rw [decide_eq_true_eq]; omega), if_neg h1]
      by_cases h2 : b.length < a.length
      · rw [if_pos (decide_eq_true (by omega)), if_pos h2]
      · rw [if_neg (by rw [decide_eq_true_eq]; omega), if_neg h2]

def hasV (r : GApiRange) (k : List UInt8) : Bool := decide (0 ≤ cmpL k r.Lo) && (r.Open || decide (cmpL k r.Hi < 0))
theorem has_m (r : GApiRange) (k : List UInt8) : m29_keys_Has r k = some (hasV r k) := by
  unfold m29_keys_Has hasV
  simp only [cmp_m, Option.bind_some]
  cases decide (0 ≤ cmpL k r.Lo) <;> cases r.Open <;> simp
theorem rhas_m (r : GApiRange) (k : List UInt8) (h : k.length ≤ 1000000000000000000) : m30_r06_Has r k = some (hasV r k) := by
  unfold m30_r06_Has hasV
  simp only [rcmp_m _ _ h, Option.bind_some]
  cases decide (0 ≤ cmpL k r.Lo) <;> cases r.Open <;> simp
def emptyV (r : GApiRange) : Bool := !r.Open && ((decide (r.Lo = []) && decide (r.Hi = [0])) || decide (cmpL r.Hi r.Lo ≤ 0))
theorem len0 {α : Type} (a : List α) : decide ((a.length : Int) = 0) = decide (a = []) := by
  rw [decide_eq_decide]
  cases a <;> simp
  omega
theorem empty_m (r : GApiRange) : m31_keys_Empty r = some (emptyV r) := by
  obtain ⟨lo, hi, o⟩ := r
  unfold m31_keys_Empty m31_keys_Empty_k1 emptyV
  simp only [cmp_m, Option.bind_some, len0]
  cases o with
  | true => rfl
  | false =>
    cases lo with
    | cons x xs => simp
    | nil =>
      rcases hi with _ | ⟨x, _ | ⟨y, ys⟩⟩
      · simp
      · have e : (decide ((x.toBitVec.toNat : Int) = (0 : Int))) = decide (x = 0) := by
          rw [decide_eq_decide]
          constructor
          · intro h; exact UInt8.toNat_inj.1 (by have : x.toNat = 0 := by have h' : ((x.toNat : Nat) : Int) = 0 := h; omega
                                                 rw [this]; rfl)
          · rintro rfl; rfl
        rw [show idx [x] 0 = some x from rfl]
        simp only [Option.bind_some, e]
        by_cases hx : x = 0 <;> simp [hx]
      · have : ((List.length (x :: y :: ys) : Nat) : Int) ≠ 1 := by simp; omega
        simp [this]
        omega
theorem rempty_m (r : GApiRange) (h : r.Hi.length ≤ 1000000000000000000) : m32_r06_Empty r = some (emptyV r) := by
  obtain ⟨lo, hi, o⟩ := r
  unfold m32_r06_Empty emptyV
  simp only [rcmp_m _ _ h, Option.bind_some, len0]
  cases o with
  | true => rfl
  | false =>
    by_cases hc : cmpL hi lo ≤ 0
    · simp [hc]
    · cases lo with
      | cons x xs => simp [hc]
      | nil =>
        rcases hi with _ | ⟨x, _ | ⟨y, ys⟩⟩
        · simp [hc]
        · have e : (decide ((x.toBitVec.toNat : Int) = (0 : Int))) = decide (x = 0) := by
            rw [decide_eq_decide]
            constructor
            · intro h; exact UInt8.toNat_inj.1 (by have : x.toNat = 0 := by have h' : ((x.toNat : Nat) : Int) = 0 := h; omega
                                                   rw [this]; rfl)
            · rintro rfl; rfl
          rw [show idx [x] 0 = some x from rfl]
          simp only [Option.bind_some, e]
          by_cases hx : x = 0 <;> simp [hx, hc]
        · have : ((List.length (x :: y :: ys) : Nat) : Int) ≠ 1 := by simp; omega
          simp [hc]
          omega
theorem one_m (a : List UInt8) (h : a.length ≤ 1000000) : m21_keys_One a = some ⟨a, a ++ [0], false⟩ := by
  unfold m21_keys_One
  rw [m39_slices_Concato_m _ (by simp; omega) (by simp)]
  simp
theorem rone_m (a : List UInt8) (h : a.length ≤ 1000000) : m22_r06_One a = some ⟨a, a ++ [0], false⟩ := by
  unfold m22_r06_One
  rw [if_pos (by simp; omega), if_pos (by simp; omega)]
  simp

theorem cmpL_app_lt : ∀ {k a : List UInt8}, cmpL k (a ++ [0]) < 0 → cmpL k a ≤ 0
  | k, [], h => by rw [cmpL_one h]; exact Int.le_refl _
  | [], x :: xs, _ => by show (-1 : Int) ≤ 0; decide
  | y :: ys, x :: xs, h => by
    have h' : (if y < x then (-1 : Int) else if x < y then 1 else cmpL ys (xs ++ [0])) < 0 := h
    show (if y < x then (-1 : Int) else if x < y then 1 else cmpL ys xs) ≤ 0
    by_cases h1 : y < x
    · rw [if_pos h1]; decide
    · rw [if_neg h1] at h' ⊢
      by_cases h2 : x < y
      · rw [if_pos h2] at h'; exact absurd h' (by decide)
      · rw [if_neg h2] at h' ⊢
        exact cmpL_app_lt h'

theorem keysOne_true (a b : List UInt8) : m6_l06_KeysOne a b = some true := by
  unfold m6_l06_KeysOne
  rw [awake06]
  simp only [Option.bind_some]
  by_cases h1 : (100 : Int) < a.length
  · rw [if_pos (decide_eq_true h1)]
  rw [if_neg (by rw [decide_eq_true_eq]; exact h1)]
  by_cases h2 : (100 : Int) < b.length
  · rw [if_pos (decide_eq_true h2)]
  rw [if_neg (by rw [decide_eq_true_eq]; exact h2)]
  unfold m6_l06_KeysOne_k2
  rw [one_m a (by omega)]
  simp only [Option.bind_some, has_m, empty_m, if_true]
  have e1 : hasV ⟨a, a ++ [0], false⟩ a = true := by
    unfold hasV
    simp [cmpL_self, cmpL_app0]
  rw [e1, if_pos rfl]
  have e2 : hasV ⟨a, a ++ [0], false⟩ b = (a == b) := by
    by_cases hab : a = b
    · subst hab; rw [e1]; simp
    · have : ¬ (0 ≤ cmpL b a ∧ cmpL b (a ++ [0]) < 0) := by
        rintro ⟨h3, h4⟩
        have := cmpL_app_lt h4
        exact hab (cmpL_zero (show cmpL b a = 0 by omega)).symm
      rw [beq_false_of_ne hab]
      unfold hasV
      simp
      intro h3
      have := mt (fun h => And.intro h3 h) this
      omega
  rw [e2, if_pos (by simp)]
  rw [len0]
  by_cases ha : a = []
  · rw [if_pos (decide_eq_true ha)]
  · rw [if_neg (by rw [decide_eq_true_eq]; exact ha)]
    have e3 : emptyV ⟨a, a ++ [0], false⟩ = false := by
      unfold emptyV
      have : cmpL (a ++ [0]) a = 1 := by rw [cmpL_swap, cmpL_app0]; decide
      simp [ha, this]
    rw [e3]; rfl
end Go.Proofs.Ytiadgkkebmclgaa.Abs
