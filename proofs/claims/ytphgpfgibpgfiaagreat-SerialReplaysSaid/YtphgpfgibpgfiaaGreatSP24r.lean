/-
  What the library's functions compute.
-/
import Derived.Test.YtphgpfgibpgfiaaGreatSS24r
set_option linter.unusedVariables false
set_option linter.unusedSimpArgs false
namespace Go.Proofs.YtphgpfgibpgfiaaGreat.Abs
theorem Adr (a b : List UInt8) : Iz a b = some (Dq a b) := rfl
theorem Afk {a b : List UInt8} {i : Nat} {x y : UInt8} (ha : a[i]? = some x) (hb : b[i]? = some y) : Dq (a.drop i) (b.drop i) = if x < y then -1 else if y < x then 1 else Dq (a.drop (i + 1)) (b.drop (i + 1)) := by
  obtain ⟨h1, rfl⟩ := List.getElem?_eq_some_iff.1 ha
  obtain ⟨h2, rfl⟩ := List.getElem?_eq_some_iff.1 hb
  rw [List.drop_eq_getElem_cons h1, List.drop_eq_getElem_cons h2]
  rfl
theorem To (x y : UInt8) : ((x.toBitVec.toNat : Int) < (y.toBitVec.toNat : Int)) ↔ x < y := by
  rw [UInt8.lt_iff_toNat_lt, Int.ofNat_lt]
  rfl
theorem X1 (a b : List UInt8) (ha : a.length ≤ 1000000000000000000) : Gp a b = some (Dq a b) := by
  obtain ⟨v, hv, hr⟩ := H4 (f := Lb a b) (P := fun s => ∃ i : Nat, s = (i : Int) ∧ i ≤ a.length ∧ i ≤ b.length ∧ Dq a b = Dq (a.drop i) (b.drop i)) (μ := fun s => a.length - s.toNat)
    (R := fun v => match v with | .inl r => r = Dq a b | .inr _ => Dq a b = if a.length < b.length then -1 else if b.length < a.length then 1 else 0) (by
    rintro _ ⟨i, rfl, h1, h2, h3⟩
    unfold Lb
    by_cases ha' : i < a.length
    · rw [if_pos (decide_eq_true (by omega))]
      by_cases hb' : i < b.length
      · rw [if_pos (decide_eq_true (by omega))]
        unfold M7
        have ea := List.getElem?_eq_getElem ha'
        have eb := List.getElem?_eq_getElem hb'
        have e := Afk ea eb
        rw [Bv, Bv, ea, eb]
        simp only [Option.bind_some]
        by_cases hx : a[i] < b[i]
        · right; right
          rw [if_pos (decide_eq_true ((To _ _).2 hx))]
          refine ⟨_, rfl, ?_⟩
          show (-1 : Int) = _
          rw [h3, e, if_pos hx]
        · rw [if_neg (by rw [decide_eq_true_eq, To]; exact hx)]
          by_cases hy : b[i] < a[i]
          · right; right
            rw [if_pos (decide_eq_true ((To _ _).2 hy))]
            refine ⟨_, rfl, ?_⟩
            show (1 : Int) = _
            rw [h3, e, if_neg hx, if_pos hy]
          · left
            rw [if_neg (by rw [decide_eq_true_eq, To]; exact hy)]
            refine ⟨_, rfl, ⟨i + 1, by rw [Ch (by omega) (by omega)]; rfl, ha', hb', by rw [h3, e, if_neg hx, if_neg hy]⟩, by rw [Ch (by omega) (by omega)]; omega⟩
      · right; left
        rw [if_neg (by rw [decide_eq_true_eq]; omega)]
        refine ⟨_, rfl, ?_⟩
        show Dq a b = _
        have : i = b.length := by omega
        rw [h3, this, List.drop_length, List.drop_eq_getElem_cons (by omega), if_neg (by omega), if_pos (by omega)]
        rfl
    · right; left
      rw [if_neg (by rw [decide_eq_true_eq]; omega)]
      refine ⟨_, rfl, ?_⟩
      show Dq a b = _
      have : i = a.length := by omega
      rw [h3, this, List.drop_length]
      by_cases hb' : a.length < b.length
      · rw [List.drop_eq_getElem_cons hb', if_pos hb']; rfl
      · rw [List.drop_of_length_le (by omega), if_neg hb', if_neg (by omega)]; rfl) fuel 0 ⟨0, rfl, Nat.zero_le _, Nat.zero_le _, rfl⟩ (Dh (by show a.length - 0 ≤ _; omega))
  unfold Gp
  rw [hv, Option.bind_some]
  cases v with
  | inl r => rw [show r = Dq a b from hr]
  | inr u =>
    have hr' : Dq a b = if a.length < b.length then -1 else if b.length < a.length then 1 else 0 := hr
    unfold M9
    rw [hr']
    by_cases h1 : a.length < b.length
    · rw [if_pos (decide_eq_true (by omega)), if_pos h1]
    · rw [if_neg (by rw [decide_eq_true_eq]; omega), if_neg h1]
      by_cases h2 : b.length < a.length
      · rw [if_pos (decide_eq_true (by omega)), if_pos h2]
      · rw [if_neg (by rw [decide_eq_true_eq]; omega), if_neg h2]
def Oq (r : Ar) (k : List UInt8) : Bool := decide (0 ≤ Dq k r.Lo) && (r.Open || decide (Dq k r.Hi < 0))
theorem Ak0 (r : Ar) (k : List UInt8) : J7 r k = some (Oq r k) := by
  unfold J7 Oq
  simp only [Adr, Option.bind_some]
  cases decide (0 ≤ Dq k r.Lo) <;> cases r.Open <;> simp
theorem Afo (r : Ar) (k : List UInt8) (h : k.length ≤ 1000000000000000000) : Lq r k = some (Oq r k) := by
  unfold Lq Oq
  simp only [X1 _ _ h, Option.bind_some]
  cases decide (0 ≤ Dq k r.Lo) <;> cases r.Open <;> simp
def Sg (r : Ar) : Bool := !r.Open && ((decide (r.Lo = []) && decide (r.Hi = [0])) || decide (Dq r.Hi r.Lo ≤ 0))
theorem As4 {α : Type} (a : List α) : decide ((a.length : Int) = 0) = decide (a = []) := by
  rw [decide_eq_decide]
  cases a <;> simp
  omega
theorem Ak6 (r : Ar) : Gu r = some (Sg r) := by
  obtain ⟨lo, hi, o⟩ := r
  unfold Gu Dv Sg
  simp only [Adr, Option.bind_some, As4]
  cases o with
  | true => rfl
  | false =>
    cases lo with
    | cons x xs => simp
    | nil =>
      rcases hi with _ | ⟨x, _ | ⟨y, ys⟩⟩
      · simp
      · have e : (decide ((x.toBitVec.toNat : Int) = (0 : Int))) = decide (x = 0) := by
          rw [decide_eq_decide]
          constructor
          · intro h; exact UInt8.toNat_inj.1 (by have : x.toNat = 0 := by have h' : ((x.toNat : Nat) : Int) = 0 := h; omega
                                                 rw [this]; rfl)
          · rintro rfl; rfl
        rw [show idx [x] 0 = some x from rfl]
        simp only [Option.bind_some, e]
        by_cases hx : x = 0 <;> simp [hx]
      · have : ((List.length (x :: y :: ys) : Nat) : Int) ≠ 1 := by simp; omega
        simp [this]
        omega
theorem Apz (a : List UInt8) (h : a.length ≤ 1000000) : Nc a = some ⟨a, a ++ [0], false⟩ := by
  unfold Nc
  rw [Rq _ (by simp; omega) (by simp)]
  simp
theorem Wa : ∀ {k a : List UInt8}, Dq k (a ++ [0]) < 0 → Dq k a ≤ 0
  | k, [], h => by rw [Ahk h]; exact Int.le_refl _
  | [], x :: xs, _ => by show (-1 : Int) ≤ 0; decide
  | y :: ys, x :: xs, h => by
    have h' : (if y < x then (-1 : Int) else if x < y then 1 else Dq ys (xs ++ [0])) < 0 := h
    show (if y < x then (-1 : Int) else if x < y then 1 else Dq ys xs) ≤ 0
    by_cases h1 : y < x
    · rw [if_pos h1]; decide
    · rw [if_neg h1] at h' ⊢
      by_cases h2 : x < y
      · rw [if_pos h2] at h'; exact absurd h' (by decide)
      · rw [if_neg h2] at h' ⊢
        exact Wa h'
abbrev Xa := List (List UInt8)
def kat (xs : Xa) (k : List UInt8) : Nat := xs.findIdx (fun x => decide (0 ≤ Dq x k))
def hit (xs : Xa) (k : List UInt8) : Bool := xs[kat xs k]? == some k
theorem Ajr (xs : Xa) (k : List UInt8) : kat xs k ≤ xs.length := List.findIdx_le_length
theorem Ani {xs : Xa} {k : List UInt8} {i : Nat} {x : List UInt8} (h : xs[i]? = some x) (h1 : 0 ≤ Dq x k) (h2 : ∀ j y, j < i → xs[j]? = some y → Dq y k < 0) : kat xs k = i := by
  obtain ⟨hi, rfl⟩ := List.getElem?_eq_some_iff.1 h
  unfold kat
  rw [List.findIdx_eq hi]
  refine ⟨by simpa using h1, fun j hj => ?_⟩
  have := h2 j xs[j] hj (List.getElem?_eq_getElem (by omega))
  rw [decide_eq_false_iff_not]
  omega
theorem Ail {xs : Xa} {k : List UInt8} (h : ∀ j y, j < xs.length → xs[j]? = some y → Dq y k < 0) : kat xs k = xs.length := by
  unfold kat
  rw [List.findIdx_eq_length]
  intro x hx
  obtain ⟨j, hj, rfl⟩ := List.getElem_of_mem hx
  have := h j xs[j] hj (List.getElem?_eq_getElem hj)
  rw [decide_eq_false_iff_not]
  omega
theorem Aj3 (xs : Xa) (k : List UInt8) (hn : xs.length ≤ 1000000000000000000) : Mc xs k = some ((kat xs k : Int), hit xs k) := by
  obtain ⟨v, hv, hr⟩ := H4 (f := D2 xs k) (P := fun s => ∃ i : Nat, s = (i : Int) ∧ i ≤ xs.length ∧ ∀ j y, j < i → xs[j]? = some y → Dq y k < 0) (μ := fun s => xs.length - s.toNat)
    (R := fun v => match v with | .inl r => r = (kat xs k : Int) ∧ kat xs k < xs.length | .inr _ => kat xs k = xs.length) (by
    rintro _ ⟨i, rfl, h1, h2⟩
    unfold D2 G1
    by_cases hi : i < xs.length
    · have e := List.getElem?_eq_getElem hi
      rw [if_pos (decide_eq_true (by omega)), Bv, e]
      simp only [Option.bind_some, Adr]
      by_cases hc : 0 ≤ Dq xs[i] k
      · right; right
        rw [if_pos (decide_eq_true hc)]
        have ea := Ani e hc h2
        exact ⟨_, rfl, by rw [ea], by rw [ea]; exact hi⟩
      · left
        rw [if_neg (by rw [decide_eq_true_eq]; exact hc)]
        refine ⟨_, rfl, ⟨i + 1, by rw [Ch (by omega) (by omega)]; rfl, hi, fun j y hj hy => ?_⟩, by rw [Ch (by omega) (by omega)]; omega⟩
        rcases Nat.lt_succ_iff_lt_or_eq.1 hj with h | rfl
        · exact h2 j y h hy
        · rw [e] at hy; cases hy; omega
    · right; left
      rw [if_neg (by rw [decide_eq_true_eq]; omega)]
      refine ⟨_, rfl, ?_⟩
      have : i = xs.length := by omega
      subst this
      exact Ail h2) fuel 0 ⟨0, rfl, Nat.zero_le _, fun j y hj => absurd hj (Nat.not_lt_zero _)⟩ (Dh (by show xs.length - 0 ≤ _; omega))
  unfold Mc G2
  rw [hv]
  simp only [Option.bind_some]
  cases v with
  | inl r =>
    obtain ⟨rfl, hlt⟩ : r = (kat xs k : Int) ∧ kat xs k < xs.length := hr
    simp only [Option.bind_some]
    rw [if_neg (by rw [decide_eq_true_eq]; omega), Bv, List.getElem?_eq_getElem hlt]
    simp only [Option.bind_some, Gl]
    unfold hit
    rw [List.getElem?_eq_getElem hlt]
    rfl
  | inr u =>
    have e : kat xs k = xs.length := hr
    unfold E9
    simp only [Option.bind_some]
    rw [if_pos (by decide)]
    unfold hit
    rw [e]
    simp
def ins (xs : Xa) (k : List UInt8) : Xa := if hit xs k then xs else xs.take (kat xs k) ++ k :: xs.drop (kat xs k)
def part (xs : Xa) (k : List UInt8) (j : Nat) : Xa := if hit xs k = true ∨ j ≤ kat xs k then xs.take j else xs.take (kat xs k) ++ k :: (xs.drop (kat xs k)).take (j - kat xs k)
theorem Ans {xs : Xa} {k : List UInt8} (h : hit xs k = true) : kat xs k < xs.length := by
  unfold hit at h
  have := eq_of_beq h
  exact (List.getElem?_eq_some_iff.1 this).1
abbrev PW (xs : Xa) : Prop := xs.Pairwise (fun x y => Dq x y < 0)
theorem Aj2 {xs : Xa} {k x : List UInt8} (h : x ∈ xs.take (kat xs k)) : Dq x k < 0 := by
  obtain ⟨j, hj, rfl⟩ := List.getElem_of_mem h
  rw [List.length_take] at hj
  rw [List.getElem_take]
  have := List.not_of_lt_findIdx (p := fun x => decide (0 ≤ Dq x k)) (xs := xs) (i := j) (by have h' : kat xs k = List.findIdx (fun x => decide (0 ≤ Dq x k)) xs := rfl; omega)
  have h2 : ¬ 0 ≤ Dq xs[j] k := by simpa using this
  omega
theorem Ajm {xs : Xa} {k : List UInt8} (h : kat xs k < xs.length) : 0 ≤ Dq xs[kat xs k] k := by
  have := List.findIdx_getElem (p := fun x => decide (0 ≤ Dq x k)) (xs := xs) (w := h)
  exact of_decide_eq_true this
theorem Alo {xs : Xa} {k : List UInt8} (h : hit xs k = true) : k ∈ xs := by
  unfold hit at h
  exact List.mem_of_getElem? (eq_of_beq h)
theorem Ake {xs : Xa} {k : List UInt8} (hp : PW xs) (h : k ∈ xs) : hit xs k = true := by
  obtain ⟨j, hj, rfl⟩ := List.getElem_of_mem h
  have hle : kat xs xs[j] ≤ j := by
    rcases Nat.lt_or_ge j (kat xs xs[j]) with h1 | h1
    · have := Aj2 (xs := xs) (k := xs[j]) (x := xs[j]) (List.mem_take_iff_getElem.2 ⟨j, by omega, rfl⟩)
      rw [Kk] at this
      omega
    · exact h1
  have hk : kat xs xs[j] < xs.length := by omega
  unfold hit
  rw [List.getElem?_eq_getElem hk]
  rcases Nat.lt_or_ge (kat xs xs[j]) j with h1 | h1
  · have h2 := List.pairwise_iff_getElem.1 hp _ _ hk hj h1
    have h3 := Ajm hk
    omega
  · have e : kat xs xs[j] = j := by omega
    simp only [e]
    simp
theorem Akk {xs : Xa} {k : List UInt8} (hp : PW xs) : hit xs k = true ↔ k ∈ xs := ⟨Alo, Ake hp⟩
theorem Am8 {xs : Xa} {k : List UInt8} (hp : PW xs) : PW (ins xs k) := by
  unfold ins
  by_cases h : hit xs k = true
  · rw [if_pos h]; exact hp
  · rw [if_neg h]
    have hap : PW (xs.take (kat xs k) ++ xs.drop (kat xs k)) := by rw [List.take_append_drop]; exact hp
    obtain ⟨h1, h2, h3⟩ := List.pairwise_append.1 hap
    have hk : ∀ y ∈ xs.drop (kat xs k), Dq k y < 0 := by
      intro y hy
      have hlt : kat xs k < xs.length := by
        rcases Nat.lt_or_ge (kat xs k) xs.length with h' | h'
        · exact h'
        · rw [List.drop_of_length_le h'] at hy; cases hy
      have hge := Ajm hlt
      have hne : Dq xs[kat xs k] k ≠ 0 := fun e => h (by
        unfold hit
        rw [List.getElem?_eq_getElem hlt, N8 e]
        simp)
      have hs := N1 k xs[kat xs k]
      have hlt2 : Dq k xs[kat xs k] < 0 := by omega
      rw [List.drop_eq_getElem_cons hlt] at hy h2
      rcases List.mem_cons.1 hy with rfl | hy
      · exact hlt2
      · have := (List.pairwise_cons.1 h2).1 y hy
        exact (Jq (Int.le_of_lt hlt2) (Int.le_of_lt this)).2 (.inl hlt2)
    refine List.pairwise_append.2 ⟨h1, List.pairwise_cons.2 ⟨hk, h2⟩, fun x hx y hy => ?_⟩
    rcases List.mem_cons.1 hy with rfl | hy
    · exact Aj2 hx
    · exact h3 x hx y hy
theorem Y1 {xs : Xa} (hp : PW xs) (hn : xs.length ≤ 1000000000000000000) : C5 xs = some true := by
  obtain ⟨v, hv, hr⟩ := H4 (f := Df xs) (P := fun s => ∃ i : Nat, s = (i : Int) ∧ 1 ≤ i) (μ := fun s => xs.length - s.toNat)
    (R := fun v => match v with | .inl r => False | .inr _ => True) (by
    rintro _ ⟨i, rfl, h1⟩
    unfold Df
    by_cases hi : i < xs.length
    · left
      rw [if_pos (decide_eq_true (by omega)), Ch (by omega) (by omega), show (i : Int) - 1 = ((i - 1 : Nat) : Int) from by omega, Bv, Bv, List.getElem?_eq_getElem hi, List.getElem?_eq_getElem (by omega)]
      simp only [Option.bind_some, Adr]
      have := List.pairwise_iff_getElem.1 hp (i - 1) i (by omega) hi (by omega)
      rw [if_neg (by rw [decide_eq_true_eq]; omega)]
      exact ⟨_, rfl, ⟨i + 1, by rw [Ch (by omega) (by omega)]; rfl, by omega⟩, by rw [Ch (by omega) (by omega)]; omega⟩
    · right; left
      rw [if_neg (by rw [decide_eq_true_eq]; omega)]
      exact ⟨_, rfl, trivial⟩) fuel 1 ⟨1, rfl, Nat.le_refl _⟩ (Dh (by show xs.length - 1 ≤ _; omega))
  unfold C5
  rw [hv]
  cases v with
  | inl r => exact hr.elim
  | inr u => rfl
theorem V9 (xs : Xa) (hn : xs.length ≤ 1000000000000000000) : ∃ v, C5 xs = some v := by
  obtain ⟨v, hv, hr⟩ := H4 (f := Df xs) (P := fun s => ∃ i : Nat, s = (i : Int) ∧ 1 ≤ i) (μ := fun s => xs.length - s.toNat)
    (R := fun _ => True) (by
    rintro _ ⟨i, rfl, h1⟩
    unfold Df
    by_cases hi : i < xs.length
    · rw [if_pos (decide_eq_true (by omega)), Ch (by omega) (by omega), show (i : Int) - 1 = ((i - 1 : Nat) : Int) from by omega, Bv, Bv, List.getElem?_eq_getElem hi, List.getElem?_eq_getElem (by omega)]
      simp only [Option.bind_some, Adr]
      by_cases hc : 0 ≤ Dq xs[i - 1] xs[i]
      · right; right
        rw [if_pos (decide_eq_true hc)]
        exact ⟨_, rfl, trivial⟩
      · left
        rw [if_neg (by rw [decide_eq_true_eq]; omega)]
        exact ⟨_, rfl, ⟨i + 1, by rw [Ch (by omega) (by omega)]; rfl, by omega⟩, by rw [Ch (by omega) (by omega)]; omega⟩
    · right; left
      rw [if_neg (by rw [decide_eq_true_eq]; omega)]
      exact ⟨_, rfl, trivial⟩) fuel 1 ⟨1, rfl, Nat.le_refl _⟩ (Dh (by show xs.length - 1 ≤ _; omega))
  unfold C5
  rw [hv]
  cases v with
  | inl r => exact ⟨r, rfl⟩
  | inr u => exact ⟨true, rfl⟩
theorem Agz {α : Type} {xs : List α} {j : Int} {u : α} (h : idx xs j = some u) : u ∈ xs := List.mem_of_getElem? (Sf h).2
theorem Ak7 (r : Ar) : ∃ v, De r = some v ∧ (v = true → r.Lo.length ≤ 100 ∧ r.Hi.length ≤ 100) := by
  unfold De
  by_cases h1 : (r.Lo.length : Int) ≤ 100
  · rw [if_pos (decide_eq_true h1)]
    exact ⟨_, rfl, fun h => ⟨by omega, by have := of_decide_eq_true h; omega⟩⟩
  · rw [if_neg (by rw [decide_eq_true_eq]; exact h1)]
    exact ⟨_, rfl, fun h => by cases h⟩
def wk (x : Af) : List UInt8 := x.Key
def swV (w : Af) : Bool := (B7 w).getD false
theorem Ama (w : Af) : B7 w = some (swV w) := by
  have : ∃ b, B7 w = some b := by
    unfold B7 Dm
    repeat' (first | exact ⟨_, rfl⟩ | split | dsimp only [Option.bind_some])
  obtain ⟨b, hb⟩ := this
  unfold swV
  rw [hb]; rfl
structure X2 (b : List Af) : Prop where
  sw : ∀ w ∈ b, swV w = true
  len : b.length ≤ 16
  rise : Fq wk b
theorem X2.nil : X2 [] := ⟨fun w h => (by simp at h), by decide, List.Pairwise.nil⟩
theorem Ss {α : Type} {kf : α → List UInt8} {l : List α} : PW (l.map kf) ↔ Fq kf l := List.pairwise_map
theorem Yz {b : List Af} (hb : b.length ≤ 1000000) : Gg ⟨b⟩ = some (b.map wk) := by
  unfold Gg
  obtain ⟨v, hv, hr⟩ := Eg (f := F4 ⟨b⟩) (P := fun s => ∃ j : Nat, j ≤ b.length ∧ s = ((j : Int), (b.take j).map wk)) (μ := fun s => b.length - s.1.toNat) (R := fun v => v = b.map wk) (by
    rintro _ ⟨j, hj, rfl⟩
    unfold F4
    dsimp only
    rcases Nat.lt_or_ge j b.length with hlt | hge
    · left
      rw [if_pos (decide_eq_true (by omega)), Bv, List.getElem?_eq_getElem hlt, Option.bind_some, if_pos (by rw [List.length_map, List.length_take, List.length_singleton]; omega), Ch (by omega) (by omega)]
      refine ⟨_, rfl, ⟨j + 1, hlt, ?_⟩, by dsimp only; omega⟩
      rw [List.take_succ_eq_append_getElem hlt, List.map_append]; rfl
    · right
      have e : j = b.length := by omega
      subst e
      rw [if_neg (by rw [decide_eq_true_eq]; omega)]
      exact ⟨_, rfl, by rw [List.take_length]⟩) fuel (0, []) ⟨0, Nat.zero_le _, by simp⟩ (Dh (by show b.length - 0 ≤ _; omega))
  rw [hv, hr]; rfl
theorem Af6 {b : List Af} (h : X2 b) : H8 ⟨b⟩ = some true := by
  have hl := h.len
  unfold H8
  rw [Al3 b (fun w => !swV w) (fun _ => false) (Fs ⟨b⟩) (by omega) (fun i x hx => by
    have hlt := (List.getElem?_eq_some_iff.1 hx).1
    unfold Fs
    dsimp only
    rw [if_pos (decide_eq_true (by omega)), Bv, hx, Option.bind_some, Ama, Option.bind_some, Ch (by omega) (by omega)]
    cases swV x <;> rfl) (by
    unfold Fs
    dsimp only
    rw [if_neg (by rw [decide_eq_true_eq]; omega)]), W8 (fun x hx => by rw [h.sw x hx]; rfl)]
  show Hg ⟨b⟩ () = _
  unfold Hg
  dsimp only
  rw [if_pos (decide_eq_true (by omega)), Yz (by omega), Option.bind_some, Y1 (Ss.2 h.rise) (by rw [List.length_map]; omega), Option.bind_some]
def Aax (b : List Af) (w : Af) : List Af := Yx wk (Po wk b w)
theorem Wn {α : Type} {kf : α → List UInt8} {t : List α} (h : I2 kf t) (x : α) : I2 kf (Po kf t x) := by
  refine List.pairwise_cons.2 ⟨fun y hy => ?_, h.sublist (List.filter_sublist ..)⟩
  have := (List.mem_filter.1 hy).2
  intro e
  rw [e] at this
  simp at this
theorem Afp {α : Type} {kf : α → List UInt8} {t : List α} (h : I2 kf t) (k : List UInt8) : I2 kf (Vj kf t k) := h.sublist (List.filter_sublist ..)
theorem Ys {α : Type} {kf : α → List UInt8} {t : List α} {x y : α} : y ∈ Po kf t x ↔ y = x ∨ (y ∈ t ∧ kf y ≠ kf x) := by
  unfold Po
  rw [List.mem_cons, List.mem_filter]
  simp
theorem Aio {α : Type} {kf : α → List UInt8} {t : List α} {k : List UInt8} {y : α} : y ∈ Vj kf t k ↔ y ∈ t ∧ kf y ≠ k := by
  unfold Vj
  rw [List.mem_filter]
  simp
theorem Acx {b : List Af} {w x : Af} : x ∈ Aax b w ↔ x = w ∨ (x ∈ b ∧ wk x ≠ wk w) := Adn.trans Ys
theorem Tc {b : List Af} (h : Fq wk b) (w : Af) : Fq wk (Aax b w) := O7 (Wn h.dist w)
theorem Wq {b : List Af} (h : Fq wk b) {k : List UInt8} : hit (b.map wk) k = true ↔ k ∈ b.map wk := Akk (Ss.2 h)
theorem Aah {b : List Af} (h : Fq wk b) {w : Af} (hh : hit (b.map wk) (wk w) = true) : b.set (kat (b.map wk) (wk w)) w = Aax b w := by
  have hk : (b.map wk)[kat (b.map wk) (wk w)]? = some (wk w) := by
    unfold hit at hh
    exact beq_iff_eq.1 hh
  obtain ⟨p1, _, p3⟩ := Y4 (List.Perm.refl b) h.dist (x := w) hk
  refine We ?_ (Tc h w) (p1.trans (Ko _).symm)
  have e : (b.set (kat (b.map wk) (wk w)) w).map wk = b.map wk := (Y4 (List.Perm.refl b) h.dist (x := w) hk).2.1
  exact Ss.1 (by rw [e]; exact Ss.2 h)
theorem Ae4 {b : List Af} (h : Fq wk b) {w : Af} (hh : hit (b.map wk) (wk w) = false) : b.take (kat (b.map wk) (wk w)) ++ w :: b.drop (kat (b.map wk) (wk w)) = Aax b w := by
  have hk : wk w ∉ b.map wk := fun hm => by rw [(Wq h).2 hm] at hh; cases hh
  have hp : (b.take (kat (b.map wk) (wk w)) ++ w :: b.drop (kat (b.map wk) (wk w))).Perm (w :: b) := by
    refine List.perm_middle.trans ?_
    rw [List.take_append_drop]
  have hf : Po wk b w = w :: b := by unfold Po; rw [Wg hk]
  refine We ?_ (Tc h w) (hp.trans (by rw [← hf]; exact (Ko _).symm))
  have hi := Am8 (k := wk w) (Ss.2 h)
  unfold ins at hi
  rw [if_neg (by rw [hh]; decide)] at hi
  refine Ss.1 ?_
  rw [List.map_append, List.map_cons, List.map_take, List.map_drop]
  exact hi
theorem Zc {b : List Af} (h : Fq wk b) (w : Af) : (Aax b w).length = if hit (b.map wk) (wk w) = true then b.length else b.length + 1 := by
  cases hh : hit (b.map wk) (wk w) with
  | true => rw [← Aah h hh, if_pos rfl, List.length_set]
  | false =>
    rw [← Ae4 h hh, if_neg (by decide), List.length_append, List.length_cons, List.length_take, List.length_drop]
    have := Ajr (b.map wk) (wk w)
    rw [List.length_map] at this
    omega
theorem Am3 {b : List Af} (h : X2 b) {w : Af} (hw : swV w = true) (hr : wk w ∈ b.map wk ∨ b.length < 16) : D6 ⟨b⟩ w = some (⟨Aax b w⟩, 0) ∧ X2 (Aax b w) := by
  have hl := h.len
  have hg : X2 (Aax b w) := by
    refine ⟨fun x hx => ?_, ?_, Tc h.rise w⟩
    · rcases Acx.1 hx with rfl | ⟨hx, _⟩
      · exact hw
      · exact h.sw x hx
    · rw [Zc h.rise]
      split
      · exact hl
      · rename_i hn
        rcases hr with hr | hr
        · exact absurd ((Wq h.rise).2 hr) hn
        · omega
  refine ⟨?_, hg⟩
  unfold D6
  rw [show (⟨(B2.mk b).L⟩ : B2) = ⟨b⟩ from rfl, Af6 h, Option.bind_some, show (⟨w.Key, w.Val, w.Del⟩ : Af) = w from rfl, Ama, Option.bind_some, hw]
  unfold Ia
  rw [Yz (by omega), Option.bind_some, Aj3 _ _ (by rw [List.length_map]; omega), Option.bind_some]
  dsimp only
  rw [Of _ (by omega), Option.bind_some]
  have hkl := Ajr (b.map wk) (wk w)
  rw [List.length_map] at hkl
  rw [if_neg (by decide), if_neg (by decide)]
  cases hh : hit (b.map wk) w.Key with
  | true =>
    have hlt := Ans hh
    rw [List.length_map] at hlt
    rw [if_pos rfl, Bv, List.getElem?_eq_getElem hlt, Option.bind_some, Int.toNat_natCast]
    exact congrArg (fun l => some (B2.mk l, (0 : Int))) (Aah h.rise hh)
  | false =>
    have hlt : b.length < 16 := by
      rcases hr with hr | hr
      · have := (Wq h.rise).2 hr
        rw [show wk w = w.Key from rfl, hh] at this; cases this
      · exact hr
    rw [if_neg (by decide), if_neg (by rw [decide_eq_true_eq]; omega)]
    unfold L8 Aoc
    dsimp only
    rw [if_pos ⟨⟨Int.natCast_nonneg _, by show ((kat (b.map wk) (wk w) : Nat) : Int) ≤ _; omega⟩, by omega⟩, Option.bind_some, Int.toNat_natCast]
    exact congrArg (fun l => some (B2.mk l, (0 : Int))) (Ae4 h.rise hh)
theorem Af1 {b : List Af} (h : X2 b) {w : Af} (hn : ¬ (swV w = true ∧ (wk w ∈ b.map wk ∨ b.length < 16))) : ∃ e : Int, e ≠ 0 ∧ (swV w = true → e = 8) ∧ D6 ⟨b⟩ w = some (⟨[]⟩, e) := by
  have hl := h.len
  unfold D6
  rw [show (⟨(B2.mk b).L⟩ : B2) = ⟨b⟩ from rfl, Af6 h, Option.bind_some, show (⟨w.Key, w.Val, w.Del⟩ : Af) = w from rfl, Ama, Option.bind_some, if_neg (by decide)]
  cases hw : swV w with
  | false => exact ⟨1, by decide, fun h => (by cases h), rfl⟩
  | true =>
    have hn2 : ¬ (wk w ∈ b.map wk ∨ b.length < 16) := fun h => hn ⟨hw, h⟩
    have hh : hit (b.map wk) w.Key = false := by
      cases hh : hit (b.map wk) w.Key with
      | false => rfl
      | true => exact absurd (.inl ((Wq h.rise).1 hh)) hn2
    unfold Ia
    rw [if_neg (by decide), Yz (by omega), Option.bind_some, Aj3 _ _ (by rw [List.length_map]; omega), Option.bind_some]
    dsimp only
    rw [Of _ (by omega), Option.bind_some, hh, if_neg (by decide), if_pos (decide_eq_true (by omega))]
    exact ⟨8, by decide, fun _ => rfl, rfl⟩
theorem Aqs {xs : List Aw} (hl : xs.length ≤ 1000000) : N5 xs xs = some true := by
  unfold N5
  rw [decide_eq_true rfl, if_neg (by decide), Al3 xs (fun _ => false) (fun _ => false) (Jr xs xs) (by omega) (fun i x hx => by
    have hlt := (List.getElem?_eq_some_iff.1 hx).1
    unfold Jr
    rw [if_pos (decide_eq_true (by omega)), Bv, hx, Option.bind_some, Option.bind_some, Ch (by omega) (by omega)]
    simp) (by
    unfold Jr
    rw [if_neg (by rw [decide_eq_true_eq]; omega)]), W8 (fun _ _ => rfl)]
  rfl
def kvw (w : Af) : Aw := ⟨w.Key, w.Val⟩
def Oy (r : Ar) (t : List Aw) (x : Aw) : List Aw := if Oq r x.Key then Po kvk t x else t
def Rb (r : Ar) (t : List Aw) (w : Af) : List Aw := if w.Del then Vj kvk t w.Key else if Oq r w.Key then Po kvk t (kvw w) else t
def ovL (b : List Af) (l : List Aw) (r : Ar) : List Aw := Yx kvk (b.foldl (Rb r) (l.foldl (Oy r) []))
theorem Aaj {r : Ar} : ∀ {l t : List Aw}, I2 kvk l → (∀ x ∈ t, ∀ y ∈ l, kvk x ≠ kvk y) → I2 kvk t → (∀ x, x ∈ l.foldl (Oy r) t ↔ x ∈ t ∨ (x ∈ l ∧ Oq r x.Key = true)) ∧ I2 kvk (l.foldl (Oy r) t)
  | [], t, _, _, hd => ⟨fun x => by simp, hd⟩
  | y :: l, t, h, hn, hd => by
    obtain ⟨h1, h2⟩ := List.pairwise_cons.1 h
    rw [List.foldl_cons]
    have hs : (∀ x, x ∈ Oy r t y ↔ x ∈ t ∨ (x = y ∧ Oq r y.Key = true)) ∧ I2 kvk (Oy r t y) := by
      unfold Oy
      cases hh : Oq r y.Key with
      | false => exact ⟨fun x => by simp, hd⟩
      | true =>
        rw [if_pos rfl]
        refine ⟨fun x => ?_, Wn hd y⟩
        rw [Ys]
        constructor
        · rintro (h | ⟨h, _⟩)
          · exact .inr ⟨h, rfl⟩
          · exact .inl h
        · rintro (h | ⟨h, _⟩)
          · exact .inr ⟨h, hn x h y (List.mem_cons_self ..)⟩
          · exact .inl h
    obtain ⟨i1, i2⟩ := Aaj (r := r) h2 (t := Oy r t y) (fun x hx z hz => by
      rcases (hs.1 x).1 hx with h | ⟨h, _⟩
      · exact hn x h z (List.mem_cons_of_mem _ hz)
      · rw [h]; exact h1 z hz) hs.2
    refine ⟨fun x => ?_, i2⟩
    rw [i1, hs.1, List.mem_cons]
    constructor
    · rintro ((h | ⟨h, h'⟩) | ⟨h, h'⟩)
      · exact .inl h
      · exact .inr ⟨.inl h, by rw [h]; exact h'⟩
      · exact .inr ⟨.inr h, h'⟩
    · rintro (h | ⟨h | h, h'⟩)
      · exact .inl (.inl h)
      · exact .inl (.inr ⟨h, by rw [← h]; exact h'⟩)
      · exact .inr ⟨h, h'⟩
theorem Aao {r : Ar} : ∀ {b : List Af} {t : List Aw}, I2 wk b → (∀ x ∈ t, Oq r x.Key = true) → I2 kvk t →
    (∀ x, x ∈ b.foldl (Rb r) t ↔ (x ∈ t ∧ x.Key ∉ b.map wk) ∨ ∃ w ∈ b, w.Del = false ∧ Oq r w.Key = true ∧ x = kvw w) ∧ I2 kvk (b.foldl (Rb r) t)
  | [], t, _, _, hd => ⟨fun x => by simp, hd⟩
  | y :: b, t, h, hr, hd => by
    obtain ⟨h1, h2⟩ := List.pairwise_cons.1 h
    rw [List.foldl_cons]
    have hs : (∀ x, x ∈ Rb r t y ↔ (x ∈ t ∧ x.Key ≠ y.Key) ∨ (y.Del = false ∧ Oq r y.Key = true ∧ x = kvw y)) ∧ I2 kvk (Rb r t y) := by
      unfold Rb
      cases hdel : y.Del with
      | true =>
        rw [if_pos rfl]
        refine ⟨fun x => ?_, Afp hd _⟩
        rw [Aio]
        simp [kvk]
      | false =>
        rw [if_neg (by decide)]
        cases hh : Oq r y.Key with
        | false =>
          rw [if_neg (by decide)]
          refine ⟨fun x => ⟨fun hx => .inl ⟨hx, fun e => ?_⟩, fun hx => ?_⟩, hd⟩
          · have := hr x hx; rw [e, hh] at this; cases this
          · rcases hx with ⟨hx, _⟩ | ⟨_, hx, _⟩
            · exact hx
            · cases hx
        | true =>
          rw [if_pos rfl]
          refine ⟨fun x => ?_, Wn hd _⟩
          rw [Ys]
          constructor
          · rintro (h | h)
            · exact .inr ⟨rfl, rfl, h⟩
            · exact .inl h
          · rintro (h | ⟨_, _, h⟩)
            · exact .inr h
            · exact .inl h
    obtain ⟨i1, i2⟩ := Aao (r := r) h2 (t := Rb r t y) (fun x hx => by
      rcases (hs.1 x).1 hx with ⟨h, _⟩ | ⟨_, h, e⟩
      · exact hr x h
      · rw [e]; exact h) hs.2
    refine ⟨fun x => ?_, i2⟩
    rw [i1, hs.1, List.map_cons, List.mem_cons]
    constructor
    · rintro (⟨⟨h, h'⟩ | ⟨hd', hr', e⟩, hb⟩ | ⟨w, hw, hx⟩)
      · exact .inl ⟨h, fun e => e.elim h' hb⟩
      · exact .inr ⟨y, List.mem_cons_self .., hd', hr', e⟩
      · exact .inr ⟨w, List.mem_cons_of_mem _ hw, hx⟩
    · rintro (⟨h, hb⟩ | ⟨w, hw, hx⟩)
      · exact .inl ⟨.inl ⟨h, fun e => hb (.inl e)⟩, fun e => hb (.inr e)⟩
      · rcases List.mem_cons.1 hw with rfl | hw
        · refine .inl ⟨.inr hx, fun hm => ?_⟩
          obtain ⟨z, hz, hk⟩ := List.mem_map.1 hm
          rw [hx.2.2] at hk
          exact h1 z hz hk.symm
        · exact .inr ⟨w, hw, hx⟩
theorem Ae0 {b : List Af} {l : List Aw} (r : Ar) (hb : Fq wk b) (hl : Fq kvk l) :
    (∀ x, x ∈ b.foldl (Rb r) (l.foldl (Oy r) []) ↔ (Oq r x.Key = true ∧ x ∈ l ∧ x.Key ∉ b.map wk) ∨ ∃ w ∈ b, w.Del = false ∧ Oq r w.Key = true ∧ x = kvw w) ∧ I2 kvk (b.foldl (Rb r) (l.foldl (Oy r) [])) := by
  obtain ⟨h1, h2⟩ := Aaj (r := r) (t := []) hl.dist (fun x hx => by simp at hx) List.Pairwise.nil
  obtain ⟨h3, h4⟩ := Aao (r := r) hb.dist (t := l.foldl (Oy r) []) (fun x hx => by
    rcases (h1 x).1 hx with h | h
    · simp at h
    · exact h.2) h2
  refine ⟨fun x => ?_, h4⟩
  rw [h3, h1]
  simp only [List.not_mem_nil, false_or]
  constructor
  · rintro (⟨⟨a, b⟩, c⟩ | h)
    · exact .inl ⟨b, a, c⟩
    · exact .inr h
  · rintro (⟨b, a, c⟩ | h)
    · exact .inl ⟨⟨a, b⟩, c⟩
    · exact .inr h
theorem Tk {b : List Af} {l : List Aw} {r : Ar} (hb : Fq wk b) (hl : Fq kvk l) {x : Aw} :
    x ∈ ovL b l r ↔ (Oq r x.Key = true ∧ x ∈ l ∧ x.Key ∉ b.map wk) ∨ ∃ w ∈ b, w.Del = false ∧ Oq r w.Key = true ∧ x = kvw w := Adn.trans ((Ae0 r hb hl).1 x)
theorem Q2 {b : List Af} {l : List Aw} (r : Ar) (hb : Fq wk b) (hl : Fq kvk l) : Fq kvk (ovL b l r) := O7 (Ae0 r hb hl).2
theorem Z3 (r : Ar) : ∀ (l t : List Aw), (l.foldl (Oy r) t).length ≤ t.length + l.length
  | [], t => by simp
  | y :: l, t => by
    have := Z3 r l (Oy r t y)
    have h2 : (Oy r t y).length ≤ t.length + 1 := by
      unfold Oy Po
      split
      · have := List.length_filter_le (fun z => !(kvk z == kvk y)) t
        rw [List.length_cons]; omega
      · omega
    rw [List.foldl_cons, List.length_cons]; omega
theorem Zs (r : Ar) : ∀ (b : List Af) (t : List Aw), (b.foldl (Rb r) t).length ≤ t.length + b.length
  | [], t => by simp
  | y :: l, t => by
    have := Zs r l (Rb r t y)
    have h2 : (Rb r t y).length ≤ t.length + 1 := by
      unfold Rb Po Vj
      split
      · have := List.length_filter_le (fun z => !(kvk z == y.Key)) t; omega
      · split
        · have := List.length_filter_le (fun z => !(kvk z == kvk (kvw y))) t
          rw [List.length_cons]; omega
        · omega
    rw [List.foldl_cons, List.length_cons]; omega
theorem Zw (b : List Af) (l : List Aw) (r : Ar) : (ovL b l r).length ≤ l.length + b.length := by
  unfold ovL
  rw [(Ko _).length_eq]
  have h1 := Zs r b (l.foldl (Oy r) [])
  have h2 := Z3 r l []
  simp at h2
  omega
theorem Aen {l : List Aw} (h : Fq kvk l) (hl : l.length ≤ 1000000) : Gf l = some true := by
  unfold Gf
  obtain ⟨v, hv, hr⟩ := Eg (f := F1 l) (P := fun s => ∃ j : Nat, j ≤ l.length ∧ s = ((j : Int), (l.take j).map kvk)) (μ := fun s => l.length - s.1.toNat) (R := fun v => v = l.map kvk) (by
    rintro _ ⟨j, hj, rfl⟩
    unfold F1
    dsimp only
    rcases Nat.lt_or_ge j l.length with hlt | hge
    · left
      rw [if_pos (decide_eq_true (by omega)), Bv, List.getElem?_eq_getElem hlt, Option.bind_some, if_pos (by rw [List.length_map, List.length_take, List.length_singleton]; omega), Ch (by omega) (by omega)]
      refine ⟨_, rfl, ⟨j + 1, hlt, ?_⟩, by dsimp only; omega⟩
      rw [List.take_succ_eq_append_getElem hlt, List.map_append]; rfl
    · right
      have e : j = l.length := by omega
      subst e
      rw [if_neg (by rw [decide_eq_true_eq]; omega)]
      exact ⟨_, rfl, by rw [List.take_length]⟩) fuel (0, []) ⟨0, Nat.zero_le _, by simp⟩ (Dh (by show l.length - 0 ≤ _; omega))
  rw [hv, hr]
  show F2 _ = _
  unfold F2
  rw [Y1 (List.pairwise_map.2 h) (by rw [List.length_map]; omega)]
  rfl
theorem Anh {b : List Af} {l : List Aw} (r : Ar) {n : Int} (hb : X2 b) (hl : Fq kvk l) (hn : l.length ≤ 1000000) (h1 : 1 ≤ n) : Kc ⟨b⟩ l r n = some ((ovL b l r).take n.toNat) := by
  have hbl := hb.len
  unfold Kc
  rw [Af6 hb, Option.bind_some, if_neg (by decide), Aen hl hn, Option.bind_some, if_neg (by decide), if_neg (by rw [decide_eq_true_eq]; omega)]
  have e1 := X9 (f := Wj l r) (fun (t : List Aw) (i : Nat) => ((i : Int), t)) l (Oy r) (fun t => t) (by omega) (fun acc i x hx => by
    have hlt := (List.getElem?_eq_some_iff.1 hx).1
    unfold Wj
    dsimp only
    rw [if_pos (decide_eq_true (by omega)), Bv, hx, Option.bind_some, Ak0, Option.bind_some, Ch (by omega) (by omega)]
    rfl) (fun acc => by
    unfold Wj
    dsimp only
    rw [if_neg (by rw [decide_eq_true_eq]; omega)]) []
  have e2 := X9 (f := V3 ⟨b⟩ r) (fun (t : List Aw) (i : Nat) => ((i : Int), t)) b (Rb r) (fun t => t) (by omega) (fun acc i x hx => by
    have hlt := (List.getElem?_eq_some_iff.1 hx).1
    unfold V3 Rb
    dsimp only
    rw [if_pos (decide_eq_true (by omega)), Bv, hx, Option.bind_some, Ch (by omega) (by omega)]
    cases hd : x.Del with
    | true => rfl
    | false =>
      rw [if_neg (by decide), Ak0, Option.bind_some]
      rfl) (fun acc => by
    unfold V3
    dsimp only
    rw [if_neg (by rw [decide_eq_true_eq]; omega)]) (l.foldl (Oy r) [])
  have e1' : Cw (Wj l r) fuel (0, []) = some (l.foldl (Oy r) []) := e1
  have e2' : Cw (V3 ⟨b⟩ r) fuel (0, l.foldl (Oy r) []) = some (b.foldl (Rb r) (l.foldl (Oy r) [])) := e2
  rw [e1', Option.bind_some]
  unfold Ade
  rw [e2', Option.bind_some]
  unfold Ac2
  have hlen := Zw b l r
  have hlen' : (b.foldl (Rb r) (l.foldl (Oy r) [])).length = (ovL b l r).length := (Ko (kf := kvk) _).length_eq.symm
  rw [if_pos (by omega)]
  show cut (ovL b l r) 0 (if n < ((ovL b l r).length : Int) then n else ((ovL b l r).length : Int)) = _
  split
  · rw [Se (by omega) (by omega) (by omega)]; simp
  · rw [Se (by omega) (by omega) (by omega), List.take_of_length_le (l := ovL b l r) (by omega)]; simp
theorem Add {l : List Aw} (hk : ∀ x ∈ l, x.Key.length ≤ 1000000) (hl : l.length ≤ 1000000) : ∃ v, Jp l = some v ∧ (v = true ↔ Fq kvk l) := by
  rcases Nat.lt_or_ge l.length 1 with h0 | h0
  · have : l = [] := List.eq_nil_of_length_eq_zero (by omega)
    subst this
    exact ⟨true, by decide +kernel, fun _ => List.Pairwise.nil, fun _ => rfl⟩
  obtain ⟨v, hv, hr⟩ := H4 (f := Ip l) (P := fun s => ∃ i : Nat, 1 ≤ i ∧ i ≤ l.length ∧ s = (i : Int) ∧ Fq kvk (l.take i)) (μ := fun s => l.length - s.toNat)
    (R := fun x => match x with | .inl r => r = false ∧ ¬ Fq kvk l | .inr _ => Fq kvk l) (by
      rintro _ ⟨i, h1, hi, rfl, hp⟩
      unfold Ip
      rcases Nat.lt_or_ge i l.length with hlt | hge
      · have hlt' : i - 1 < l.length := by omega
        rw [if_pos (decide_eq_true (by omega)), Ch (by omega) (by omega), show (i : Int) - 1 = ((i - 1 : Nat) : Int) by omega, Bv, Bv, List.getElem?_eq_getElem hlt, List.getElem?_eq_getElem hlt', Option.bind_some, Option.bind_some, X1 _ _ (by have := hk _ (List.getElem_mem hlt'); omega), Option.bind_some, Ch (by omega) (by omega)]
        by_cases hc : 0 ≤ Dq l[i - 1].Key l[i].Key
        · rw [if_pos (decide_eq_true hc)]
          refine .inr (.inr ⟨_, rfl, rfl, fun h => ?_⟩)
          have := (List.pairwise_iff_getElem.1 h) (i - 1) i hlt' hlt (by omega)
          have : Dq l[i - 1].Key l[i].Key < 0 := this
          omega
        · rw [if_neg (by rw [decide_eq_true_eq]; exact hc)]
          refine .inl ⟨_, rfl, ⟨i + 1, by omega, by omega, rfl, ?_⟩, by simp only [Int.toNat_natCast]; omega⟩
          rw [List.take_succ_eq_append_getElem hlt]
          refine List.pairwise_append.2 ⟨hp, List.pairwise_singleton _ _, fun a ha c hc' => ?_⟩
          rw [List.mem_singleton.1 hc']
          have hlast : l.take i = l.take (i - 1) ++ [l[i - 1]] := by
            have := List.take_succ_eq_append_getElem hlt'
            rwa [show i - 1 + 1 = i by omega] at this
          have hc2 : Dq (kvk l[i - 1]) (kvk l[i]) < 0 := by show Dq l[i - 1].Key l[i].Key < 0; omega
          rw [hlast] at ha hp
          rcases List.mem_append.1 ha with ha | ha
          · have := (List.pairwise_append.1 hp).2.2 a ha _ (List.mem_singleton.2 rfl)
            exact (Jq (Int.le_of_lt this) (Int.le_of_lt hc2)).2 (.inl this)
          · rw [List.mem_singleton.1 ha]; exact hc2
      · have e : i = l.length := by omega
        subst e
        rw [if_neg (by rw [decide_eq_true_eq]; omega)]
        refine .inr (.inl ⟨_, rfl, ?_⟩)
        rw [List.take_length] at hp
        exact hp) fuel 1 ⟨1, Nat.le_refl _, h0, rfl, by
          match l, h0 with
          | x :: l, _ => exact List.pairwise_singleton _ _⟩ (Dh (by show l.length - 1 ≤ _; omega))
  unfold Jp
  rw [hv]
  cases v with
  | inl r => exact ⟨r, rfl, fun h => (by rw [hr.1] at h; cases h), fun h => absurd h hr.2⟩
  | inr b => exact ⟨true, rfl, fun _ => hr, fun _ => rfl⟩
theorem Te {b : List Af} (h : X2 b) : ∀ w ∈ b, w.Key.length ≤ 1000 := fun w hw => by
  have h1 := h.sw w hw
  have h2 := Ama w
  rw [h1] at h2
  unfold B7 Dm at h2
  by_cases hc : (w.Key.length : Int) ≤ 16
  · omega
  · exfalso
    revert h2
    simp [hc]
    try split <;> simp
end Go.Proofs.YtphgpfgibpgfiaaGreat.Abs
