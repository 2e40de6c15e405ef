/-
 The document's order is the program's.
-/
import Derived.Test.YtphgpfgibpgfiaaGreatSY24r
set_option linter.unusedVariables false
set_option linter.unusedSimpArgs false
namespace Go.Proofs.YtphgpfgibpgfiaaGreat.Abs
def Wc (n : Nat) (told : List Nat) : List Bool := (List.range n).map fun i => decide (i ∈ told)
theorem Yh {n i : Nat} (told : List Nat) (h : i < n) : (Wc n told)[i]? = some (decide (i ∈ told)) := by
 unfold Wc
 rw [List.getElem?_map, List.getElem?_range h]; rfl
theorem Aie {n i : Nat} {told : List Nat} : (Wc n told).set i true = Wc n (told ++ [i]) := by
 apply List.ext_getElem?
 intro m
 unfold Wc
 rw [List.getElem?_set, List.getElem?_map, List.getElem?_map, List.length_map, List.length_range]
 rcases Nat.lt_or_ge m n with hm | hm
 ·rw [List.getElem?_range hm, Option.map_some, Option.map_some]
  by_cases h : i = m
  ·subst h
   rw [if_pos rfl, if_pos hm]; simp
  ·rw [if_neg h]
   congr 1
   rw [Bool.eq_iff_iff]
   simp only [List.mem_append, List.mem_singleton, decide_eq_true_eq]
   exact ⟨.inl, fun e => e.elim id fun e => absurd e.symm h⟩
 ·have : (List.range n)[m]? = none := by rw [List.getElem?_eq_none_iff, List.length_range]; exact hm
  rw [this]
  by_cases h : i = m
  ·subst h; rw [if_pos rfl, if_neg (by omega)]; rfl
  ·rw [if_neg h]; rfl
theorem Apx {l : List Ca} (hL : ∀ x ∈ l, Aha x) {k i : Nat} (hk : k < l.length) (hi : i < l.length) : Kx l[k] l[i] = some (ah (l.map toS) k i) := by
 rw [Ai5 (hL _ (List.getElem_mem hk)) (hL _ (List.getElem_mem hi))]
 unfold ah
 rw [List.getElem?_map, List.getElem?_map, List.getElem?_eq_getElem hk, List.getElem?_eq_getElem hi]
 rfl
theorem Anj {l : List Ca} (hL : ∀ x ∈ l, Aha x) (hl : l.length ≤ 1000) (told : List Nat) (t : List Int) (p : Int) {i : Nat} (hi : i < l.length) (f0 : Bool) :
  Cw (Gi l (Wc l.length told, t) (p, (i : Int))) fuel (f0, 0) = some (f0 && (List.range l.length).all fun k => decide (k ∈ told) || !ah (l.map toS) k i) := by
 obtain ⟨v, hv, hr⟩ := Eg (f := Gi l (Wc l.length told, t) (p, (i : Int))) (P := fun s => ∃ j : Nat, j ≤ l.length ∧ s = ((f0 && (List.range j).all fun k => decide (k ∈ told) || !ah (l.map toS) k i), (j : Int))) (μ := fun s => l.length - s.2.toNat)
  (R := fun v => v = (f0 && (List.range l.length).all fun k => decide (k ∈ told) || !ah (l.map toS) k i)) (by
   rintro _ ⟨j, hj, rfl⟩
   unfold Gi
   dsimp only
   rcases Nat.lt_or_ge j l.length with hlt | hge
   ·left
    have hst : (f0 && (List.range (j + 1)).all fun k => decide (k ∈ told) || !ah (l.map toS) k i) = ((f0 && (List.range j).all fun k => decide (k ∈ told) || !ah (l.map toS) k i) && (decide (j ∈ told) || !ah (l.map toS) j i)) := by
     rw [List.range_succ, List.all_append, Bool.and_assoc]; simp
    refine ⟨((f0 && (List.range (j + 1)).all fun k => decide (k ∈ told) || !ah (l.map toS) k i), ((j + 1 : Nat) : Int)), ?_, ⟨j + 1, hlt, rfl⟩, by simp only [Int.toNat_natCast]; omega⟩
    rw [hst]
    generalize (f0 && (List.range j).all fun k => decide (k ∈ told) || !ah (l.map toS) k i) = u
    rw [if_pos (decide_eq_true (by omega)), Ch (by omega) (by omega)]
    cases u with
    | false => rfl
    | true =>
     rw [if_pos rfl, Bv, Yh told hlt, Option.bind_some]
     cases decide (j ∈ told) with
     | true => rfl
     | false =>
      rw [if_neg (by decide), Bv, List.getElem?_eq_getElem hlt, Option.bind_some, Bv, List.getElem?_eq_getElem hi, Option.bind_some, Apx hL hlt hi, Option.bind_some]
      rfl
   ·right
    have e : j = l.length := by omega
    subst e
    rw [if_neg (by rw [decide_eq_true_eq]; omega)]
    exact ⟨_, rfl, rfl⟩) fuel (f0, 0) ⟨0, Nat.zero_le _, by simp⟩ (Dh (by show l.length - 0 ≤ _; omega))
 rw [hv, hr]
theorem Aqd {l : List Ca} (hL : ∀ x ∈ l, Aha x) (hl : l.length ≤ 1000) (told : List Nat) (t : List Int) :
  Cw (Fx l (Wc l.length told, t)) fuel (-1, 0) = some (match Rv (l.map toS) told with | some i => (i : Int) | none => -1) := by
 have hml : (l.map toS).length = l.length := List.length_map _
 obtain ⟨v, hv, hr⟩ := Eg (f := Fx l (Wc l.length told, t)) (P := fun s => ∃ j : Nat, j ≤ l.length ∧ ((s = (-1, (j : Int)) ∧ (∀ k, k < j → Abd (l.map toS) told k = false)) ∨ ∃ i : Nat, s = ((i : Int), (j : Int)) ∧ Rv (l.map toS) told = some i)) (μ := fun s => l.length - s.2.toNat)
  (R := fun v => v = (match Rv (l.map toS) told with | some i => (i : Int) | none => -1)) (by
   rintro _ ⟨j, hj, ⟨rfl, hno⟩ | ⟨i, rfl, hp⟩⟩
   ·unfold Fx
    dsimp only
    rcases Nat.lt_or_ge j l.length with hlt | hge
    ·left
     rw [if_pos (decide_eq_true (by omega)), if_pos (c := decide ((-1 : Int) < 0) = true) rfl]
     unfold Ll
     rw [Bv, Yh told hlt, Option.bind_some, Anj hL hl told t _ hlt, Option.bind_some]
     have hfr : (!decide (j ∈ told) && (List.range l.length).all fun k => decide (k ∈ told) || !ah (l.map toS) k j) = Abd (l.map toS) told j := by
      unfold Abd; rw [hml]
     rw [hfr]
     unfold Kv
     dsimp only
     rw [Ch (by omega) (by omega)]
     cases hf : Abd (l.map toS) told j with
     | true =>
      refine ⟨_, rfl, ⟨j + 1, hlt, .inr ⟨j, rfl, ?_⟩⟩, by simp only [Int.toNat_natCast]; omega⟩
      unfold Rv
      rw [List.find?_eq_some_iff_getElem]
      refine ⟨hf, j, by rw [List.length_range, hml]; exact hlt, by rw [List.getElem_range], fun k hk => ?_⟩
      rw [List.getElem_range, hno k hk]; rfl
     | false =>
      refine ⟨_, rfl, ⟨j + 1, hlt, .inl ⟨rfl, fun k hk => ?_⟩⟩, by simp only [Int.toNat_natCast]; omega⟩
      rcases Nat.lt_succ_iff_lt_or_eq.1 hk with h | rfl
      ·exact hno k h
      ·exact hf
    ·right
     have e : j = l.length := by omega
     subst e
     rw [if_neg (by rw [decide_eq_true_eq]; omega)]
     have hn : Rv (l.map toS) told = none := by
      unfold Rv
      refine List.find?_eq_none.2 fun x hx => ?_
      rw [hno x (by have := List.mem_range.1 hx; omega)]; decide
     rw [hn]
     exact ⟨_, rfl, rfl⟩
   ·right
    unfold Fx
    dsimp only
    rw [hp, if_neg (c := decide ((i : Int) < 0) = true) (by rw [decide_eq_true_eq]; omega)]
    split <;> exact ⟨_, rfl, rfl⟩) fuel (-1, 0) ⟨0, Nat.zero_le _, .inl ⟨rfl, fun k hk => absurd hk (Nat.not_lt_zero _)⟩⟩ (Dh (by show l.length - 0 ≤ _; omega))
 rw [hv, hr]
theorem Aho {l : List Ca} (hL : ∀ x ∈ l, Aha x) (hl : l.length ≤ 1000) (hs : Ly l = some true) : Ja l = some (nat (Vo (l.map toS) l.length []).1, (Vo (l.map toS) l.length []).2) := by
 have hml : (l.map toS).length = l.length := List.length_map _
 unfold Ja
 rw [hs, Option.bind_some, if_neg (by decide), if_pos ⟨Int.natCast_nonneg _, Int.le_refl _, by omega⟩]
 obtain ⟨v, hv, hr⟩ := H4 (f := Jc l) (P := fun s => ∃ (told : List Nat) (m : Nat), m + told.length = l.length ∧ Vo (l.map toS) m told = Vo (l.map toS) l.length [] ∧ s = (Wc l.length told, nat told)) (μ := fun s => l.length - s.2.length)
  (R := fun v => v = .inl (nat (Vo (l.map toS) l.length []).1, (Vo (l.map toS) l.length []).2) ∨ ∃ a, v = .inr (a, nat (Vo (l.map toS) l.length []).1) ∧ (Vo (l.map toS) l.length []).2 = true) (by
   rintro _ ⟨told, m, hm, ho, rfl⟩
   unfold Jc
   dsimp only
   cases m with
   | zero =>
    right; left
    rw [if_neg (by rw [decide_eq_true_eq, List.length_map]; omega)]
    exact ⟨_, rfl, .inr ⟨_, by rw [← ho]; rfl, by rw [← ho]; rfl⟩⟩
   | succ m =>
   rw [if_pos (decide_eq_true (by rw [List.length_map]; omega)), Aqd hL hl, Option.bind_some]
   unfold Lj
   cases hp : Rv (l.map toS) told with
   | none =>
    right; right
    rw [if_pos (by decide)]
    exact ⟨_, rfl, .inl (by rw [← ho, Wd hp])⟩
   | some i =>
    left
    have hi := (Y7 hp).1
    rw [hml] at hi
    rw [if_neg (by rw [decide_eq_true_eq]; dsimp only; omega)]
    dsimp only
    rw [Bv, Yh told hi, Option.bind_some, if_pos (by rw [List.length_map, List.length_singleton]; omega), Int.toNat_natCast, Aie]
    refine ⟨_, rfl, ⟨told ++ [i], m, by rw [List.length_append, List.length_singleton]; omega, by rw [← ho, Wt hp], by simp [nat]⟩, ?_⟩
    simp only [List.length_append, List.length_map, List.length_singleton]
    omega) fuel (List.replicate (l.length : Int).toNat false, []) ⟨[], l.length, by simp, rfl, by
     unfold Wc
     congr 1
     apply List.ext_getElem
     ·simp
     ·intro i h1 h2; simp⟩ (Dh (by dsimp only; omega))
 rw [hv, Option.bind_some]
 rcases hr with rfl | ⟨a, rfl, h2⟩
 ·rfl
 ·rw [h2]; rfl
theorem Aew {l : List Ca} (hL : ∀ x ∈ l, Aha x) (hl : l.length ≤ 1000) : ∃ o, D7 (l.map toS) = some o ∧ Ja l = some o ∧ ∃ told : List Nat, o.1 = nat told ∧ (o.2 = true → ∀ i ∈ told, i < l.length) ∧ (o.2 = true → told.length ≤ l.length) := by
 have hL2 : ∀ y ∈ l.map toS, Ali y := fun y hy => by
  obtain ⟨x, hx, rfl⟩ := List.mem_map.1 hy
  exact ⟨(hL x hx).r, (hL x hx).w⟩
 have hml : (l.map toS).length = l.length := List.length_map _
 obtain ⟨a, ha, ha2⟩ := Amq hL2 (by omega)
 obtain ⟨b, hb, hb2⟩ := Akt hL hl
 have hab : a = b := by rw [Bool.eq_iff_iff, ha2, hb2]
 subst hab
 cases a with
 | false =>
  refine ⟨([], false), ?_, ?_, [], rfl, fun h => (by cases h), fun h => (by cases h)⟩
  ·unfold D7; rw [ha]; rfl
  ·unfold Ja; rw [hb]; rfl
 | true =>
  have hin : ∀ (m : Nat) (told : List Nat), (∀ i ∈ told, i < l.length) → (∀ i ∈ (Vo (l.map toS) m told).1, i < l.length) ∧ (Vo (l.map toS) m told).1.length ≤ m + told.length := by
   intro m
   induction m with
   | zero => exact fun told h => ⟨h, by show told.length ≤ _; omega⟩
   | succ m ih =>
    intro told h
    cases hp : Rv (l.map toS) told with
    | none => rw [Wd hp]; exact ⟨h, by show told.length ≤ _; omega⟩
    | some i =>
     rw [Wt hp]
     have := ih (told ++ [i]) (fun j hj => by
      rcases List.mem_append.1 hj with hj | hj
      ·exact h j hj
      ·rw [List.mem_singleton.1 hj]; have := (Y7 hp).1; omega)
     refine ⟨this.1, ?_⟩
     have := this.2
     rw [List.length_append, List.length_singleton] at this
     omega
  have h := hin l.length [] (by simp)
  refine ⟨_, Alc hL2 (by omega) ha, ?_, (Vo (l.map toS) (l.map toS).length []).1, rfl, fun _ => by rw [hml]; exact h.1, fun _ => by rw [hml]; exact h.2⟩
  rw [Aho hL hl hb, hml]
end Go.Proofs.YtphgpfgibpgfiaaGreat.Abs
