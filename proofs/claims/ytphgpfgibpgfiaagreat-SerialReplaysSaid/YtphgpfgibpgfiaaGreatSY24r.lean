/-
 The order, on both sides.
-/
import Derived.Test.YtphgpfgibpgfiaaGreatSE24r
set_option linter.unusedVariables false
set_option linter.unusedSimpArgs false
namespace Go.Proofs.YtphgpfgibpgfiaaGreat.Abs
theorem Akt {l : List Ca} (hL : ∀ x ∈ l, Aha x) (hl : l.length ≤ 1000) : ∃ b, Ly l = some b ∧ (b = true ↔ Ano (l.map toS)) := by
 have hlen : (List.range l.length).length = l.length := List.length_range
 have hml : (l.map toS).length = l.length := List.length_map _
 have hbv : ∀ i (h : i < l.length), Am4 (l.map toS) i = (!(Cq (toS l[i])).getD false || (l.take i).any fun y => decide (S8 (toS y) (toS l[i]))) := fun i h => by
  rw [Q0 (by rw [hml]; exact h), List.getElem_map, ← List.map_take, List.any_map]; rfl
 unfold Ly
 rcases Tz (List.range l.length) (Am4 (l.map toS)) (Ir l) (by omega) (fun i i' hx => by
  have hlt := (List.getElem?_eq_some_iff.1 hx).1
  rw [hlen] at hlt
  obtain rfl : i = i' := by rw [List.getElem?_range hlt] at hx; exact Option.some.inj hx
  have hxi := List.getElem?_eq_getElem hlt
  have hLi := hL _ (List.getElem_mem hlt)
  have l1 := hLi.r
  have l2 := hLi.w
  rw [hbv i hlt]
  obtain ⟨v, hv, hv2⟩ := Xx (x := toS l[i]) ⟨hLi.r, hLi.w⟩
  rw [hv]
  show _ = some (if (!v || (l.take i).any fun y => decide (S8 (toS y) (toS l[i]))) = true then LR.ret false else LR.cont ((i + 1 : Nat) : Int))
  have hno : ¬ TxP (toS l[i]) → v = false := fun h => by
   cases v with
   | false => rfl
   | true => exact absurd (hv2.1 rfl) h
  unfold Ir
  rw [if_pos (decide_eq_true (by omega)), Bv, hxi, Option.bind_some]
  by_cases h1 : l[i].Snap < 0
  ·rw [if_pos (decide_eq_true h1), hno (fun h => by have : 0 ≤ l[i].Snap := h.2.2.1; omega)]; rfl
  rw [if_neg (by rw [decide_eq_true_eq]; exact h1)]
  by_cases h2 : l[i].Ts ≤ l[i].Snap
  ·rw [if_pos (decide_eq_true h2), hno (fun h => by have : l[i].Snap < l[i].Ts := h.2.2.2; omega)]; rfl
  rw [if_neg (by rw [decide_eq_true_eq]; exact h2)]
  obtain ⟨w, hw, hw2⟩ := Sq l[i].Writes (by omega) (fun w hw => Nat.le_trans (hLi.k w hw) (by decide))
  rw [hw, Option.bind_some]
  cases w with
  | false => rw [hno (fun h => by have := hw2.2 h.1; cases this)]; rfl
  | true =>
  have hwt := hw2.1 rfl
  rw [if_neg (by decide)]
  unfold Mo
  rcases Tz l[i].Reads (fun g => !rsV g) (G7 l[i]) (by omega) (fun j g hg => by
   have hlt := (List.getElem?_eq_some_iff.1 hg).1
   unfold G7
   rw [if_pos (decide_eq_true (by omega)), Bv, hg, Option.bind_some, Amv, Option.bind_some, Ch (by omega) (by omega)]
   cases rsV g <;> rfl) (by
   unfold G7
   rw [if_neg (by rw [decide_eq_true_eq]; omega)]) with ⟨⟨g, hg, hp⟩, e⟩ | ⟨hp, e⟩
  ·rw [e, hno (fun h => by rw [h.2.1 g hg] at hp; cases hp)]; rfl
  ·have hvt : v = true := hv2.2 ⟨hwt, fun r hr => by have := hp r hr; simpa using this, by show 0 ≤ l[i].Snap; omega, by show l[i].Snap < l[i].Ts; omega⟩
   rw [e, hvt]
   show Jz l (i : Int) l[i] () = _
   unfold Jz
   have hti : (l.take i).length = i := by rw [List.length_take]; omega
   rcases Ad7 false (l.take i) (fun y => decide (S8 (toS y) (toS l[i]))) (Ie l (i : Int) l[i]) (by omega) (fun j y hy => by
    have hj := (List.getElem?_eq_some_iff.1 hy).1
    have hyl : l[j]? = some y := by rw [List.getElem?_take_of_lt (by omega)] at hy; exact hy
    unfold Ie
    rw [if_pos (decide_eq_true (by omega)), Bv, hyl, Option.bind_some, Option.bind_some, Ch (by omega) (by omega)]
    show _ = some (if decide (y.Token = l[i].Token ∨ y.Ts = l[i].Ts) = true then LR.ret false else LR.cont ((j + 1 : Nat) : Int))
    by_cases c1 : y.Token = l[i].Token
    ·rw [if_pos (decide_eq_true c1), if_pos (decide_eq_true (.inl c1))]
    ·rw [if_neg (by rw [decide_eq_true_eq]; exact c1)]
     by_cases c2 : y.Ts = l[i].Ts
     ·rw [if_pos (decide_eq_true c2), if_pos (decide_eq_true (.inr c2))]
     ·rw [if_neg (by rw [decide_eq_true_eq]; exact c2), if_neg (by rw [decide_eq_true_eq]; exact fun h => h.elim c1 c2)]; rfl) (by
    unfold Ie
    rw [if_neg (by rw [decide_eq_true_eq]; omega)]) with ⟨h1, e⟩ | ⟨h1, e⟩
   ·rw [e, h1]; rfl
   ·rw [e, h1]
    show J4 (i : Int) () = _
    unfold J4
    rw [Ch (by omega) (by omega)]; rfl) (by
  unfold Ir
  rw [hlen, if_neg (by rw [decide_eq_true_eq]; omega)]) with ⟨⟨i, hi, hp⟩, e⟩ | ⟨hp, e⟩
 ·rw [e]
  refine ⟨false, rfl, fun h => (by cases h), fun ⟨h1, h2, _⟩ => ?_⟩
  exfalso
  have hlt := List.mem_range.1 hi
  have hlt' : i < (l.map toS).length := by rw [hml]; exact hlt
  rw [Q0 hlt', h1 _ (List.getElem_mem hlt')] at hp
  obtain ⟨y, hy, hc⟩ := List.any_eq_true.1 (show (((l.map toS).take i).any fun y => decide (S8 y (l.map toS)[i])) = true from hp)
  obtain ⟨j, hj, rfl⟩ := List.mem_iff_getElem.1 hy
  rw [List.length_take] at hj
  rw [List.getElem_take] at hc
  exact (List.pairwise_iff_getElem.1 h2) j i (by omega) hlt' (by omega) (of_decide_eq_true hc)
 ·rw [e]
  refine ⟨_, rfl, fun h => ⟨fun x hx => ?_, List.pairwise_iff_getElem.2 fun i j hi hj hij hc => ?_, by have := of_decide_eq_true h; omega⟩, fun ⟨_, _, h⟩ => decide_eq_true (by omega)⟩
  ·obtain ⟨i, hi, rfl⟩ := List.mem_iff_getElem.1 hx
   have := hp i (List.mem_range.2 (by omega))
   rw [Q0 hi] at this
   have hLi := hL l[i] (List.getElem_mem (by omega))
   obtain ⟨b, hb, -⟩ := Xx (x := (l.map toS)[i]) (by rw [List.getElem_map]; exact ⟨hLi.r, hLi.w⟩)
   rw [hb] at this ⊢
   cases b with
   | true => rfl
   | false => cases this
  ·have := hp j (List.mem_range.2 (by omega))
   rw [Q0 hj] at this
   have hany : (((l.map toS).take j).any fun y => decide (S8 y (l.map toS)[j])) = true := List.any_eq_true.2 ⟨(l.map toS)[i], List.mem_take_iff_getElem.2 ⟨i, by omega, rfl⟩, decide_eq_true hc⟩
   rw [hany, Bool.or_true] at this
   cases this
def Rw (n : Nat) (told : List Nat) : List Nat := (List.range n).filter fun i => !decide (i ∈ told)
def Abd (l : List As) (told : List Nat) (i : Nat) : Bool := !decide (i ∈ told) && (List.range l.length).all fun k => decide (k ∈ told) || !ah l k i
def Rv (l : List As) (told : List Nat) : Option Nat := (List.range l.length).find? (Abd l told)
def Vo (l : List As) : Nat → List Nat → List Nat × Bool
 | 0, told => (told, true)
 | m + 1, told => match Rv l told with
  | none => (told, false)
  | some i => Vo l m (told ++ [i])
theorem Wd {l : List As} {m : Nat} {told : List Nat} (h : Rv l told = none) : Vo l (m + 1) told = (told, false) := by
 show (match Rv l told with | none => (told, false) | some i => Vo l m (told ++ [i])) = _
 rw [h]
theorem Wt {l : List As} {m i : Nat} {told : List Nat} (h : Rv l told = some i) : Vo l (m + 1) told = Vo l m (told ++ [i]) := by
 show (match Rv l told with | none => (told, false) | some i => Vo l m (told ++ [i])) = _
 rw [h]
theorem Aab (l : List As) (told : List Nat) : (Rw l.length told).find? (fun i => !((Rw l.length told).any fun j => ah l j i)) = Rv l told := by
 unfold Rw Rv
 rw [List.find?_filter]
 congr 1
 funext i
 unfold Abd
 rw [Bool.eq_iff_iff]
 simp only [Bool.and_eq_true, Bool.not_eq_true', decide_eq_false_iff_not, List.any_eq_false, List.all_eq_true, List.mem_filter, List.mem_range, Bool.or_eq_true, decide_eq_true_eq, Bool.not_eq_true, and_imp]
 constructor
 ·rintro ⟨h1, h2⟩
  refine ⟨h1, fun k hk => ?_⟩
  by_cases hm : k ∈ told
  ·exact .inl hm
  ·exact .inr (h2 k hk hm)
 ·rintro ⟨h1, h2⟩
  refine ⟨h1, fun k hk hm => ?_⟩
  rcases h2 k hk with h | h
  ·exact absurd h hm
  ·exact h
theorem Ahy {n : Nat} : ∀ {told : List Nat}, told.Nodup → (∀ i ∈ told, i < n) → told.length + (Rw n told).length = n := by
 intro told hn hin
 have h1 : (told ++ Rw n told).Perm (List.range n) := by
  refine (List.perm_ext_iff_of_nodup ?_ List.nodup_range).2 fun a => ?_
  ·refine List.nodup_append.2 ⟨hn, List.Nodup.sublist (List.filter_sublist ..) List.nodup_range, fun a ha b hb e => ?_⟩
   subst e
   unfold Rw at hb
   simp only [List.mem_filter, Bool.not_eq_true', decide_eq_false_iff_not] at hb
   exact hb.2 ha
  ·unfold Rw
   simp only [List.mem_append, List.mem_filter, List.mem_range, Bool.not_eq_true', decide_eq_false_iff_not]
   constructor
   ·rintro (h | h)
    ·exact hin a h
    ·exact h.1
   ·intro h
    by_cases hm : a ∈ told
    ·exact .inl hm
    ·exact .inr ⟨h, hm⟩
 have := h1.length_eq
 rwa [List.length_append, List.length_range] at this
theorem U9 : ∀ {l : List Nat} {k i : Nat}, l.Nodup → l[k]? = some i → l.eraseIdx k = l.filter fun x => !decide (x = i)
 | [], _, _, _, h => by simp at h
 | a :: t, 0, i, hn, h => by
  have e : a = i := by simpa using h
  subst e
  rw [List.eraseIdx_cons_zero, List.filter_cons, if_neg (by simp)]
  refine (List.filter_eq_self.2 fun x hx => ?_).symm
  have := (List.nodup_cons.1 hn).1
  simp only [Bool.not_eq_true', decide_eq_false_iff_not]
  exact fun e => this (e ▸ hx)
 | a :: t, k + 1, i, hn, h => by
  have h' : t[k]? = some i := by simpa using h
  have hne : a ≠ i := fun e => (List.nodup_cons.1 hn).1 (e ▸ List.mem_of_getElem? h')
  rw [List.eraseIdx_cons_succ, List.filter_cons, if_pos (by simp [hne]), U9 (List.nodup_cons.1 hn).2 h']
theorem X7 {n k i : Nat} {told : List Nat} (h : (Rw n told)[k]? = some i) : (Rw n told).eraseIdx k = Rw n (told ++ [i]) := by
 have hn : (Rw n told).Nodup := List.Nodup.sublist (List.filter_sublist ..) List.nodup_range
 rw [U9 hn h]
 unfold Rw
 rw [List.filter_filter]
 congr 1
 funext x
 rw [Bool.eq_iff_iff]
 simp [List.mem_append, not_or, and_comm]
theorem Ap0 {l : List As} (hL : ∀ x ∈ l, Lim x) {left : List Nat} (hl : ∀ j ∈ left, j < l.length) (hn : left.length ≤ 1000) :
  (∃ k i : Nat, left[k]? = some i ∧ left.find? (fun i => !(left.any fun j => ah l j i)) = some i ∧ Em (nat left) (nat left) l = some (k : Int)) ∨ (left.find? (fun i => !(left.any fun j => ah l j i)) = none ∧ Em (nat left) (nat left) l = some (-1)) := by
 unfold Em Fp
 rcases Acj left (fun i => !(left.any fun j => ah l j i)) (B6 (nat left) (nat left) l) (by omega) (fun k i hk => by
  have hlt := (List.getElem?_eq_some_iff.1 hk).1
  have hkn : (nat left)[k]? = some (i : Int) := by rw [List.getElem?_map, hk]; rfl
  unfold B6 Gq
  rw [if_pos (decide_eq_true (by rw [List.length_map]; omega)), Bv, hkn, Option.bind_some, An8 hL hl hn (hl i (List.mem_of_getElem? hk)), Option.bind_some, Option.bind_some, Ch (by omega) (by omega)]
  cases (left.any fun j => ah l j i) <;> rfl) (by
  unfold B6
  rw [if_neg (by rw [decide_eq_true_eq, List.length_map]; omega)]) with ⟨k, hk, e, ⟨i, hi, hp⟩, hfirst⟩ | ⟨hp, e⟩
 ·refine .inl ⟨k, i, hi, ?_, by rw [e]; rfl⟩
  rw [List.find?_eq_some_iff_getElem]
  refine ⟨hp, k, hk, (List.getElem?_eq_some_iff.1 hi).2, fun j hj => ?_⟩
  have := hfirst j left[j] hj (List.getElem?_eq_getElem (by omega))
  simpa using this
 ·refine .inr ⟨List.find?_eq_none.2 fun x hx => by rw [hp x hx]; decide, by rw [e]; rfl⟩
theorem Ald {l : List As} (hl : l.length ≤ 1000) : Cw (Ez l) fuel (0, ([] : List Int)) = some (nat (List.range l.length)) := by
 obtain ⟨v, hv, hr⟩ := Eg (f := Ez l) (P := fun s => ∃ j : Nat, j ≤ l.length ∧ s = ((j : Int), nat (List.range j))) (μ := fun s => l.length - s.1.toNat)
  (R := fun v => v = nat (List.range l.length)) (by
   rintro _ ⟨j, hj, rfl⟩
   unfold Ez
   dsimp only
   rcases Nat.lt_or_ge j l.length with hlt | hge
   ·left
    rw [if_pos (decide_eq_true (by omega)), if_pos (by rw [List.length_map, List.length_range, List.length_singleton]; omega), Ch (by omega) (by omega)]
    refine ⟨_, rfl, ⟨j + 1, hlt, ?_⟩, by dsimp only; omega⟩
    rw [List.range_succ, nat, nat, List.map_append]; rfl
   ·right
    have e : j = l.length := by omega
    subst e
    rw [if_neg (by rw [decide_eq_true_eq]; omega)]
    exact ⟨_, rfl, rfl⟩) fuel (0, []) ⟨0, Nat.zero_le _, rfl⟩ (Dh (by show l.length - 0 ≤ _; omega))
 rw [hv, hr]
theorem Y7 {l : List As} {told : List Nat} {i : Nat} (h : Rv l told = some i) : i < l.length ∧ i ∉ told := by
 have h1 := List.mem_of_find?_eq_some h
 have h2 := List.find?_some h
 unfold Abd at h2
 simp only [Bool.and_eq_true, Bool.not_eq_true', decide_eq_false_iff_not] at h2
 exact ⟨List.mem_range.1 h1, h2.1⟩
theorem Alc {l : List As} (hL : ∀ x ∈ l, Ali x) (hl : l.length ≤ 1000) (hs : Ib l = some true) : D7 l = some (nat (Vo l l.length []).1, (Vo l l.length []).2) := by
 unfold D7
 rw [hs, Option.bind_some, if_neg (by decide), Ald hl, Option.bind_some]
 unfold I5
 have h0 : Rw l.length [] = List.range l.length := List.filter_eq_self.2 fun _ _ => by simp
 obtain ⟨v, hv, hr⟩ := H4 (f := Gs l) (P := fun s => ∃ (told : List Nat) (m : Nat), m + told.length = l.length ∧ told.Nodup ∧ (∀ i ∈ told, i < l.length) ∧ Vo l m told = Vo l l.length [] ∧ s = (nat (Rw l.length told), nat (List.range l.length), nat told)) (μ := fun s => s.1.length)
  (R := fun v => v = .inl (nat (Vo l l.length []).1, (Vo l l.length []).2) ∨ ∃ a b, v = .inr (a, b, nat (Vo l l.length []).1) ∧ (Vo l l.length []).2 = true) (by
   rintro _ ⟨told, m, hm, hn, hin, ho, rfl⟩
   have hlen := Ahy hn hin
   have hleft : ∀ j ∈ Rw l.length told, j < l.length := fun j hj => List.mem_range.1 (List.mem_filter.1 hj).1
   unfold Gs
   dsimp only
   cases m with
   | zero =>
    right; left
    rw [if_neg (by rw [decide_eq_true_eq, List.length_map]; omega)]
    refine ⟨_, rfl, .inr ⟨_, _, by rw [← ho]; rfl, by rw [← ho]; rfl⟩⟩
   | succ m =>
   rw [if_pos (decide_eq_true (by rw [List.length_map]; omega))]
   rcases Ap0 (fun x hx => (hL x hx).l) hleft (by omega) with ⟨k, i, hk, hf, e⟩ | ⟨hf, e⟩
   ·left
    rw [Aab] at hf
    obtain ⟨hi, hni⟩ := Y7 hf
    have hkl := (List.getElem?_eq_some_iff.1 hk).1
    have hkn : (nat (Rw l.length told))[k]? = some (i : Int) := by rw [List.getElem?_map, hk]; rfl
    rw [e, Option.bind_some, if_neg (by rw [decide_eq_true_eq]; omega), Bv, hkn, Option.bind_some, if_pos (by rw [List.length_map, List.length_singleton]; omega), Aqq (by omega) hkl, Option.bind_some, X7 hk]
    refine ⟨_, rfl, ⟨told ++ [i], m, by rw [List.length_append, List.length_singleton]; omega, ?_, ?_, ?_, by simp [nat]⟩, ?_⟩
    ·refine List.nodup_append.2 ⟨hn, by simp, fun a ha b hb e => ?_⟩
     rw [List.mem_singleton.1 hb] at e
     exact hni (e ▸ ha)
    ·intro j hj
     rcases List.mem_append.1 hj with hj | hj
     ·exact hin j hj
     ·rw [List.mem_singleton.1 hj]; exact hi
    ·rw [← ho]
     rw [Wt hf]
    ·rw [← X7 hk, List.length_map, List.length_map, List.length_eraseIdx_of_lt hkl]; omega
   ·right; right
    rw [Aab] at hf
    rw [e, Option.bind_some, if_pos (by decide)]
    exact ⟨_, rfl, .inl (by rw [← ho, Wd hf])⟩) fuel (nat (List.range l.length), nat (List.range l.length), []) ⟨[], l.length, by simp, List.nodup_nil, by simp, rfl, by rw [h0]; rfl⟩ (Dh (by dsimp only; rw [List.length_map, List.length_range]; omega))
 rw [hv, Option.bind_some]
 rcases hr with rfl | ⟨a, b, rfl, h2⟩
 ·rfl
 ·rw [h2]; rfl
end Go.Proofs.YtphgpfgibpgfiaaGreat.Abs
