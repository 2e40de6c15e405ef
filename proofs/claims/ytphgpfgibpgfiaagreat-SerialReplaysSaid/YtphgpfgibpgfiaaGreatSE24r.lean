/-
 Which transactions may be, on both sides.
-/
import Derived.Test.YtphgpfgibpgfiaaGreatSC24r
set_option linter.unusedVariables false
set_option linter.unusedSimpArgs false
namespace Go.Proofs.YtphgpfgibpgfiaaGreat.Abs
theorem V1 : ∀ (xs : Xa), (∀ (j : Nat) x y, xs[j]? = some x → xs[j + 1]? = some y → Dq x y < 0) → PW xs
 | [], _ => List.Pairwise.nil
 | [_], _ => List.pairwise_singleton ..
 | x :: y :: t, h => by
  have ih := V1 (y :: t) (fun j a b ha hb => h (j + 1) a b ha hb)
  have hxy : Dq x y < 0 := h 0 x y rfl rfl
  refine List.pairwise_cons.2 ⟨fun z hz => ?_, ih⟩
  rcases List.mem_cons.1 hz with rfl | hz
  ·exact hxy
  ·have := (List.pairwise_cons.1 ih).1 z hz
   exact (Jq (Int.le_of_lt hxy) (Int.le_of_lt this)).2 (.inl hxy)
theorem Ace {xs : Xa} (hn : xs.length ≤ 1000000000000000000) (h : C5 xs = some true) : PW xs := by
 refine V1 xs ?_
 obtain ⟨v, hv, hr⟩ := H4 (f := Df xs) (P := fun s => ∃ i : Nat, s = (i : Int) ∧ 1 ≤ i ∧ ∀ (j : Nat) x y, j + 1 < i → xs[j]? = some x → xs[j + 1]? = some y → Dq x y < 0) (μ := fun s => xs.length - s.toNat)
  (R := fun v => v = .inl false ∨ (v = .inr () ∧ ∀ (j : Nat) x y, xs[j]? = some x → xs[j + 1]? = some y → Dq x y < 0)) (by
  rintro _ ⟨i, rfl, h1, hadj⟩
  unfold Df
  by_cases hi : i < xs.length
  ·rw [if_pos (decide_eq_true (by omega)), Ch (by omega) (by omega), show (i : Int) - 1 = ((i - 1 : Nat) : Int) from by omega, Bv, Bv, List.getElem?_eq_getElem hi, List.getElem?_eq_getElem (show i - 1 < xs.length by omega)]
   simp only [Option.bind_some, Adr]
   by_cases hc : 0 ≤ Dq xs[i - 1] xs[i]
   ·rw [if_pos (decide_eq_true hc)]
    exact .inr (.inr ⟨false, rfl, .inl rfl⟩)
   ·rw [if_neg (by rw [decide_eq_true_eq]; exact hc)]
    refine .inl ⟨_, rfl, ⟨i + 1, by rw [Ch (by omega) (by omega)]; rfl, by omega, fun j x y hj hx hy => ?_⟩, by rw [Ch (by omega) (by omega)]; omega⟩
    rcases Nat.lt_or_ge (j + 1) i with h' | h'
    ·exact hadj j x y h' hx hy
    ·have e : j = i - 1 := by omega
     subst e
     rw [List.getElem?_eq_getElem (show i - 1 < xs.length by omega)] at hx
     rw [show i - 1 + 1 = i by omega, List.getElem?_eq_getElem hi] at hy
     cases hx; cases hy
     omega
  ·right; left
   rw [if_neg (by rw [decide_eq_true_eq]; omega)]
   refine ⟨_, rfl, .inr ⟨rfl, fun j x y hx hy => hadj j x y ?_ hx hy⟩⟩
   have := (List.getElem?_eq_some_iff.1 hy).1
   omega) fuel 1 ⟨1, rfl, Nat.le_refl _, fun j x y hj => by omega⟩ (Dh (by show xs.length - 1 ≤ _; omega))
 unfold C5 at h
 rw [hv] at h
 rcases hr with rfl | ⟨-, hr⟩
 ·cases h
 ·exact hr
def rsV (r : Ar) : Bool := (Cd r).getD false
theorem Apw (r : Ar) : Cd r = some (rsV r) := by
 obtain ⟨b, hb⟩ := Aey r
 unfold rsV
 rw [hb]; rfl
theorem Amv (r : Ar) : Gj r = some (rsV r) := by
 rw [← Apw]
 unfold Gj Cd
 cases r.Open with
 | false => rfl
 | true =>
  by_cases h : r.Hi = []
  ·rw [h]; rfl
  ·have : 0 < r.Hi.length := List.length_pos_iff.2 h
   rw [decide_eq_false (show ¬ (r.Hi.length : Int) = 0 by omega), decide_eq_true (show 0 < (r.Hi.length : Int) by omega)]
   rfl
def TxP (x : As) : Prop := ((∀ w ∈ x.Writes, swV w = true) ∧ PW (x.Writes.map wk)) ∧ (∀ r ∈ x.Reads, rsV r = true) ∧ 0 ≤ x.Snap ∧ x.Snap < x.Ts
theorem Xx {x : As} (h : Ali x) : ∃ b, Cq x = some b ∧ (b = true ↔ TxP x) := by
 have hr := h.r
 have hw := h.w
 have k2 : ∃ b, Du x (x.Writes.map wk) () = some b ∧ (b = true ↔ PW (x.Writes.map wk) ∧ 0 ≤ x.Snap ∧ x.Snap < x.Ts) := by
  have hn : (x.Writes.map wk).length ≤ 1000000000000000000 := by rw [List.length_map]; omega
  obtain ⟨v, hv⟩ := V9 (x.Writes.map wk) hn
  have hvi : v = true ↔ PW (x.Writes.map wk) := ⟨fun e => Ace hn (by rw [hv, e]), fun e => by rw [Y1 e hn] at hv; exact (Option.some.inj hv).symm⟩
  unfold Du
  rw [hv]
  by_cases h1 : 0 ≤ x.Snap
  ·rw [if_pos (decide_eq_true h1)]
   by_cases h2 : x.Snap < x.Ts
   ·rw [if_pos (decide_eq_true h2)]
    exact ⟨v, rfl, by rw [hvi]; exact ⟨fun e => ⟨e, h1, h2⟩, fun e => e.1⟩⟩
   ·rw [if_neg (by rw [decide_eq_true_eq]; exact h2)]
    exact ⟨false, rfl, fun e => (by cases e), fun e => absurd e.2.2 h2⟩
  ·rw [if_neg (by rw [decide_eq_true_eq]; exact h1)]
   exact ⟨false, rfl, fun e => (by cases e), fun e => absurd e.2.1 h1⟩
 have k1 : ∃ b, Dr x (x.Writes.map wk) = some b ∧ (b = true ↔ (∀ r ∈ x.Reads, rsV r = true) ∧ PW (x.Writes.map wk) ∧ 0 ≤ x.Snap ∧ x.Snap < x.Ts) := by
  unfold Dr
  rcases Tz x.Reads (fun g => !rsV g) (Cp x) (by omega) (fun i g hg => by
   have hlt := (List.getElem?_eq_some_iff.1 hg).1
   unfold Cp
   rw [if_pos (decide_eq_true (by omega)), Bv, hg, Option.bind_some, Apw, Option.bind_some, Ch (by omega) (by omega)]
   cases rsV g <;> rfl) (by
   unfold Cp
   rw [if_neg (by rw [decide_eq_true_eq]; omega)]) with ⟨⟨g, hg, hp⟩, e⟩ | ⟨hp, e⟩
  ·rw [e]
   refine ⟨false, rfl, fun h => (by cases h), fun h => ?_⟩
   rw [h.1 g hg] at hp; cases hp
  ·rw [e]
   obtain ⟨b, hb, hb2⟩ := k2
   refine ⟨b, hb, hb2.trans ⟨fun h => ⟨fun r hr => ?_, h⟩, fun h => h.2⟩⟩
   have := hp r hr
   simpa using this
 unfold Cq
 obtain ⟨v, hv, hr'⟩ := H4 (f := Dt x) (P := fun s => ∃ j : Nat, j ≤ x.Writes.length ∧ s = ((j : Int), (x.Writes.take j).map wk) ∧ ∀ w ∈ x.Writes.take j, swV w = true) (μ := fun s => x.Writes.length - s.1.toNat)
  (R := fun v => (v = .inl false ∧ ∃ w ∈ x.Writes, swV w = false) ∨ (v = .inr (x.Writes.map wk) ∧ ∀ w ∈ x.Writes, swV w = true)) (by
   rintro _ ⟨j, hj, rfl, hk⟩
   unfold Dt
   dsimp only
   rcases Nat.lt_or_ge j x.Writes.length with hlt | hge
   ·have hsw : Ds x.Writes[j] = some (swV x.Writes[j]) := (show Ds x.Writes[j] = B7 x.Writes[j] from rfl).trans (Ama _)
    rw [if_pos (decide_eq_true (by omega)), Bv, List.getElem?_eq_getElem hlt, Option.bind_some, hsw, Option.bind_some]
    cases hs : swV x.Writes[j] with
    | false => exact .inr (.inr ⟨false, rfl, .inl ⟨rfl, _, List.getElem_mem hlt, hs⟩⟩)
    | true =>
     left
     rw [if_neg (by decide), if_pos (by rw [List.length_map, List.length_take, List.length_singleton]; omega), Ch (by omega) (by omega)]
     refine ⟨_, rfl, ⟨j + 1, hlt, ?_, fun w hw => ?_⟩, by simp only [Int.toNat_natCast]; omega⟩
     ·rw [List.take_succ_eq_append_getElem hlt, List.map_append]; rfl
     ·rw [List.take_succ_eq_append_getElem hlt] at hw
      rcases List.mem_append.1 hw with hw | hw
      ·exact hk w hw
      ·rw [List.mem_singleton.1 hw]; exact hs
   ·right; left
    have e : j = x.Writes.length := by omega
    subst e
    rw [if_neg (by rw [decide_eq_true_eq]; omega)]
    rw [List.take_length] at hk ⊢
    exact ⟨_, rfl, .inr ⟨rfl, hk⟩⟩) fuel (0, []) ⟨0, Nat.zero_le _, rfl, fun w hw => by simp at hw⟩ (Dh (by show x.Writes.length - 0 ≤ _; omega))
 rw [hv]
 rcases hr' with ⟨rfl, w, hw, hs⟩ | ⟨rfl, hk⟩
 ·refine ⟨false, rfl, fun h => (by cases h), fun h => ?_⟩
  rw [h.1.1 w hw] at hs; cases hs
 ·obtain ⟨b, hb, hb2⟩ := k1
  exact ⟨b, hb, hb2.trans ⟨fun h => ⟨⟨hk, h.2.1⟩, h.1, h.2.2⟩, fun h => ⟨h.2.1, h.1.2, h.2.2⟩⟩⟩
def Amg (l : List Af) (i : Nat) : Bool := match l[i]? with
 | some w => !swV w || (decide (0 < i) && decide (0 ≤ Dq ((l[i - 1]?.map wk).getD []) w.Key))
 | none => false
theorem Aqn (w : Af) : swV w = (decide (1 ≤ (w.Key.length : Int)) && (decide ((w.Key.length : Int) ≤ 16) && (decide ((w.Val.length : Int) ≤ 32) && !(w.Del && decide (0 < (w.Val.length : Int)))))) := by
 have h := Ama w
 unfold B7 Dm at h
 refine (Option.some.inj (h.symm.trans ?_))
 cases decide (1 ≤ (w.Key.length : Int)) <;> cases decide ((w.Key.length : Int) ≤ 16) <;> cases decide ((w.Val.length : Int) ≤ 32) <;> cases w.Del <;> cases decide (0 < (w.Val.length : Int)) <;> rfl
theorem Sq (l : List Af) (hn : l.length ≤ 1000000) (hk : ∀ w ∈ l, w.Key.length ≤ 1000) : ∃ b, Gb l = some b ∧ (b = true ↔ (∀ w ∈ l, swV w = true) ∧ PW (l.map wk)) := by
 have hlen : (List.range l.length).length = l.length := List.length_range
 unfold Gb
 rcases Tz (List.range l.length) (Amg l) (Gk l) (by omega) (fun i i' hx => by
  have hlt := (List.getElem?_eq_some_iff.1 hx).1
  rw [hlen] at hlt
  obtain rfl : i = i' := by rw [List.getElem?_range hlt] at hx; exact Option.some.inj hx
  have hxi := List.getElem?_eq_getElem hlt
  have htl : (if (decide (32 < (l[i].Val.length : Int))) then (some (.ret false)) else (if l[i].Del then (if (decide (0 < (l[i].Val.length : Int))) then (some (.ret false)) else (some (.cont ((i + 1 : Nat) : Int)))) else (some (.cont ((i + 1 : Nat) : Int)))) : Option (LR Int Unit Bool)) = some (if (decide ((l[i].Val.length : Int) ≤ 32) && !(l[i].Del && decide (0 < (l[i].Val.length : Int)))) then .cont ((i + 1 : Nat) : Int) else .ret false) := by
   by_cases h1 : 32 < (l[i].Val.length : Int)
   ·rw [if_pos (decide_eq_true h1), decide_eq_false (show ¬ (l[i].Val.length : Int) ≤ 32 by omega)]; rfl
   rw [if_neg (by rw [decide_eq_true_eq]; exact h1), decide_eq_true (show (l[i].Val.length : Int) ≤ 32 by omega)]
   cases l[i].Del <;> cases decide (0 < (l[i].Val.length : Int)) <;> rfl
  have hbad : Amg l i = (!(decide (1 ≤ (l[i].Key.length : Int)) && (decide ((l[i].Key.length : Int) ≤ 16) && (decide ((l[i].Val.length : Int) ≤ 32) && !(l[i].Del && decide (0 < (l[i].Val.length : Int)))))) || (decide (0 < i) && decide (0 ≤ Dq ((l[i - 1]?.map wk).getD []) l[i].Key))) := by
   unfold Amg
   rw [hxi]
   dsimp only
   rw [Aqn]
  rw [hbad]
  unfold Gk I1
  rw [if_pos (decide_eq_true (by omega)), Bv, hxi, Option.bind_some, Ch (n := (i : Int) + 1) (by omega) (by omega)]
  rw [show ((i : Int) + 1) = ((i + 1 : Nat) : Int) from rfl, htl]
  cases decide (1 ≤ (l[i].Key.length : Int)) with
  | false => rfl
  | true =>
  cases decide ((l[i].Key.length : Int) ≤ 16) with
  | false => rfl
  | true =>
  by_cases h0 : 0 < i
  ·have hg : l[i - 1]? = some (l[i - 1]'(by omega)) := List.getElem?_eq_getElem (by omega)
   rw [if_pos rfl, Option.bind_some, if_neg (by decide), if_pos (decide_eq_true (show (0 : Int) < (i : Int) by omega)), Ch (by omega) (by omega), show (i : Int) - 1 = ((i - 1 : Nat) : Int) by omega, Bv, hg, Option.bind_some, X1 _ _ (by have := hk _ (List.getElem_mem (show i - 1 < l.length by omega)); omega), Option.bind_some, decide_eq_true h0]
   show _ = some (if (!(true && (true && (decide ((l[i].Val.length : Int) ≤ 32) && !(l[i].Del && decide (0 < (l[i].Val.length : Int)))))) || (true && decide (0 ≤ Dq (l[i - 1]'(by omega)).Key l[i].Key))) = true then LR.ret false else LR.cont ((i + 1 : Nat) : Int))
   cases decide (0 ≤ Dq (l[i - 1]'(by omega)).Key l[i].Key) <;> cases (decide ((l[i].Val.length : Int) ≤ 32) && !(l[i].Del && decide (0 < (l[i].Val.length : Int)))) <;> rfl
  ·rw [if_pos rfl, Option.bind_some, if_neg (by decide), if_neg (by rw [decide_eq_true_eq]; omega), decide_eq_false h0]
   cases (decide ((l[i].Val.length : Int) ≤ 32) && !(l[i].Del && decide (0 < (l[i].Val.length : Int)))) <;> rfl) (by
  unfold Gk
  rw [hlen, if_neg (by rw [decide_eq_true_eq]; omega)]) with ⟨⟨i, hi, hp⟩, e⟩ | ⟨hp, e⟩
 ·rw [e]
  refine ⟨false, rfl, fun h => (by cases h), fun h => ?_⟩
  have hlt := List.mem_range.1 hi
  unfold Amg at hp
  rw [List.getElem?_eq_getElem hlt] at hp
  dsimp only at hp
  rw [h.1 _ (List.getElem_mem hlt)] at hp
  by_cases h0 : 0 < i
  ·rw [List.getElem?_eq_getElem (show i - 1 < l.length by omega), decide_eq_true h0] at hp
   have hp : (false || (true && decide (0 ≤ Dq (l[i - 1]'(by omega)).Key l[i].Key))) = true := hp
   have := List.pairwise_iff_getElem.1 h.2 (i - 1) i (by rw [List.length_map]; omega) (by rw [List.length_map]; omega) (by omega)
   rw [List.getElem_map, List.getElem_map] at this
   have this : Dq (l[i - 1]'(by omega)).Key l[i].Key < 0 := this
   simp only [Bool.false_or, Bool.true_and, decide_eq_true_eq] at hp
   omega
  ·rw [decide_eq_false h0] at hp; cases hp
 ·rw [e]
  refine ⟨true, rfl, fun _ => ⟨fun w hw => ?_, V1 _ fun j x y hx hy => ?_⟩, fun _ => rfl⟩
  ·obtain ⟨i, hi, rfl⟩ := List.mem_iff_getElem.1 hw
   have := hp i (List.mem_range.2 hi)
   unfold Amg at this
   rw [List.getElem?_eq_getElem hi] at this
   simp only [Bool.or_eq_false_iff, Bool.not_eq_false'] at this
   exact this.1
  ·have hj := (List.getElem?_eq_some_iff.1 hy).1
   rw [List.length_map] at hj
   have := hp (j + 1) (List.mem_range.2 hj)
   unfold Amg at this
   rw [List.getElem?_eq_getElem hj] at this
   dsimp only at this
   rw [show j + 1 - 1 = j from rfl, ← List.getElem?_map, hx, decide_eq_true (show 0 < j + 1 by omega)] at this
   rw [List.getElem?_map, List.getElem?_eq_getElem hj] at hy
   have hy := Option.some.inj hy
   subst hy
   have this : (!swV l[j + 1] || (true && decide (0 ≤ Dq x l[j + 1].Key))) = false := this
   simp only [Bool.or_eq_false_iff, Bool.true_and, decide_eq_false_iff_not] at this
   show Dq x l[j + 1].Key < 0
   omega
end Go.Proofs.YtphgpfgibpgfiaaGreat.Abs
