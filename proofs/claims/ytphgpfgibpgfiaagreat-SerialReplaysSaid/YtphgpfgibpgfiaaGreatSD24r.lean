/-
 What comes ahead of what, as the document says it; few things.
-/
import Derived.Test.YtphgpfgibpgfiaaGreatSB24r
set_option linter.unusedVariables false
set_option linter.unusedSimpArgs false
namespace Go.Proofs.YtphgpfgibpgfiaaGreat.Abs
theorem Al7 : Ov = some true := by decide +kernel
theorem Ad7 {α ρ : Type} (v : ρ) (xs : List α) (p : α → Bool) (f : Int → Option (LR Int Unit ρ)) (hl : xs.length ≤ 1000000000000000000)
  (h : ∀ (i : Nat) x, xs[i]? = some x → f (i : Int) = some (if p x then .ret v else .cont ((i + 1 : Nat) : Int))) (hend : f (xs.length : Int) = some (.brk ())) :
  (xs.any p = true ∧ Fc f fuel 0 = some (.inl v)) ∨ (xs.any p = false ∧ Fc f fuel 0 = some (.inr ())) := by
 obtain ⟨b, hb, hr⟩ := H4 (f := f) (P := fun s => ∃ i : Nat, i ≤ xs.length ∧ s = (i : Int) ∧ ∀ j x, j < i → xs[j]? = some x → p x = false) (μ := fun s => xs.length - s.toNat)
  (R := fun r => (r = .inl v ∧ ∃ x ∈ xs, p x = true) ∨ (r = .inr () ∧ ∀ x ∈ xs, p x = false)) (by
   rintro _ ⟨i, hi, rfl, hp⟩
   rcases Nat.lt_or_ge i xs.length with hlt | hge
   ·have hx := List.getElem?_eq_getElem hlt
    have hf := h i _ hx
    cases hpx : p xs[i] with
    | true =>
     rw [hpx, if_pos rfl] at hf
     exact .inr (.inr ⟨v, hf, .inl ⟨rfl, _, List.getElem_mem hlt, hpx⟩⟩)
    | false =>
     rw [hpx, if_neg (by decide)] at hf
     refine .inl ⟨_, hf, ⟨i + 1, hlt, rfl, fun j x hj hx' => ?_⟩, by simp only [Int.toNat_natCast]; omega⟩
     rcases Nat.lt_succ_iff_lt_or_eq.1 hj with h' | rfl
     ·exact hp j x h' hx'
     ·rw [hx] at hx'; cases hx'; exact hpx
   ·have e : i = xs.length := by omega
    subst e
    refine .inr (.inl ⟨(), hend, .inr ⟨rfl, fun x hx => ?_⟩⟩)
    obtain ⟨j, hj⟩ := List.mem_iff_getElem?.1 hx
    exact hp j x (List.getElem?_eq_some_iff.1 hj).1 hj) fuel 0 ⟨0, Nat.zero_le _, rfl, fun j x hj => absurd hj (Nat.not_lt_zero _)⟩ (Dh (by show xs.length - 0 ≤ _; omega))
 rcases hr with ⟨rfl, he⟩ | ⟨rfl, hp⟩
 ·exact .inl ⟨List.any_eq_true.2 he, hb⟩
 ·exact .inr ⟨List.any_eq_false.2 fun x hx => by rw [hp x hx]; decide, hb⟩
theorem Tz {α : Type} (xs : List α) (p : α → Bool) (f : Int → Option (LR Int Unit Bool)) (hl : xs.length ≤ 1000000000000000000)
  (h : ∀ (i : Nat) x, xs[i]? = some x → f (i : Int) = some (if p x then .ret false else .cont ((i + 1 : Nat) : Int))) (hend : f (xs.length : Int) = some (.brk ())) :
  ((∃ x ∈ xs, p x = true) ∧ Fc f fuel 0 = some (.inl false)) ∨ ((∀ x ∈ xs, p x = false) ∧ Fc f fuel 0 = some (.inr ())) := by
 rcases Ad7 false xs p f hl h hend with ⟨h1, h2⟩ | ⟨h1, h2⟩
 ·exact .inl ⟨List.any_eq_true.1 h1, h2⟩
 ·exact .inr ⟨fun x hx => by have := List.any_eq_false.1 h1 x hx; simpa using this, h2⟩
theorem Akq (a b : List Af) (ha : a.length ≤ 1000) (hb : b.length ≤ 1000) : L0 a b = some (a.any fun w => b.any fun v => w.Key == v.Key) := by
 unfold L0
 rcases Ad7 true a (fun w => b.any fun v => w.Key == v.Key) (Il a b) (by omega) (fun i x hx => by
  have hlt := (List.getElem?_eq_some_iff.1 hx).1
  unfold Il
  rw [if_pos (decide_eq_true (by omega))]
  rcases Ad7 true b (fun v => x.Key == v.Key) (Iq a b (i : Int)) (by omega) (fun j y hy => by
   have hlt' := (List.getElem?_eq_some_iff.1 hy).1
   unfold Iq
   rw [if_pos (decide_eq_true (by omega)), Bv, hx, Option.bind_some, Bv, hy, Option.bind_some, Ch (by omega) (by omega)]
   cases (x.Key == y.Key) <;> rfl) (by
   unfold Iq
   rw [if_neg (by rw [decide_eq_true_eq]; omega)]) with ⟨h1, e⟩ | ⟨h1, e⟩
  ·rw [e, h1]; rfl
  ·rw [e, h1]
   show Kf (i : Int) () = _
   unfold Kf
   rw [Ch (by omega) (by omega)]; rfl) (by
  unfold Il
  rw [if_neg (by rw [decide_eq_true_eq]; omega)]) with ⟨h1, e⟩ | ⟨h1, e⟩
 ·rw [e, h1]; rfl
 ·rw [e, h1]; rfl
def toS (x : Ca) : As := ⟨x.Token, x.Snap, x.Ts, x.Reads, x.Writes⟩
theorem Agi (x : Ca) (l : List Af) (hx1 : x.Reads.length ≤ 1000) (hl : l.length ≤ 1000) (hk : ∀ w ∈ l, w.Key.length ≤ 1000) : E3 x l = some (x.Reads.any fun g => l.any fun w => Oq g w.Key) := by
 unfold E3
 rcases Ad7 true x.Reads (fun g => l.any fun w => Oq g w.Key) (Iy x l) (by omega) (fun i g hg => by
  have hlt := (List.getElem?_eq_some_iff.1 hg).1
  unfold Iy
  rw [if_pos (decide_eq_true (by omega))]
  rcases Ad7 true l (fun w => Oq g w.Key) (Ix x l (i : Int)) (by omega) (fun j y hy => by
   have hlt' := (List.getElem?_eq_some_iff.1 hy).1
   unfold Ix
   rw [if_pos (decide_eq_true (by omega)), Bv, hg, Option.bind_some, Bv, hy, Option.bind_some, Afo _ _ (by have := hk y (List.mem_of_getElem? hy); omega), Option.bind_some, Ch (by omega) (by omega)]
   cases (Oq g y.Key) <;> rfl) (by
   unfold Ix
   rw [if_neg (by rw [decide_eq_true_eq]; omega)]) with ⟨h1, e⟩ | ⟨h1, e⟩
  ·rw [e, h1]; rfl
  ·rw [e, h1]
   show J9 (i : Int) () = _
   unfold J9
   rw [Ch (by omega) (by omega)]; rfl) (by
  unfold Iy
  rw [if_neg (by rw [decide_eq_true_eq]; omega)]) with ⟨h1, e⟩ | ⟨h1, e⟩
 ·rw [e, h1]; rfl
 ·rw [e, h1]; rfl
theorem Ac9 {α β : Type} (xs : List α) (ys : List β) (p : α → β → Bool) : (xs.any fun x => ys.any fun y => p x y) = ys.any fun y => xs.any fun x => p x y := by
 rw [Bool.eq_iff_iff]
 simp only [List.any_eq_true]
 constructor
 ·rintro ⟨x, hx, y, hy, h⟩; exact ⟨y, hy, x, hx, h⟩
 ·rintro ⟨y, hy, x, hx, h⟩; exact ⟨x, hx, y, hy, h⟩
structure Aha (a : Ca) : Prop where
 r : a.Reads.length ≤ 20
 w : a.Writes.length ≤ 20
 k : ∀ w ∈ a.Writes, w.Key.length ≤ 50
theorem Ai5 {a b : Ca} (ha : Aha a) (hb : Aha b) : Kx a b = some (Zy (toS a) (toS b)) := by
 have a1 := ha.r
 have a2 := ha.w
 have b1 := hb.r
 have b2 := hb.w
 have h1 : L0 a.Writes b.Writes = some (Ae7 (toS a) (toS b)) := Akq _ _ (by omega) (by omega)
 have h2 : E3 b a.Writes = some (Yd (toS b) (toS a)) := by
  rw [Agi _ _ (by omega) (by omega) (fun w hw => Nat.le_trans (ha.k w hw) (by decide)), Ac9]; rfl
 have h3 : E3 a b.Writes = some (Yd (toS a) (toS b)) := by
  rw [Agi _ _ (by omega) (by omega) (fun w hw => Nat.le_trans (hb.k w hw) (by decide)), Ac9]; rfl
 unfold Kx Zy
 simp only [h1, h2, h3, Option.bind_some]
 generalize Ae7 (toS a) (toS b) = x
 generalize Yd (toS b) (toS a) = y
 generalize Yd (toS a) (toS b) = z
 show _ = some (!decide (a.Token = b.Token) && ((decide (a.Ts < b.Ts) && x) || (decide (a.Ts ≤ b.Snap) && y) || (decide (a.Snap < b.Ts) && z)))
 generalize decide (a.Token = b.Token) = p
 generalize decide (a.Ts < b.Ts) = q
 generalize decide (a.Ts ≤ b.Snap) = s
 generalize decide (a.Snap < b.Ts) = u
 cases p <;> cases q <;> cases s <;> cases u <;> cases x <;> cases y <;> cases z <;> rfl
theorem Aju (l : List Af) : ∃ b, Gd l = some b ∧ (b = true → ∀ w ∈ l, w.Key.length ≤ 50) := by
 unfold Gd
 by_cases h : 140 < (l.length : Int)
 ·rw [if_pos (decide_eq_true h)]; exact ⟨false, rfl, fun h => (by cases h)⟩
 rw [if_neg (by rw [decide_eq_true_eq]; exact h)]
 rcases Tz l (fun w => decide (50 < (w.Key.length : Int)) || decide (100 < (w.Val.length : Int))) (E2 l) (by omega) (fun i x hx => by
  have hlt := (List.getElem?_eq_some_iff.1 hx).1
  unfold E2
  rw [if_pos (decide_eq_true (by omega)), Bv, hx, Option.bind_some, Option.bind_some]
  by_cases h1 : 50 < (x.Key.length : Int)
  ·rw [if_pos (decide_eq_true h1), decide_eq_true h1]; rfl
  rw [if_neg (by rw [decide_eq_true_eq]; exact h1), decide_eq_false h1, Bool.false_or]
  by_cases h2 : 100 < (x.Val.length : Int)
  ·rw [if_pos (decide_eq_true h2), decide_eq_true h2]; rfl
  ·rw [if_neg (by rw [decide_eq_true_eq]; exact h2), decide_eq_false h2, if_neg (by decide), Ch (by omega) (by omega)]; rfl) (by
  unfold E2
  rw [if_neg (by rw [decide_eq_true_eq]; omega)]) with ⟨_, e⟩ | ⟨hp, e⟩
 ·rw [e]; exact ⟨false, rfl, fun h => (by cases h)⟩
 ·rw [e]
  refine ⟨true, rfl, fun _ w hw => ?_⟩
  have := hp w hw
  simp only [Bool.or_eq_false_iff, decide_eq_false_iff_not] at this
  omega
theorem Air (l : List Ca) (i : Nat) {x : Ca} (hx : l[i]? = some x) (hl : x.Reads.length ≤ 1000) : (Fc (Ha l (i : Int)) fuel 0 = some (.inl false) ∧ (x.Reads.any fun g => !(De g).getD false) = true) ∨ (Fc (Ha l (i : Int)) fuel 0 = some (.inr ()) ∧ (x.Reads.any fun g => !(De g).getD false) = false) := by
 rcases Tz x.Reads (fun g => !(De g).getD false) (Ha l (i : Int)) (by omega) (fun j g hg => by
  have hlt := (List.getElem?_eq_some_iff.1 hg).1
  unfold Ha
  rw [Bv, hx, Option.bind_some, if_pos (decide_eq_true (by omega)), Option.bind_some, Bv, hg, Option.bind_some]
  obtain ⟨v, hv, _⟩ := Ak7 g
  rw [hv, Option.bind_some, Ch (by omega) (by omega)]
  cases v <;> rfl) (by
  unfold Ha
  rw [Bv, hx, Option.bind_some, if_neg (by rw [decide_eq_true_eq]; omega)]) with ⟨⟨g, hg, hp⟩, e⟩ | ⟨hp, e⟩
 ·exact .inl ⟨e, List.any_eq_true.2 ⟨g, hg, hp⟩⟩
 ·exact .inr ⟨e, List.any_eq_false.2 fun g hg => by rw [hp g hg]; decide⟩
def Aot (x : Ca) : Bool := !decide (20 < (x.Reads.length : Int)) && ((Gd x.Writes).getD false && (!decide (20 < (x.Writes.length : Int)) && !(x.Reads.any fun g => !(De g).getD false)))
theorem Apf (l : List Ca) : ∃ b, Pk l = some b ∧ (b = true → l.length ≤ 70 ∧ ∀ x ∈ l, Aha x) := by
 unfold Pk
 by_cases h : 70 < (l.length : Int)
 ·rw [if_pos (decide_eq_true h)]; exact ⟨false, rfl, fun h => (by cases h)⟩
 rw [if_neg (by rw [decide_eq_true_eq]; exact h)]
 rcases Tz l (fun x => !Aot x) (Kr l) (by omega) (fun i x hx => by
  have hlt := (List.getElem?_eq_some_iff.1 hx).1
  unfold Kr Aot
  rw [if_pos (decide_eq_true (by omega)), Bv, hx, Option.bind_some]
  by_cases h1 : 20 < (x.Reads.length : Int)
  ·rw [if_pos (decide_eq_true h1), decide_eq_true h1]; rfl
  rw [if_neg (by rw [decide_eq_true_eq]; exact h1), decide_eq_false h1, Option.bind_some]
  obtain ⟨b, hb, -⟩ := Aju x.Writes
  rw [hb, Option.bind_some]
  cases b with
  | false => rfl
  | true =>
  rw [if_neg (by decide), Option.bind_some]
  by_cases h2 : 20 < (x.Writes.length : Int)
  ·rw [if_pos (decide_eq_true h2), decide_eq_true h2]; rfl
  rw [if_neg (by rw [decide_eq_true_eq]; exact h2), decide_eq_false h2]
  unfold Nq
  rcases Air l i hx (by omega) with ⟨e, ha⟩ | ⟨e, ha⟩
  ·rw [e, ha]; rfl
  ·rw [e, ha]
   show Mf (i : Int) () = _
   unfold Mf
   rw [Ch (by omega) (by omega)]; rfl) (by
  unfold Kr
  rw [if_neg (by rw [decide_eq_true_eq]; omega)]) with ⟨_, e⟩ | ⟨hp, e⟩
 ·rw [e]; exact ⟨false, rfl, fun h => (by cases h)⟩
 ·rw [e]
  refine ⟨true, rfl, fun _ => ⟨by omega, fun x hx => ?_⟩⟩
  have := hp x hx
  unfold Aot at this
  obtain ⟨b, hb, hb2⟩ := Aju x.Writes
  rw [hb] at this
  simp only [Bool.not_eq_false', Bool.and_eq_true, Bool.not_eq_true', decide_eq_false_iff_not] at this
  exact ⟨by omega, by omega, hb2 this.2.1⟩
end Go.Proofs.YtphgpfgibpgfiaaGreat.Abs
