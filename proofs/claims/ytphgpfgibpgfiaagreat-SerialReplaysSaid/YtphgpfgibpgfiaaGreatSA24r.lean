/-
 What comes ahead of what.
-/
import Derived.Test.YtphgpfgibpgfiaaGreatSP24r
set_option linter.unusedVariables false
set_option linter.unusedSimpArgs false
namespace Go.Proofs.YtphgpfgibpgfiaaGreat.Abs
theorem Acj {α : Type} (xs : List α) (p : α → Bool) (f : Int → Option (LR Int Unit Int)) (hl : xs.length ≤ 1000000000000000000)
  (h : ∀ (i : Nat) x, xs[i]? = some x → f (i : Int) = some (if p x then .ret (i : Int) else .cont ((i + 1 : Nat) : Int))) (hend : f (xs.length : Int) = some (.brk ())) :
  (∃ i : Nat, i < xs.length ∧ Fc f fuel 0 = some (.inl (i : Int)) ∧ (∃ x, xs[i]? = some x ∧ p x = true) ∧ ∀ j x, j < i → xs[j]? = some x → p x = false) ∨ ((∀ x ∈ xs, p x = false) ∧ Fc f fuel 0 = some (.inr ())) := by
 obtain ⟨b, hb, hr⟩ := H4 (f := f) (P := fun s => ∃ i : Nat, i ≤ xs.length ∧ s = (i : Int) ∧ ∀ j x, j < i → xs[j]? = some x → p x = false) (μ := fun s => xs.length - s.toNat)
  (R := fun r => (∃ i : Nat, i < xs.length ∧ r = .inl (i : Int) ∧ (∃ x, xs[i]? = some x ∧ p x = true) ∧ ∀ j x, j < i → xs[j]? = some x → p x = false) ∨ (r = .inr () ∧ ∀ x ∈ xs, p x = false)) (by
   rintro _ ⟨i, hi, rfl, hp⟩
   rcases Nat.lt_or_ge i xs.length with hlt | hge
   ·have hx := List.getElem?_eq_getElem hlt
    have hf := h i _ hx
    cases hpx : p xs[i] with
    | true =>
     rw [hpx, if_pos rfl] at hf
     exact .inr (.inr ⟨_, hf, .inl ⟨i, hlt, rfl, ⟨_, hx, hpx⟩, hp⟩⟩)
    | false =>
     rw [hpx, if_neg (by decide)] at hf
     refine .inl ⟨_, hf, ⟨i + 1, hlt, rfl, fun j x hj hx' => ?_⟩, by simp only [Int.toNat_natCast]; omega⟩
     rcases Nat.lt_succ_iff_lt_or_eq.1 hj with h' | rfl
     ·exact hp j x h' hx'
     ·rw [hx] at hx'; cases hx'; exact hpx
   ·have e : i = xs.length := by omega
    subst e
    refine .inr (.inl ⟨(), hend, .inr ⟨rfl, fun x hx => ?_⟩⟩)
    obtain ⟨j, hj⟩ := List.mem_iff_getElem?.1 hx
    exact hp j x (List.getElem?_eq_some_iff.1 hj).1 hj) fuel 0 ⟨0, Nat.zero_le _, rfl, fun j x hj => absurd hj (Nat.not_lt_zero _)⟩ (Dh (by show xs.length - 0 ≤ _; omega))
 rcases hr with ⟨i, h1, rfl, h2, h3⟩ | ⟨rfl, hp⟩
 ·exact .inl ⟨i, h1, hb, h2, h3⟩
 ·exact .inr ⟨hp, hb⟩
theorem X5 {α : Type} (xs : List α) (p : α → Bool) (f : Int → Option (LR Int Unit Int)) (hl : xs.length ≤ 1000000000000000000)
  (h : ∀ (i : Nat) x, xs[i]? = some x → f (i : Int) = some (if p x then .ret (i : Int) else .cont ((i + 1 : Nat) : Int))) (hend : f (xs.length : Int) = some (.brk ())) :
  ∃ n : Int, ((Fc f fuel 0).bind fun x => match x with | .inl r => some r | .inr _ => some (-1)) = some n ∧ decide (0 ≤ n) = xs.any p := by
 rcases Acj xs p f hl h hend with ⟨i, hi, e, ⟨x, hx, hp⟩, _⟩ | ⟨hp, e⟩
 ·refine ⟨(i : Int), by rw [e]; rfl, ?_⟩
  rw [decide_eq_true (by omega)]
  exact (List.any_eq_true.2 ⟨x, List.mem_of_getElem? hx, hp⟩).symm
 ·refine ⟨-1, by rw [e]; rfl, ?_⟩
  rw [decide_eq_false (by decide)]
  exact (List.any_eq_false.2 fun x hx => by rw [hp x hx]; decide).symm
def Ae7 (a b : As) : Bool := a.Writes.any fun w => b.Writes.any fun v => w.Key == v.Key
def Yd (r w : As) : Bool := w.Writes.any fun w => r.Reads.any fun g => Oq g w.Key
theorem Apb (a b : List UInt8) : Gl a b = some (a == b) := by
 unfold Gl
 rfl
theorem Ai7 (l : List Af) (k v : List UInt8) (d : Bool) (hl : l.length ≤ 1000000000000000000) : Jj l k v d = some (l.any fun w => k == w.Key) := by
 unfold Jj Lm
 obtain ⟨n, hn, hd⟩ := X5 l (fun w => k == w.Key) (Cy l k v d) hl (fun i x hx => by
  have hlt := (List.getElem?_eq_some_iff.1 hx).1
  unfold Cy Fb
  rw [if_pos (decide_eq_true (by omega)), Bv, hx, Option.bind_some, Apb, Option.bind_some, Option.bind_some, Ch (by omega) (by omega)]
  cases (k == x.Key) <;> rfl) (by
  unfold Cy
  rw [if_neg (by rw [decide_eq_true_eq]; omega)])
 have e : F6 l k v d = some n := hn
 rw [e, Option.bind_some, Option.bind_some, hd]
theorem Anf (a b : As) (ha : a.Writes.length ≤ 1000000000000000000) (hb : b.Writes.length ≤ 1000000000000000000) : F3 a b = some (Ae7 a b) := by
 unfold F3 L6 Ma
 obtain ⟨n, hn, hd⟩ := X5 a.Writes (fun w => b.Writes.any fun v => w.Key == v.Key) (Db a.Writes b.Token b.Snap b.Ts b.Reads b.Writes) ha (fun i x hx => by
  have hlt := (List.getElem?_eq_some_iff.1 hx).1
  unfold Db F8
  rw [if_pos (decide_eq_true (by omega)), Bv, hx, Option.bind_some, Ai7 _ _ _ _ hb, Option.bind_some, Option.bind_some, Ch (by omega) (by omega)]
  cases (b.Writes.any fun w => x.Key == w.Key) <;> rfl) (by
  unfold Db
  rw [if_neg (by rw [decide_eq_true_eq]; omega)])
 have e : Gx a.Writes b.Token b.Snap b.Ts b.Reads b.Writes = some n := hn
 rw [e, Option.bind_some, Option.bind_some, Option.bind_some, hd]
 rfl
theorem An5 (l : List Ar) (k v : List UInt8) (d : Bool) (hl : l.length ≤ 1000000000000000000) : J1 l k v d = some (l.any fun g => Oq g k) := by
 unfold J1 Mj
 obtain ⟨n, hn, hd⟩ := X5 l (fun g => Oq g k) (Da l k v d) hl (fun i x hx => by
  have hlt := (List.getElem?_eq_some_iff.1 hx).1
  unfold Da F9
  rw [if_pos (decide_eq_true (by omega)), Bv, hx, Option.bind_some, Ak0, Option.bind_some, Option.bind_some, Ch (by omega) (by omega)]
  cases Oq x k <;> rfl) (by
  unfold Da
  rw [if_neg (by rw [decide_eq_true_eq]; omega)])
 have e : G0 l k v d = some n := hn
 rw [e, Option.bind_some, Option.bind_some, hd]
theorem Ajh (r w : As) (hr : r.Reads.length ≤ 1000000000000000000) (hw : w.Writes.length ≤ 1000000000000000000) : Cu r w = some (Yd r w) := by
 unfold Cu Lg Lh
 obtain ⟨n, hn, hd⟩ := X5 w.Writes (fun w => r.Reads.any fun g => Oq g w.Key) (Cx w.Writes r.Token r.Snap r.Ts r.Reads r.Writes) hw (fun i x hx => by
  have hlt := (List.getElem?_eq_some_iff.1 hx).1
  unfold Cx Hn
  rw [if_pos (decide_eq_true (by omega)), Bv, hx, Option.bind_some, An5 _ _ _ _ hr, Option.bind_some, Option.bind_some, Ch (by omega) (by omega)]
  cases (r.Reads.any fun g => Oq g x.Key) <;> rfl) (by
  unfold Cx
  rw [if_neg (by rw [decide_eq_true_eq]; omega)])
 have e : F7 w.Writes r.Token r.Snap r.Ts r.Reads r.Writes = some n := hn
 rw [e, Option.bind_some, Option.bind_some, Option.bind_some, hd]
 rfl
def Zy (a b : As) : Bool := !decide (a.Token = b.Token) && ((decide (a.Ts < b.Ts) && Ae7 a b) || (decide (a.Ts ≤ b.Snap) && Yd b a) || (decide (a.Snap < b.Ts) && Yd a b))
structure Lim (a : As) : Prop where
 r : a.Reads.length ≤ 1000000000000000000
 w : a.Writes.length ≤ 1000000000000000000
theorem Alf {a b : As} (ha : Lim a) (hb : Lim b) : F0 a b = some (Zy a b) := by
 have h1 := Anf a b ha.w hb.w
 have h2 := Ajh b a hb.r ha.w
 have h3 := Ajh a b ha.r hb.w
 unfold F0 Zy
 simp only [h1, h2, h3, Option.bind_some]
 generalize Ae7 a b = x
 generalize Yd b a = y
 generalize Yd a b = z
 generalize decide (a.Token = b.Token) = p
 generalize decide (a.Ts < b.Ts) = q
 generalize decide (a.Ts ≤ b.Snap) = s
 generalize decide (a.Snap < b.Ts) = u
 cases p <;> cases q <;> cases s <;> cases u <;> cases x <;> cases y <;> cases z <;> rfl
end Go.Proofs.YtphgpfgibpgfiaaGreat.Abs
