/-
 Which transactions may be, and their order.
-/
import Derived.Test.YtphgpfgibpgfiaaGreatSD24r
set_option linter.unusedVariables false
set_option linter.unusedSimpArgs false
namespace Go.Proofs.YtphgpfgibpgfiaaGreat.Abs
theorem Akm (w : Af) : ∃ b, Ds w = some b := by
 unfold Ds Dm
 repeat' (first | exact ⟨_, rfl⟩ | split | dsimp only [Option.bind_some])
theorem Aey (w : Ar) : ∃ b, Cd w = some b := by
 unfold Cd
 repeat' (first | exact ⟨_, rfl⟩ | split | dsimp only [Option.bind_some])
structure Ali (a : As) : Prop where
 r : a.Reads.length ≤ 20
 w : a.Writes.length ≤ 20
theorem Ali.l {a : As} (h : Ali a) : Lim a := ⟨by have := h.r; omega, by have := h.w; omega⟩
theorem Acl {x : As} (h : Ali x) : ∃ b, Cq x = some b := by
 have hr := h.r
 have hw := h.w
 have k2 : ∀ ks : List (List UInt8), ks.length ≤ 1000000000000000000 → ∃ b, Du x ks () = some b := fun ks hk => by
  obtain ⟨v, hv⟩ := V9 ks hk
  unfold Du
  rw [hv]
  repeat' (first | exact ⟨_, rfl⟩ | split | dsimp only [Option.bind_some])
 have k1 : ∀ ks : List (List UInt8), ks.length ≤ 1000000000000000000 → ∃ b, Dr x ks = some b := fun ks hk => by
  unfold Dr
  rcases Tz x.Reads (fun g => !(Cd g).getD false) (Cp x) (by omega) (fun i g hg => by
   have hlt := (List.getElem?_eq_some_iff.1 hg).1
   unfold Cp
   obtain ⟨b, hb⟩ := Aey g
   rw [if_pos (decide_eq_true (by omega)), Bv, hg, Option.bind_some, hb, Option.bind_some, Ch (by omega) (by omega)]
   cases b <;> rfl) (by
   unfold Cp
   rw [if_neg (by rw [decide_eq_true_eq]; omega)]) with ⟨_, e⟩ | ⟨_, e⟩
  ·rw [e]; exact ⟨_, rfl⟩
  ·rw [e]; exact k2 ks hk
 unfold Cq
 obtain ⟨v, hv, hr'⟩ := H4 (f := Dt x) (P := fun s => ∃ j : Nat, j ≤ x.Writes.length ∧ s.1 = (j : Int) ∧ s.2.length = j) (μ := fun s => x.Writes.length - s.1.toNat)
  (R := fun v => (∃ b, v = .inl b) ∨ ∃ ks, v = .inr ks ∧ ks.length ≤ 1000000000000000000) (by
   rintro ⟨_, ks⟩ ⟨j, hj, rfl, hk⟩
   dsimp only at hk
   unfold Dt
   dsimp only
   rcases Nat.lt_or_ge j x.Writes.length with hlt | hge
   ·obtain ⟨b, hb⟩ := Akm x.Writes[j]
    rw [if_pos (decide_eq_true (by omega)), Bv, List.getElem?_eq_getElem hlt, Option.bind_some, hb, Option.bind_some]
    cases b with
    | false => exact .inr (.inr ⟨false, rfl, .inl ⟨_, rfl⟩⟩)
    | true =>
     by_cases hfit : (ks.length + [x.Writes[j].Key].length) * 24 ≤ 140737488355328
     ·left
      rw [if_neg (by decide), if_pos hfit, Ch (by omega) (by omega)]
      exact ⟨_, rfl, ⟨j + 1, hlt, rfl, by rw [List.length_append, hk]; rfl⟩, by simp only [Int.toNat_natCast]; omega⟩
     ·exact absurd (show (ks.length + 1) * 24 ≤ 140737488355328 by omega) hfit
   ·right; left
    rw [if_neg (by rw [decide_eq_true_eq]; omega)]
    exact ⟨_, rfl, .inr ⟨ks, rfl, by omega⟩⟩) fuel (0, []) ⟨0, Nat.zero_le _, rfl, rfl⟩ (Dh (by show x.Writes.length - 0 ≤ _; omega))
 rw [hv]
 rcases hr' with ⟨b, rfl⟩ | ⟨ks, rfl, hk⟩
 ·exact ⟨_, rfl⟩
 ·exact k1 ks hk
def S8 (a b : As) : Prop := a.Token = b.Token ∨ a.Ts = b.Ts
instance (a b : As) : Decidable (S8 a b) := inferInstanceAs (Decidable (_ ∨ _))
theorem And (l : List As) (x : As) (hl : l.length ≤ 1000000000000000000) : J2 l x.Token x.Snap x.Ts x.Reads x.Writes = some (l.any fun y => decide (S8 y x)) := by
 unfold J2 Mh
 obtain ⟨n, hn, hd⟩ := X5 l (fun y => decide (S8 y x)) (C7 l x.Token x.Snap x.Ts x.Reads x.Writes) hl (fun i y hy => by
  have hlt := (List.getElem?_eq_some_iff.1 hy).1
  unfold C7 Jy S8
  rw [if_pos (decide_eq_true (by omega)), Bv, hy, Option.bind_some, Ch (by omega) (by omega)]
  by_cases h1 : y.Token = x.Token
  ·simp [h1]
  ·by_cases h2 : y.Ts = x.Ts <;> simp [h1, h2]) (by
  unfold C7
  rw [if_neg (by rw [decide_eq_true_eq]; omega)])
 have e : G3 l x.Token x.Snap x.Ts x.Reads x.Writes = some n := hn
 rw [e, Option.bind_some, Option.bind_some, hd]
def Ano (l : List As) : Prop := (∀ x ∈ l, Cq x = some true) ∧ l.Pairwise (fun a b => ¬ S8 a b) ∧ l.length ≤ 64
def Am4 (l : List As) (i : Nat) : Bool := match l[i]? with | some x => !(Cq x).getD false || (l.take i).any fun y => decide (S8 y x) | none => false
theorem Q0 {l : List As} {i : Nat} (h : i < l.length) : Am4 l i = (!(Cq l[i]).getD false || (l.take i).any fun y => decide (S8 y l[i])) := by
 unfold Am4
 rw [List.getElem?_eq_getElem h]
theorem Amq {l : List As} (hL : ∀ x ∈ l, Ali x) (hl : l.length ≤ 1000) : ∃ b, Ib l = some b ∧ (b = true ↔ Ano l) := by
 have hlen : (List.range l.length).length = l.length := List.length_range
 unfold Ib
 rcases Tz (List.range l.length) (Am4 l) (Ft l) (by omega) (fun i i' hx => by
  have hlt := (List.getElem?_eq_some_iff.1 hx).1
  rw [hlen] at hlt
  obtain rfl : i = i' := by rw [List.getElem?_range hlt] at hx; exact Option.some.inj hx
  have hxi := List.getElem?_eq_getElem hlt
  unfold Ft
  obtain ⟨b, hb⟩ := Acl (hL _ (List.getElem_mem hlt))
  rw [if_pos (decide_eq_true (by omega)), Bv, hxi, Option.bind_some]
  rw [Q0 hlt, hb, Option.bind_some]
  cases b with
  | false => rfl
  | true =>
   rw [if_neg (by decide), Se (by omega) (by omega) (by omega), Option.bind_some]
   have e : ((l.drop (0 : Int).toNat).take ((i : Int).toNat - (0 : Int).toNat)) = l.take i := by simp
   rw [e, And _ _ (by rw [List.length_take]; omega), Option.bind_some, Ch (by omega) (by omega)]
   cases ((l.take i).any fun y => decide (S8 y l[i])) <;> rfl) (by
  unfold Ft
  rw [hlen, if_neg (by rw [decide_eq_true_eq]; omega)]) with ⟨⟨i, hi, hp⟩, e⟩ | ⟨hp, e⟩
 ·rw [e]
  refine ⟨false, rfl, fun h => (by cases h), fun ⟨h1, h2, _⟩ => ?_⟩
  exfalso
  have hlt := List.mem_range.1 hi
  rw [Q0 hlt] at hp
  rw [h1 _ (List.getElem_mem hlt)] at hp
  obtain ⟨y, hy, hc⟩ := List.any_eq_true.1 (show ((l.take i).any fun y => decide (S8 y l[i])) = true from hp)
  obtain ⟨j, hj, rfl⟩ := List.mem_iff_getElem.1 hy
  rw [List.length_take] at hj
  rw [List.getElem_take] at hc
  exact (List.pairwise_iff_getElem.1 h2) j i (by omega) hlt (by omega) (of_decide_eq_true hc)
 ·rw [e]
  refine ⟨_, rfl, fun h => ⟨fun x hx => ?_, List.pairwise_iff_getElem.2 fun i j hi hj hij hc => ?_, by have := of_decide_eq_true h; omega⟩, fun ⟨_, _, h⟩ => decide_eq_true (by omega)⟩
  ·obtain ⟨i, hi, rfl⟩ := List.mem_iff_getElem.1 hx
   have := hp i (List.mem_range.2 hi)
   rw [Q0 hi] at this
   obtain ⟨b, hb⟩ := Acl (hL _ (List.getElem_mem hi))
   rw [hb] at this ⊢
   cases b with
   | true => rfl
   | false => cases this
  ·have := hp j (List.mem_range.2 hj)
   rw [Q0 hj] at this
   have hany : ((l.take j).any fun y => decide (S8 y l[j])) = true := List.any_eq_true.2 ⟨l[i], List.mem_take_iff_getElem.2 ⟨i, by omega, rfl⟩, decide_eq_true hc⟩
   rw [hany, Bool.or_true] at this
   cases this
end Go.Proofs.YtphgpfgibpgfiaaGreat.Abs
