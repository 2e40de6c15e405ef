/-
 What is committed was tried: the law.
-/
import Derived.Test.YtbjckaahoacbfaaGreatDoorTX21
set_option linter.unusedVariables false
set_option linter.unusedSimpArgs false
namespace Go.Proofs.YtbjckaahoacbfaaGreatDoor.Abs
open mg (Fdz eR Oi)
theorem Alv {c : Cl} (hl : c.Tried.length ≤ 1000000) {k : Nat} {x : A9} (hx : c.Done[k]? = some x) (hy : ∃ y ∈ c.Tried, y.Token = x.Token ∧ y.Attempt = x.Attempt ∧ y.Regs = x.Regs) : Ej (Ew c (k : Int)) fuel (false, 0) = some true := by
 obtain ⟨v, hv, hr⟩ := Gz (f := Ew c (k : Int)) (P := fun s => ∃ i : Nat, i ≤ c.Tried.length ∧ s.2 = (i : Int) ∧ (s.1 = true ∨ ∀ j y, j < i → c.Tried[j]? = some y → ¬ (y.Token = x.Token ∧ y.Attempt = x.Attempt ∧ y.Regs = x.Regs))) (μ := fun s => c.Tried.length - s.2.toNat) (R := fun b => b = true) (by
  rintro ⟨f, _⟩ ⟨i, hi, rfl, hf⟩
  unfold Ew
  dsimp only
  rcases Nat.lt_or_ge i c.Tried.length with hlt | hge
  ·left
   rw [if_pos (decide_eq_true (by omega)), E3, List.getElem?_eq_getElem hlt, Option.bind_some, E3, hx, Dh (by omega) (by omega)]
   simp only [Option.bind_some]
   have nx : ∀ b : Bool, ((c.Tried[i]).Token = x.Token ∧ (c.Tried[i]).Attempt = x.Attempt ∧ (c.Tried[i]).Regs = x.Regs → b = true) → (f = false) → ∃ s' : Bool × Int, some (LB.cont (b, (i : Int) + 1) : LB (Bool × Int) Bool) = some (.cont s') ∧ (∃ i : Nat, i ≤ c.Tried.length ∧ s'.2 = (i : Int) ∧ (s'.1 = true ∨ ∀ j y, j < i → c.Tried[j]? = some y → ¬ (y.Token = x.Token ∧ y.Attempt = x.Attempt ∧ y.Regs = x.Regs))) ∧ c.Tried.length - s'.2.toNat < c.Tried.length - (i : Int).toNat := fun b hb hff => by
    refine ⟨_, rfl, ⟨i + 1, hlt, rfl, ?_⟩, by dsimp only; omega⟩
    by_cases hM : (c.Tried[i]).Token = x.Token ∧ (c.Tried[i]).Attempt = x.Attempt ∧ (c.Tried[i]).Regs = x.Regs
    ·exact .inl (hb hM)
    ·right
     intro j y hj hjy
     rcases Nat.lt_or_ge j i with h | h
     ·rcases hf with hf | hf
      ·rw [show f = true from hf] at hff; cases hff
      ·exact hf j y h hjy
     ·have : j = i := by omega
      subst this
      rw [List.getElem?_eq_getElem hlt] at hjy
      obtain rfl := Option.some.inj hjy
      exact hM
   cases f with
   | true =>
    rw [if_pos rfl]
    exact ⟨_, rfl, ⟨i + 1, hlt, rfl, .inl rfl⟩, by dsimp only; omega⟩
   | false =>
    rw [if_neg (by decide)]
    by_cases e1 : (c.Tried[i]).Token = x.Token
    ·rw [if_pos (decide_eq_true e1)]
     by_cases e2 : (c.Tried[i]).Attempt = x.Attempt
     ·rw [if_pos (decide_eq_true e2)]
      exact nx _ (fun hM => by rw [hM.2.2]; simp) rfl
     ·rw [if_neg (by rw [decide_eq_true_eq]; exact e2)]
      exact nx _ (fun hM => absurd hM.2.1 e2) rfl
    ·rw [if_neg (by rw [decide_eq_true_eq]; exact e1)]
     exact nx _ (fun hM => absurd hM.1 e1) rfl
  ·right
   rw [if_neg (by rw [decide_eq_true_eq]; omega)]
   refine ⟨_, rfl, ?_⟩
   rcases hf with hf | hf
   ·exact hf
   ·obtain ⟨y, hy, hM⟩ := hy
    obtain ⟨j, hj, rfl⟩ := List.mem_iff_getElem.1 hy
    exact absurd hM (hf j _ (by omega) (List.getElem?_eq_getElem hj))) fuel (false, 0) ⟨0, Nat.zero_le _, rfl, .inr fun j y h => by omega⟩ (Hh (by dsimp only; omega))
 rw [hv, hr]
theorem Aee {c : Cl} (h : TrW c) (hd : c.Done.length ≤ 1000000) (hl : c.Tried.length ≤ 1000000) : Pt (Dy c) fuel 0 = some (.inr ()) := by
 rw [Ala c.Done (fun _ => true) false (Dy c) (by omega) (fun i x hx => by
  have hlt := (List.getElem?_eq_some_iff.1 hx).1
  unfold Dy
  rw [if_pos (decide_eq_true (by omega)), E3, hx, Option.bind_some]
  by_cases h1 : x.Code = 1
  ·obtain ⟨v0, hy⟩ := h.t2 x (List.mem_of_getElem? hx) h1
   rw [decide_eq_true h1, if_neg (by decide), Alv hl hx hy, Option.bind_some]
   unfold H9
   rw [if_neg (by decide), E3, hx, Option.bind_some, Option.bind_some, Dh (by omega) (by omega)]
   by_cases t1 : x.Ts < 1
   ·rw [if_pos (decide_eq_true t1), decide_eq_true (p := x.Ts = 0) (by omega), if_neg (by decide)]
    rfl
   ·rw [if_neg (by rw [decide_eq_true_eq]; exact t1)]
    rfl
  ·rw [decide_eq_false h1, if_pos (by rfl), Dh (by omega) (by omega)]
   rfl) (by
  unfold Dy
  rw [if_neg (by rw [decide_eq_true_eq]; omega)])]
 rw [List.all_eq_true.2 (fun _ _ => rfl)]
 rfl
theorem Aj3 {c : Cl} (h : TrW c) (hl : c.Tried.length ≤ 1000000) {k : Nat} (hk : k < c.Tried.length) : Pt (Dt c (k : Int)) fuel 0 = some (.inr ()) := by
 have hlen : (c.Tried.take k).length = k := by rw [List.length_take]; omega
 rw [Ala (c.Tried.take k) (fun _ => true) false (Dt c (k : Int)) (by omega) (fun i x hx => by
  have hlt := (List.getElem?_eq_some_iff.1 hx).1
  rw [hlen] at hlt
  have hx' : c.Tried[i]? = some x := by rw [List.getElem?_take] at hx; rw [if_pos hlt] at hx; exact hx
  have hxi : c.Tried[i] = x := (List.getElem?_eq_some_iff.1 hx').2
  unfold Dt
  rw [if_pos (decide_eq_true (by omega)), E3, hx', Option.bind_some, E3, List.getElem?_eq_getElem hk, Option.bind_some, Option.bind_some, Option.bind_some, Dh (by omega) (by omega)]
  by_cases he : x.Token = (c.Tried[k]).Token
  ·have hp := List.pairwise_iff_getElem.1 h.t1 i k (by omega) hk hlt (by rw [hxi]; exact he)
   rw [hxi] at hp
   rw [if_pos (decide_eq_true he), if_neg (by rw [decide_eq_true_eq]; omega)]
   rfl
  ·rw [if_neg (by rw [decide_eq_true_eq]; exact he)]
   rfl) (by
  unfold Dt
  rw [hlen, if_neg (by rw [decide_eq_true_eq]; omega)])]
 rw [List.all_eq_true.2 (fun _ _ => rfl)]
 rfl
theorem Ajm {c : Cl} (h : TrW c) (hl : c.Tried.length ≤ 1000000) : Pt (D5 c) fuel 0 = some (.inr ()) := by
 rw [Ala c.Tried (fun _ => true) false (D5 c) (by omega) (fun i x hx => by
  have hlt := (List.getElem?_eq_some_iff.1 hx).1
  unfold D5
  rw [if_pos (decide_eq_true (by omega)), Aj3 h hl hlt, Option.bind_some]
  unfold Ih
  rw [Dh (by omega) (by omega)]
  rfl) (by
  unfold D5
  rw [if_neg (by rw [decide_eq_true_eq]; omega)])]
 rw [List.all_eq_true.2 (fun _ _ => rfl)]
 rfl
theorem Tr.zero : Tr ⟨pl, [], 1, 1, 0, 0, 0, 0, 0, false, Gh, N1, ⟨[], 0⟩, [], [], []⟩ :=
 ⟨⟨List.Pairwise.nil, fun x hx => (by cases hx), fun x hx => (by cases hx)⟩, fun h => ⟨rfl, fun x hx => by cases hx⟩, fun h => (by cases h), fun h => absurd h (by decide), fun _ => rfl⟩
theorem Vr (a0 : List Ja) : Kl a0 = some true := by
 unfold Kl
 obtain ⟨v, hv, hsm⟩ := Al7 a0
 rw [Ank, Option.bind_some, hv, Option.bind_some]
 cases v with
 | false => rfl
 | true =>
  obtain ⟨hx, hs⟩ := hsm rfl
  rw [if_neg (by decide), show Nn = some pl from rfl, Option.bind_some]
  have hnew : La pl = some (⟨pl, [], 1, 1, 0, 0, 0, 0, 0, false, Gh, N1, ⟨[], 0⟩, [], [], []⟩, 0) := by
   unfold La
   rw [Alf, Option.bind_some, if_neg (by decide)]
  rw [hnew, Option.bind_some, if_neg (by decide)]
  obtain ⟨d, hd, l, n, hI, hT⟩ := Gz (f := Gf a0) (P := fun s => ∃ (l : List Int) (i : Nat), i ≤ a0.length ∧ s.1 = (i : Int) ∧ Inv l (i * 2000) s.2 ∧ Tr s.2 ∧ l.Nodup ∧ (∀ x ∈ l, 0 ≤ x ∧ x < (i : Int)) ∧ l.length ≤ i) (μ := fun s => a0.length - s.1.toNat) (R := fun d => ∃ (l : List Int) (n : Nat), Inv l n d ∧ Tr d) (by
   rintro ⟨_, c⟩ ⟨l, i, hi, rfl, hI, hT, hnd, hlb, hn⟩
   have hI : Inv l (i * 2000) c := hI
   have hT : Tr c := hT
   unfold Gf
   dsimp only
   rcases Nat.lt_or_ge i a0.length with hlt | hge
   ·left
    have ha := hs _ (List.getElem_mem hlt)
    rw [if_pos (decide_eq_true (by omega)), E3, List.getElem?_eq_getElem hlt, Option.bind_some]
    generalize ho : ({a0[i] with Task := ⟨(i : Int), (a0[i]).Task.Prog⟩} : Ja) = o
    have hso : Ait o := by subst ho; exact ha
    have hti : o.Task.Token = (i : Int) := by subst ho; rfl
    have htl : o.Task.Token ∉ l := fun hm => by have := hlb _ hm; omega
    obtain ⟨a1, a2, a3⟩ := Ase hI (by omega) (by omega) hso
    have hTr := hT.act hI hnd (by omega) (by omega) hso htl
    rw [a1, Option.bind_some, Dh (by omega) (by omega)]
    have hm : i * 2000 + 2000 = (i + 1) * 2000 := by omega
    rw [hm] at a2 a3
    refine ⟨_, rfl, ?_, by dsimp only; omega⟩
    by_cases hok : o.What ≤ 1 ∧ Vn c ⟨o.Task.Token, oG o.Task.Prog⟩
    ·refine ⟨_, i + 1, hlt, rfl, a2 hok, hTr, ?_, fun x hx => ?_, by simp; omega⟩
     ·rw [List.nodup_append]
      exact ⟨hnd, by simp, fun a ha b hb => by simp at hb; rw [hb]; exact fun he => htl (he ▸ ha)⟩
     ·rcases List.mem_append.1 hx with hx | hx
      ·have := hlb x hx; omega
      ·simp at hx; omega
    ·exact ⟨l, i + 1, hlt, rfl, (a3 hok).1, hTr, hnd, fun x hx => by have := hlb x hx; omega, by omega⟩
   ·right
    rw [if_neg (by rw [decide_eq_true_eq]; omega)]
    exact ⟨_, rfl, l, _, hI, hT⟩) fuel (0, ⟨pl, [], 1, 1, 0, 0, 0, 0, 0, false, Gh, N1, ⟨[], 0⟩, [], [], []⟩) ⟨[], 0, Nat.zero_le _, rfl, Inv.zero, Tr.zero, List.nodup_nil, fun x hx => (by cases hx), Nat.le_refl _⟩ (Hh (by show a0.length - 0 ≤ _; omega))
  rw [hd, Option.bind_some]
  have hdn := hI.dn
  have htr := hI.tr
  have hnb := hI.nb
  unfold Ik
  rw [Aee hT.toTrW (by omega) (by omega)]
  show G5 true d () = some true
  unfold G5
  rw [Ajm hT.toTrW (by omega)]
  rfl
end Go.Proofs.YtbjckaahoacbfaaGreatDoor.Abs
