/-
 A payload, bytes, time: what a client makes of them.
-/
import Derived.Test.YtbjckaahoacbfaaGreatDoorTN21
set_option linter.unusedVariables false
set_option linter.unusedSimpArgs false
namespace Go.Proofs.YtbjckaahoacbfaaGreatDoor.Abs
open mg (Fdz eR Oi)
def Ajd (b : List UInt8) : Bf × Int := (Fo b).getD (mg.zrep, 1)
theorem Anv (b : List UInt8) (hb : b.length ≤ 1000000) : Fo b = some (Ajd b) ∧ ((Ajd b).2 = 0 → mg.saneRep (Ajd b).1 = true) := by
 obtain ⟨g, e, h, h1, -⟩ := mg.readRep_any b (by omega)
 unfold Ajd
 rw [h]
 exact ⟨rfl, fun he => (h1 he).1⟩
theorem Ajg {r : Bf} (h : mg.saneRep r = true) : r.List.length ≤ 8 := (mg.saneRep_V h).2
def onV (c : Cl) (r : Bf) : Cl := if c.Phase = 2 then Tj c r else match c.Tasks with
 | [] => c
 | t :: _ => if c.Phase = 3 then Xp c t r else if c.Phase = 4 then Pk c t r else if c.Phase = 5 then Yb c t r else if c.Phase = 6 then Mk c t 2 0 else if c.Phase = 7 then Ad0 c t r else if c.Phase = 9 then Xz c else c
def Abd (c : Cl) (b : List UInt8) : Cl := if (Ajd b).2 ≠ 0 then Ww c else if (Ajd b).1.Kind = c.Req.Kind ∧ (Ajd b).1.Seq = c.Req.Seq then onV c (Ajd b).1 else c
theorem Amg {c v : Cl} {k1 k2 : Prop} [Decidable k1] [Decidable k2] {o : Option Unit} {x : Option Cl} (ho : o = some ()) (hx : x = some v) :
  (o.bind fun _ => if (!decide k1) then some c else if (!decide k2) then some c else x) = some (if k1 ∧ k2 then v else c) := by
 subst ho; subst hx
 rw [Option.bind_some]
 by_cases h1 : k1 <;> by_cases h2 : k2 <;> simp [h1, h2]
theorem Y7 {c : Cl} {r : Bf} {t : As} {ts : List As} (ht : c.Tasks = t :: ts) (h2 : c.Phase ≠ 2) :
  onV c r = if c.Phase = 3 then Xp c t r else if c.Phase = 4 then Pk c t r else if c.Phase = 5 then Yb c t r else if c.Phase = 6 then Mk c t 2 0 else if c.Phase = 7 then Ad0 c t r else if c.Phase = 9 then Xz c else c := by
 unfold onV
 rw [if_neg h2]
 split <;> simp_all
theorem Al9 {l : List Int} {n : Nat} {c : Cl} (h : Inv l n c) (b : List UInt8) (hb : b.length ≤ 1000000) : Gc c b = some (Abd c b) := by
 obtain ⟨hr, hrs⟩ := Anv b hb
 have hf := h.fit
 have hdn : c.Done.length ≤ 999999 := by have := h.dn; omega
 have h9 : c.Phase = 9 → c.Tasks ≠ [] := fun h9 => (h.wk (by omega) (by omega)).1
 unfold Gc Abd
 rw [hr, Option.bind_some, nd]
 generalize Ajd b = v at hrs ⊢
 by_cases e0 : v.2 ≠ 0
 ·rw [if_pos e0, if_pos (decide_eq_true e0), Zt hf h9, Option.bind_some]
 rw [if_neg e0, if_neg (by rw [decide_eq_true_eq]; exact e0)]
 have hs := hrs (by omega)
 have hl := Ajg hs
 by_cases p2 : c.Phase = 2
 ·rw [if_pos (decide_eq_true p2)]
  exact Amg rfl (by unfold Gr onV; rw [Afx hf h9, Option.bind_some, if_pos p2])
 rw [if_neg (by rw [decide_eq_true_eq]; exact p2)]
 by_cases p3 : c.Phase = 3
 ·obtain ⟨t, ts, ht⟩ := h.tasks (by omega) (by omega)
  have hi : idx c.Tasks 0 = some t := by rw [ht]; rfl
  rw [if_pos (decide_eq_true p3)]
  exact Amg rfl (by unfold Gv; rw [Al0 hf hdn hi (h.ts t (by rw [ht]; exact List.mem_cons_self ..)).1, Option.bind_some, Y7 ht p2, if_pos p3])
 rw [if_neg (by rw [decide_eq_true_eq]; exact p3)]
 by_cases p4 : c.Phase = 4
 ·obtain ⟨t, ts, ht⟩ := h.tasks (by omega) (by omega)
  have hi : idx c.Tasks 0 = some t := by rw [ht]; rfl
  rw [if_pos (decide_eq_true p4)]
  exact Amg rfl (by unfold F9; rw [Ad9 hf hdn hi (h.ts t (by rw [ht]; exact List.mem_cons_self ..)).1 _ (by omega), Option.bind_some, Y7 ht p2, if_neg p3, if_pos p4])
 rw [if_neg (by rw [decide_eq_true_eq]; exact p4)]
 by_cases p5 : c.Phase = 5
 ·obtain ⟨t, ts, ht⟩ := h.tasks (by omega) (by omega)
  have hi : idx c.Tasks 0 = some t := by rw [ht]; rfl
  rw [if_pos (decide_eq_true p5)]
  exact Amg rfl (by unfold F7; rw [Ano hf hdn hi, Option.bind_some, Y7 ht p2, if_neg p3, if_neg p4, if_pos p5])
 rw [if_neg (by rw [decide_eq_true_eq]; exact p5)]
 by_cases p6 : c.Phase = 6
 ·obtain ⟨t, ts, ht⟩ := h.tasks (by omega) (by omega)
  have hi : idx c.Tasks 0 = some t := by rw [ht]; rfl
  rw [if_pos (decide_eq_true p6)]
  exact Amg rfl (by unfold F8 G7; rw [Pl hf hdn hi, Option.bind_some, Option.bind_some, Y7 ht p2, if_neg p3, if_neg p4, if_neg p5, if_pos p6])
 rw [if_neg (by rw [decide_eq_true_eq]; exact p6)]
 by_cases p7 : c.Phase = 7
 ·obtain ⟨t, ts, ht⟩ := h.tasks (by omega) (by omega)
  have hi : idx c.Tasks 0 = some t := by rw [ht]; rfl
  rw [if_pos (decide_eq_true p7)]
  exact Amg rfl (by unfold F6; rw [Ap3 hf hdn hi, Option.bind_some, Y7 ht p2, if_neg p3, if_neg p4, if_neg p5, if_neg p6, if_pos p7])
 rw [if_neg (by rw [decide_eq_true_eq]; exact p7)]
 by_cases p9 : c.Phase = 9
 ·obtain ⟨t, ts, ht⟩ := h.tasks (by omega) (by omega)
  rw [if_pos (decide_eq_true p9)]
  exact Amg rfl (by unfold F4; rw [Ana hf (h9 p9), Option.bind_some, Y7 ht p2, if_neg p3, if_neg p4, if_neg p5, if_neg p6, if_neg p7, if_pos p9])
 rw [if_neg (by rw [decide_eq_true_eq]; exact p9)]
 have hon : onV c v.1 = c := by
  rcases Gp c with ht | ⟨t, ts, ht⟩
  ·unfold onV; rw [if_neg p2]; split <;> simp_all
  ·rw [Y7 ht p2, if_neg p3, if_neg p4, if_neg p5, if_neg p6, if_neg p7, if_neg p9]
 rw [hon]
 have ha : Ha c.Phase = some () := by
  unfold Ha Co Bz
  by_cases q2 : 2 ≤ c.Phase
  ·rw [if_pos (decide_eq_true q2), Option.bind_some, decide_eq_false (p := c.Phase ≤ 7) (by omega), if_neg (by decide), decide_eq_false p9]; rfl
  ·rw [if_neg (by rw [decide_eq_true_eq]; exact q2), Option.bind_some, if_neg (by decide), decide_eq_false p9]; rfl
 rw [ha, Option.bind_some]
 split <;> rfl
theorem Inv.onV {l : List Int} {n : Nat} {c : Cl} (h : Inv l n c) (h11 : c.Phase ≠ 11) (hn : n + 1 ≤ 1000000) (r : Bf) (hr : mg.saneRep r = true) : Inv l (n + 1) (onV c r) := by
 have hd := h.du h11
 by_cases p2 : c.Phase = 2
 ·unfold Go.Proofs.YtbjckaahoacbfaaGreatDoor.Abs.onV
  rw [if_pos p2]
  unfold Tj
  split
  ·exact (h.lose h11).up (by omega) hn
  ·exact (h.goOn (by omega) hd).up (by omega) hn
 rcases Gp c with ht | ⟨t, ts, ht⟩
 ·have : Go.Proofs.YtbjckaahoacbfaaGreatDoor.Abs.onV c r = c := by unfold Go.Proofs.YtbjckaahoacbfaaGreatDoor.Abs.onV; rw [if_neg p2]; split <;> simp_all
  rw [this]; exact h.up (by omega) hn
 rw [Y7 ht p2]
 split
 ·rename_i p3
  have ha := (h.wk (by omega) (by omega)).2
  unfold Xp
  split
  ·exact (h.refused (by omega) hd ht ha _).up (by omega) hn
  ·exact h.step (by omega) hd ht ha hn
 split
 ·rename_i p4
  have ha := (h.wk (by omega) (by omega)).2
  unfold Pk
  split
  ·exact (h.again (by omega) hd ht ha).up (by omega) hn
  split
  ·exact (h.again (by omega) hd ht ha).up (by omega) hn
  ·exact (h.set c.Risk (Al2 t.Prog c.St r).1).step (by show c.Phase ≠ 9; omega) hd ht ha hn
 split
 ·rename_i p5
  have ha := (h.wk (by omega) (by omega)).2
  unfold Yb
  split
  ·exact (h.refused (by omega) hd ht ha _).up (by omega) hn
  ·exact (h.through (by omega) hd ht ha ⟨by decide, by decide⟩ (fun h => absurd h (by decide))).up (by omega) hn
 split
 ·rename_i p6
  have ha := (h.wk (by omega) (by omega)).2
  exact (h.through (by omega) hd ht ha ⟨by decide, by decide⟩ (fun h => absurd h (by decide))).up (by omega) hn
 split
 ·rename_i p7
  have ha := (h.wk (by omega) (by omega)).2
  unfold Ad0
  split
  ·have hp := (h.toPre.ph (by omega) (p := 10) (by decide)).lft (a := 4) ⟨by decide, by decide⟩
   have hne : c.Tasks ≠ [] := by rw [ht]; simp
   exact Inv.up ⟨hp, ⟨by show (0 : Int) ≤ 10; omega, by show (10 : Int) ≤ 11; omega⟩, fun _ _ => ⟨hne, ha⟩, fun h1 => by have h1 : (10 : Int) = 0 ∨ (10 : Int) = 11 := h1; omega, fun h1 => by have h1 : (2 ≤ (10 : Int) ∧ (10 : Int) ≤ 7) ∨ (10 : Int) = 9 := h1; omega, fun _ => hd⟩ (by omega) hn
  split
  ·rename_i hN
   split
   ·exact (h.through (by omega) hd ht ha ⟨by decide, by decide⟩ (fun h => absurd h (by decide))).up (by omega) hn
   ·exact (h.through (by omega) hd ht ha ⟨by decide, by decide⟩ (fun _ => by omega)).up (by omega) hn
  split
  ·exact (h.through (by omega) hd ht ha ⟨by decide, by decide⟩ (fun h => absurd h (by decide))).up (by omega) hn
  ·exact (h.again (by omega) hd ht ha).up (by omega) hn
 split
 ·rename_i p9
  unfold Xz
  have hp := h.pass p9 (p := 0) (by decide)
  exact (hp.goOn (by show (0 : Int) ≠ 9; omega) hd).up (by omega) hn
 ·exact h.up (by omega) hn
theorem Inv.take {l : List Int} {n : Nat} {c : Cl} (h : Inv l n c) (h11 : c.Phase ≠ 11) (hn : n + 1 ≤ 1000000) (b : List UInt8) (hb : b.length ≤ 1000000) : Inv l (n + 1) (Abd c b) := by
 unfold Abd
 split
 ·exact (h.lose h11).up (by omega) hn
 ·rename_i h0
  split
  ·exact h.onV h11 hn _ ((Anv b hb).2 (by omega))
  ·exact h.up (by omega) hn
end Go.Proofs.YtbjckaahoacbfaaGreatDoor.Abs
