/- . -/
import Derived.Test.YtbjckaahoacbfaaGreatDoorSN21
namespace Go.Proofs.YtbjckaahoacbfaaGreatDoor.Abs
open mg (F2 eR Qf)
def Aj2 (b : List UInt8) : Ba × Int := (Eo b).getD (mg.zrep, 1)
theorem Auu (b : List UInt8) (hb : b.length ≤ 1000000) : Eo b = some (Aj2 b) ∧ ((Aj2 b).2 = 0 → mg.saneRep (Aj2 b).1 = true) := by
 obtain ⟨g, e, h, h1, -⟩ := mg.readRep_any b (by omega)
 unfold Aj2
 rw [h]
 exact ⟨rfl, fun he => (h1 he).1⟩
theorem An0 {r : Ba} (h : mg.saneRep r = true) : r.List.length ≤ 8 := (mg.saneRep_V h).2
def onV (c : Cl) (r : Ba) : Cl := if c.Phase = 2 then V5 c r else match c.Tasks with
 | [] => c
 | t :: _ => if c.Phase = 3 then Z9 c t r else if c.Phase = 4 then Rp c t r else if c.Phase = 5 then Aal c t r else if c.Phase = 6 then Ns c t 2 0 else if c.Phase = 7 then Ahg c t r else if c.Phase = 9 then Adf c else c
def Zv (c : Cl) (b : List UInt8) : Cl := if (Aj2 b).2 ≠ 0 then Zk c else if (Aj2 b).1.Kind = c.Req.Kind ∧ (Aj2 b).1.Seq = c.Req.Seq then onV c (Aj2 b).1 else c
theorem Aqm {c v : Cl} {k1 k2 : Prop} [Decidable k1] [Decidable k2] {o : Option Unit} {x : Option Cl} (ho : o = some ()) (hx : x = some v) :
  (o.bind fun _ => if (!decide k1) then some c else if (!decide k2) then some c else x) = some (if k1 ∧ k2 then v else c) := by
 subst ho; subst hx
 rw [Option.bind_some]
 by_cases h1 : k1 <;> by_cases h2 : k2 <;> simp [h1, h2]
theorem Abp {c : Cl} {r : Ba} {t : Am} {ts : List Am} (ht : c.Tasks = t :: ts) (h2 : c.Phase ≠ 2) :
  onV c r = if c.Phase = 3 then Z9 c t r else if c.Phase = 4 then Rp c t r else if c.Phase = 5 then Aal c t r else if c.Phase = 6 then Ns c t 2 0 else if c.Phase = 7 then Ahg c t r else if c.Phase = 9 then Adf c else c := by
 unfold onV
 rw [if_neg h2]
 split <;> simp_all
theorem Aqt {l : List Int} {n : Nat} {c : Cl} (h : Inv l n c) (b : List UInt8) (hb : b.length ≤ 1000000) : Gu c b = some (Zv c b) := by
 obtain ⟨hr, hrs⟩ := Auu b hb
 have hf := h.fit
 have hdn : c.Done.length ≤ 999999 := by have := h.dn; omega
 have h9 : c.Phase = 9 → c.Tasks ≠ [] := fun h9 => (h.wk (by omega) (by omega)).1
 unfold Gu Zv
 rw [hr, Option.bind_some, nd]
 generalize Aj2 b = v at hrs ⊢
 by_cases e0 : v.2 ≠ 0
 ·rw [if_pos e0, if_pos (decide_eq_true e0), Ac9 hf h9, Option.bind_some]
 rw [if_neg e0, if_neg (by rw [decide_eq_true_eq]; exact e0)]
 have hs := hrs (by omega)
 have hl := An0 hs
 by_cases p2 : c.Phase = 2
 ·rw [if_pos (decide_eq_true p2)]
  exact Aqm rfl (by unfold Hd onV; rw [Ah9 hf h9, Option.bind_some, if_pos p2])
 rw [if_neg (by rw [decide_eq_true_eq]; exact p2)]
 by_cases p3 : c.Phase = 3
 ·obtain ⟨t, ts, ht⟩ := h.tasks (by omega) (by omega)
  have hi : idx c.Tasks 0 = some t := by rw [ht]; rfl
  rw [if_pos (decide_eq_true p3)]
  exact Aqm rfl (by unfold G9; rw [Aru hf hdn hi (h.ts t (by rw [ht]; exact List.mem_cons_self ..)).1, Option.bind_some, Abp ht p2, if_pos p3])
 rw [if_neg (by rw [decide_eq_true_eq]; exact p3)]
 by_cases p4 : c.Phase = 4
 ·obtain ⟨t, ts, ht⟩ := h.tasks (by omega) (by omega)
  have hi : idx c.Tasks 0 = some t := by rw [ht]; rfl
  rw [if_pos (decide_eq_true p4)]
  exact Aqm rfl (by unfold Gs; rw [Ah1 hf hdn hi (h.ts t (by rw [ht]; exact List.mem_cons_self ..)).1 _ (by omega), Option.bind_some, Abp ht p2, if_neg p3, if_pos p4])
 rw [if_neg (by rw [decide_eq_true_eq]; exact p4)]
 by_cases p5 : c.Phase = 5
 ·obtain ⟨t, ts, ht⟩ := h.tasks (by omega) (by omega)
  have hi : idx c.Tasks 0 = some t := by rw [ht]; rfl
  rw [if_pos (decide_eq_true p5)]
  exact Aqm rfl (by unfold Gp; rw [Aqj hf hdn hi, Option.bind_some, Abp ht p2, if_neg p3, if_neg p4, if_pos p5])
 rw [if_neg (by rw [decide_eq_true_eq]; exact p5)]
 by_cases p6 : c.Phase = 6
 ·obtain ⟨t, ts, ht⟩ := h.tasks (by omega) (by omega)
  have hi : idx c.Tasks 0 = some t := by rw [ht]; rfl
  rw [if_pos (decide_eq_true p6)]
  exact Aqm rfl (by unfold Gn Hn; rw [Ro hf hdn hi, Option.bind_some, Option.bind_some, Abp ht p2, if_neg p3, if_neg p4, if_neg p5, if_pos p6])
 rw [if_neg (by rw [decide_eq_true_eq]; exact p6)]
 by_cases p7 : c.Phase = 7
 ·obtain ⟨t, ts, ht⟩ := h.tasks (by omega) (by omega)
  have hi : idx c.Tasks 0 = some t := by rw [ht]; rfl
  rw [if_pos (decide_eq_true p7)]
  exact Aqm rfl (by unfold Gr; rw [Auz hf hdn hi, Option.bind_some, Abp ht p2, if_neg p3, if_neg p4, if_neg p5, if_neg p6, if_pos p7])
 rw [if_neg (by rw [decide_eq_true_eq]; exact p7)]
 by_cases p9 : c.Phase = 9
 ·obtain ⟨t, ts, ht⟩ := h.tasks (by omega) (by omega)
  rw [if_pos (decide_eq_true p9)]
  exact Aqm rfl (by unfold Gq; rw [Apv hf (h9 p9), Option.bind_some, Abp ht p2, if_neg p3, if_neg p4, if_neg p5, if_neg p6, if_neg p7, if_pos p9])
 rw [if_neg (by rw [decide_eq_true_eq]; exact p9)]
 have hon : onV c v.1 = c := by
  rcases Il c with ht | ⟨t, ts, ht⟩
  ·unfold onV; rw [if_neg p2]; split <;> simp_all
  ·rw [Abp ht p2, if_neg p3, if_neg p4, if_neg p5, if_neg p6, if_neg p7, if_neg p9]
 rw [hon]
 have ha : Hu c.Phase = some () := by
  unfold Hu Cs B1
  by_cases q2 : 2 ≤ c.Phase
  ·rw [if_pos (decide_eq_true q2), Option.bind_some, decide_eq_false (p := c.Phase ≤ 7) (by omega), if_neg (by decide), decide_eq_false p9]; rfl
  ·rw [if_neg (by rw [decide_eq_true_eq]; exact q2), Option.bind_some, if_neg (by decide), decide_eq_false p9]; rfl
 rw [ha, Option.bind_some]
 split <;> rfl
theorem Inv.onV {l : List Int} {n : Nat} {c : Cl} (h : Inv l n c) (h11 : c.Phase ≠ 11) (hn : n + 1 ≤ 1000000) (r : Ba) (hr : mg.saneRep r = true) : Inv l (n + 1) (onV c r) := by
 have hd := h.du h11
 by_cases p2 : c.Phase = 2
 ·unfold Go.Proofs.YtbjckaahoacbfaaGreatDoor.Abs.onV
  rw [if_pos p2]
  unfold V5
  split
  ·exact (h.lose h11).up (by omega) hn
  ·exact (h.goOn (by omega) hd).up (by omega) hn
 rcases Il c with ht | ⟨t, ts, ht⟩
 ·have : Go.Proofs.YtbjckaahoacbfaaGreatDoor.Abs.onV c r = c := by unfold Go.Proofs.YtbjckaahoacbfaaGreatDoor.Abs.onV; rw [if_neg p2]; split <;> simp_all
  rw [this]; exact h.up (by omega) hn
 rw [Abp ht p2]
 split
 ·rename_i p3
  have ha := (h.wk (by omega) (by omega)).2
  unfold Z9
  split
  ·exact (h.refused (by omega) hd ht ha _).up (by omega) hn
  ·exact h.step (by omega) hd ht ha hn
 split
 ·rename_i p4
  have ha := (h.wk (by omega) (by omega)).2
  unfold Rp
  split
  ·exact (h.again (by omega) hd ht ha).up (by omega) hn
  split
  ·exact (h.again (by omega) hd ht ha).up (by omega) hn
  ·exact (h.set c.Risk (Apx t.Prog c.St r).1).step (by show c.Phase ≠ 9; omega) hd ht ha hn
 split
 ·rename_i p5
  have ha := (h.wk (by omega) (by omega)).2
  unfold Aal
  split
  ·exact (h.refused (by omega) hd ht ha _).up (by omega) hn
  ·exact (h.through (by omega) hd ht ha ⟨by decide, by decide⟩ (fun h => absurd h (by decide))).up (by omega) hn
 split
 ·rename_i p6
  have ha := (h.wk (by omega) (by omega)).2
  exact (h.through (by omega) hd ht ha ⟨by decide, by decide⟩ (fun h => absurd h (by decide))).up (by omega) hn
 split
 ·rename_i p7
  have ha := (h.wk (by omega) (by omega)).2
  unfold Ahg
  split
  ·have hp := (h.toPre.ph (by omega) (p := 10) (by decide)).lft (a := 4) ⟨by decide, by decide⟩
   have hne : c.Tasks ≠ [] := by rw [ht]; simp
   exact Inv.up ⟨hp, ⟨by show (0 : Int) ≤ 10; omega, by show (10 : Int) ≤ 11; omega⟩, fun _ _ => ⟨hne, ha⟩, fun h1 => by have h1 : (10 : Int) = 0 ∨ (10 : Int) = 11 := h1; omega, fun h1 => by have h1 : (2 ≤ (10 : Int) ∧ (10 : Int) ≤ 7) ∨ (10 : Int) = 9 := h1; omega, fun _ => hd⟩ (by omega) hn
  split
  ·rename_i hN
   split
   ·exact (h.through (by omega) hd ht ha ⟨by decide, by decide⟩ (fun h => absurd h (by decide))).up (by omega) hn
   ·exact (h.through (by omega) hd ht ha ⟨by decide, by decide⟩ (fun _ => by omega)).up (by omega) hn
  split
  ·exact (h.through (by omega) hd ht ha ⟨by decide, by decide⟩ (fun h => absurd h (by decide))).up (by omega) hn
  ·exact (h.again (by omega) hd ht ha).up (by omega) hn
 split
 ·rename_i p9
  unfold Adf
  have hp := h.pass p9 (p := 0) (by decide)
  exact (hp.goOn (by show (0 : Int) ≠ 9; omega) hd).up (by omega) hn
 ·exact h.up (by omega) hn
theorem Inv.take {l : List Int} {n : Nat} {c : Cl} (h : Inv l n c) (h11 : c.Phase ≠ 11) (hn : n + 1 ≤ 1000000) (b : List UInt8) (hb : b.length ≤ 1000000) : Inv l (n + 1) (Zv c b) := by
 unfold Zv
 split
 ·exact (h.lose h11).up (by omega) hn
 ·rename_i h0
  split
  ·exact h.onV h11 hn _ ((Auu b hb).2 (by omega))
  ·exact h.up (by omega) hn
end Go.Proofs.YtbjckaahoacbfaaGreatDoor.Abs
