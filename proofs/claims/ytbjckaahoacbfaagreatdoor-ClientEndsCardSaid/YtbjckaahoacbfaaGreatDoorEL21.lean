/-
 The client's functions, as plain functions: the rest.
-/
import Derived.Test.YtbjckaahoacbfaaGreatDoorEK21
set_option linter.unusedVariables false
set_option linter.unusedSimpArgs false
namespace Go.Proofs.YtbjckaahoacbfaaGreatDoor.Abs
open mg (Fu eR Ow)
def TS (t : Av) : Prop := Dd t = some true ∧ t.Prog.Ops.length ≤ 1000
def Aer (c : Cl) : Cl := {c with Tasks := c.Tasks.drop 1, Attempt := 0}
theorem Akg {c : Cl} (h : Fit c) (h0 : c.Tasks ≠ []) : Es c = some (Aer c) := by
 unfold Es Aer
 have h8 := h.tk
 have hp : 0 < c.Tasks.length := List.length_pos_iff.2 h0
 rw [On (by decide) (by omega) (by omega), Option.bind_some]
 rw [show ((c.Tasks.drop (1 : Int).toNat).take ((c.Tasks.length : Int).toNat - (1 : Int).toNat)) = c.Tasks.drop 1 from by
  rw [Int.toNat_natCast, show (1 : Int).toNat = 1 from rfl]
  exact List.take_of_length_le (by simp)]
 rw [Rk _ (by simp; omega), Option.bind_some]
def Ad7 (c : Cl) : Int := if 1001 < wI (c.Resets + 1) then 1001 else wI (c.Resets + 1)
def cutV (c : Cl) : Cl := {c with Resets := Ad7 c, In := ⟨[], 0⟩, Out := []}
def Ajk (c : Cl) : Cl := {c with Phase := 1, Epoch := wI (c.Epoch + 1), Left := 0}
def Wa (c : Cl) : Cl := if 2 < Ad7 c then Afb (cutV c) else if 65535 ≤ c.Epoch then Afb (cutV c) else Ajk (if c.Phase = 9 then Aer (cutV c) else cutV c)
theorem Aau {c : Cl} (h : Fit c) (h9 : c.Phase = 9 → c.Tasks ≠ []) : Cq c = some (Wa c) := by
 unfold Cq Wa
 have hf : Fit (cutV c) := ⟨h.cfg, h.tk, h.dn, h.tr, by show 0 ≤ _; omega⟩
 have hc : c.Cfg.Budget = 2 := by rw [h.cfg]; rfl
 rw [hc]
 have hd := Ae9 hf
 unfold cutV Ad7 at hd
 by_cases h1 : 2 < Ad7 c
 ·rw [if_pos h1]
  unfold Ad7 at h1
  rw [if_pos (decide_eq_true h1), hd, Option.bind_some]
  rfl
 rw [if_neg h1]
 unfold Ad7 at h1
 rw [if_neg (by rw [decide_eq_true_eq]; exact h1)]
 by_cases h2 : 65535 ≤ c.Epoch
 ·rw [if_pos h2, if_pos (decide_eq_true h2), hd, Option.bind_some]
  rfl
 rw [if_neg h2, if_neg (by rw [decide_eq_true_eq]; exact h2)]
 unfold Gn E1
 by_cases h3 : c.Phase = 9
 ·rw [if_pos h3, if_pos (decide_eq_true h3)]
  have hp := Akg hf (h9 h3)
  unfold cutV Ad7 at hp
  rw [hp, Option.bind_some]
  rfl
 ·rw [if_neg h3, if_neg (by rw [decide_eq_true_eq]; exact h3)]
  rfl
def Anw (c : Cl) : Int := if wI (4 - 1) < wI (wI (c.Attempt + 1) - 1) then wI (4 - 1) else wI (wI (c.Attempt + 1) - 1)
def Un (c : Cl) (t : Av) : Cl := if 3 ≤ c.Attempt then M8 c t 3 0 else {c with Phase := 8, Attempt := wI (c.Attempt + 1), Left := Si (Anw c), Risk := false}
theorem X5 {c : Cl} (h : Fit c) (hd : c.Done.length ≤ 999999) {t : Av} (ht : idx c.Tasks 0 = some t) : Cg c = some (Un c t) := by
 unfold Cg Un
 have hc : c.Cfg.Attempts = 3 := by rw [h.cfg]; rfl
 have hp : c.Cfg.Plan = ⟨4, 30, 4⟩ := by rw [h.cfg]; rfl
 have hw : c.Cfg.Who = 3 := by rw [h.cfg]; rfl
 rw [hc, hp, hw]
 by_cases h1 : 3 ≤ c.Attempt
 ·rw [if_pos h1, if_pos (decide_eq_true h1), O3 h hd ht, Option.bind_some]
 rw [if_neg h1, if_neg (by rw [decide_eq_true_eq]; exact h1)]
 obtain ⟨v, hv, -⟩ := Ac4 (Anw c)
 have e : Si (Anw c) = v.1 := by unfold Si; rw [hv]; rfl
 unfold Anw at hv e
 rw [hv, Option.bind_some]
 unfold Anw
 rw [e]
def Ra (c : Cl) (t : Av) (code : Int) : Cl := if code = 7 then Ah1 c t else Un c t
theorem Zd {c : Cl} (h : Fit c) (hd : c.Done.length ≤ 999999) {t : Av} (ht : idx c.Tasks 0 = some t) (code : Int) : Db c code = some (Ra c t code) := by
 unfold Db Ra
 by_cases h1 : code = 7
 ·rw [if_pos h1, if_pos (decide_eq_true h1), Am1 h ht, Option.bind_some]
 ·rw [if_neg h1, if_neg (by rw [decide_eq_true_eq]; exact h1), X5 h hd ht, Option.bind_some]
theorem TS.sane {t : Av} (h : TS t) : (0 ≤ t.Token ∧ t.Token ≤ 1099511627776) ∧ D0 t.Prog = some true := by
 obtain ⟨h, -⟩ := h
 unfold Dd Bx at h
 by_cases h0 : 0 ≤ t.Token
 ·rw [if_pos (decide_eq_true h0), Option.bind_some] at h
  by_cases h1 : t.Token ≤ 1099511627776
  ·rw [if_pos (decide_eq_true h1)] at h
   obtain ⟨v, hv, e⟩ := An h
   refine ⟨⟨h0, h1⟩, ?_⟩
   rw [hv, e]
  ·rw [if_neg (by rw [decide_eq_true_eq]; exact h1)] at h
   cases h
 ·rw [if_neg (by rw [decide_eq_true_eq]; exact h0), Option.bind_some, if_neg (by decide)] at h
  cases h
def Rn (p : Co) (s : A6) : B6 × A6 × Bool := (Fk p s).getD (Om, s, false)
theorem Ads (c : Cl) : (Ahf c).Tried = c.Tried := by
 unfold Ahf
 split <;> rfl
theorem Abp (c : Cl) (r : B6) : (Pa c r).Tried = c.Tried := by
 unfold Pa
 split
 ·rfl
 split
 ·rfl
 ·rw [Ads]
theorem An5 {t : Av} (ht : TS t) (s : A6) : Fk t.Prog s = some (Rn t.Prog s) := by
 unfold Rn
 obtain ⟨-, hs⟩ := ht.sane
 obtain ⟨v, hv, hg⟩ := pg.psane_m t.Prog (by have := ht.2; omega)
 rw [hs] at hv
 obtain rfl := Option.some.inj hv
 by_cases h0 : 0 ≤ s.PC
 ·rcases pg.next_m t.Prog s ht.2 hs (hg rfl).1 h0 with ⟨q, u, x, h, -⟩ | ⟨u, h, -⟩ <;> rw [h] <;> rfl
 ·rw [pg.next_no t.Prog s (.inr ⟨hs, by omega⟩)]
  rfl
def Ad8 (c : Cl) (t : Av) : Cl :=
 if (Rn t.Prog c.St).2.2 then Pa {c with Phase := 4, St := (Rn t.Prog c.St).2.1} (Rn t.Prog c.St).1
 else if (Rn t.Prog c.St).2.1.Stopped then Pa {c with Phase := 6, St := (Rn t.Prog c.St).2.1} ⟨8, 0, 0, 0, false, [], [], Bs⟩
 else if (Pa {c with Phase := 5, St := (Rn t.Prog c.St).2.1} ⟨7, 0, 0, 0, false, [], [], Bs⟩).Phase = 11 then Pa {c with Phase := 5, St := (Rn t.Prog c.St).2.1} ⟨7, 0, 0, 0, false, [], [], Bs⟩
 else {Pa {c with Phase := 5, St := (Rn t.Prog c.St).2.1} ⟨7, 0, 0, 0, false, [], [], Bs⟩ with Risk := true, Tried := c.Tried ++ [⟨t.Token, c.Attempt, (Rn t.Prog c.St).2.1.Regs⟩]}
theorem Af3 {c : Cl} (h : Fit c) {t : Av} (ht : idx c.Tasks 0 = some t) (hs : TS t) : Ed c = some (Ad8 c t) := by
 unfold Ed Ad8
 rw [ht, Option.bind_some, An5 hs, Option.bind_some]
 generalize Rn t.Prog c.St = v
 by_cases h1 : v.2.2 = true
 ·rw [if_pos h1, if_pos h1, Wi (by exact ⟨h.cfg, h.tk, h.dn, h.tr, h.ou⟩), Option.bind_some]
 rw [if_neg h1, if_neg h1]
 by_cases h2 : v.2.1.Stopped = true
 ·rw [if_pos h2, if_pos h2, Wi (by exact ⟨h.cfg, h.tk, h.dn, h.tr, h.ou⟩), Option.bind_some]
 rw [if_neg h2, if_neg h2, Option.bind_some, Wi (by exact ⟨h.cfg, h.tk, h.dn, h.tr, h.ou⟩), Option.bind_some]
 have htr := Abp {c with Phase := 5, St := v.2.1} ⟨7, 0, 0, 0, false, [], [], Bs⟩
 generalize Pa {c with Phase := 5, St := v.2.1} ⟨7, 0, 0, 0, false, [], [], Bs⟩ = d at htr ⊢
 by_cases h3 : d.Phase = 11
 ·rw [if_pos h3, if_pos (decide_eq_true h3)]
 ·rw [if_neg h3, if_neg (by rw [decide_eq_true_eq]; exact h3)]
  have hl := h.tr
  have e : d.Tried = c.Tried := htr
  rw [e, Qt _ (by simp; omega) (by simp), Option.bind_some]
  simp
def Ans (p : Co) (s : A6) (r : Be) : A6 × Int := (Di p s r).getD (s, 1)
theorem Ao8 {t : Av} (ht : TS t) (s : A6) (r : Be) (hr : r.List.length ≤ 1000) : Di t.Prog s r = some (Ans t.Prog s r) := by
 obtain ⟨u, e, h⟩ := pg.take_tot t.Prog s r ht.2 (by omega)
 unfold Ans
 rw [h]
 rfl
def Qk (c : Cl) (t : Av) (r : Be) : Cl :=
 if r.Code ≠ 0 then Un c t else if (Ans t.Prog c.St r).2 ≠ 0 then Un c t else Ad8 {c with St := (Ans t.Prog c.St r).1} t
theorem nd {x : Int} : (!decide (x = 0)) = decide (x ≠ 0) := by
 by_cases h : x = 0 <;> simp [h]
theorem Aef {c : Cl} (h : Fit c) (hd : c.Done.length ≤ 999999) {t : Av} (ht : idx c.Tasks 0 = some t) (hs : TS t) (r : Be) (hr : r.List.length ≤ 1000) : D1 c r = some (Qk c t r) := by
 unfold D1 Qk
 rw [nd]
 by_cases h1 : r.Code ≠ 0
 ·rw [if_pos h1, if_pos (decide_eq_true h1), X5 h hd ht, Option.bind_some]
 rw [if_neg h1, if_neg (by rw [decide_eq_true_eq]; exact h1), ht, Option.bind_some, Ao8 hs _ _ hr, Option.bind_some, nd]
 by_cases h2 : (Ans t.Prog c.St r).2 ≠ 0
 ·rw [if_pos h2, if_pos (decide_eq_true h2), X5 h hd ht, Option.bind_some]
 ·rw [if_neg h2, if_neg (by rw [decide_eq_true_eq]; exact h2), Af3 (by exact ⟨h.cfg, h.tk, h.dn, h.tr, h.ou⟩) (by exact ht) hs, Option.bind_some]
def Aag (c : Cl) (t : Av) (r : Be) : Cl := if r.Code ≠ 0 then Ra c t r.Code else Ad8 c t
theorem Al9 {c : Cl} (h : Fit c) (hd : c.Done.length ≤ 999999) {t : Av} (ht : idx c.Tasks 0 = some t) (hs : TS t) (r : Be) : Ey c r = some (Aag c t r) := by
 unfold Ey Aag
 rw [nd]
 by_cases h1 : r.Code ≠ 0
 ·rw [if_pos h1, if_pos (decide_eq_true h1), Zd h hd ht, Option.bind_some]
 ·rw [if_neg h1, if_neg (by rw [decide_eq_true_eq]; exact h1), Af3 h ht hs, Option.bind_some]
def Aaf (c : Cl) (t : Av) (r : Be) : Cl := if r.Code ≠ 0 then Ra c t r.Code else M8 c t 1 r.N
theorem Ang {c : Cl} (h : Fit c) (hd : c.Done.length ≤ 999999) {t : Av} (ht : idx c.Tasks 0 = some t) (r : Be) : E2 c r = some (Aaf c t r) := by
 unfold E2 Aaf
 rw [nd]
 by_cases h1 : r.Code ≠ 0
 ·rw [if_pos h1, if_pos (decide_eq_true h1), Zd h hd ht, Option.bind_some]
 ·rw [if_neg h1, if_neg (by rw [decide_eq_true_eq]; exact h1), O3 h hd ht, Option.bind_some]
def Af6 (c : Cl) (t : Av) (r : Be) : Cl :=
 if r.Code ≠ 0 then {c with Phase := 10, Left := 4} else if 0 < r.N then (if c.Risk then M8 c t 1 r.N else M8 c t 4 r.N) else if c.St.Stopped then M8 c t 2 0 else Un c t
theorem Apq {c : Cl} (h : Fit c) (hd : c.Done.length ≤ 999999) {t : Av} (ht : idx c.Tasks 0 = some t) (r : Be) : Fe c r = some (Af6 c t r) := by
 unfold Fe Af6
 rw [nd]
 by_cases h1 : r.Code ≠ 0
 ·rw [if_pos h1, if_pos (decide_eq_true h1), h.cfg, show pl.Plan = ⟨4, 30, 4⟩ from rfl, Yp, Option.bind_some, ← h.cfg]
  rfl
 rw [if_neg h1, if_neg (by rw [decide_eq_true_eq]; exact h1)]
 by_cases h2 : 0 < r.N
 ·rw [if_pos h2, decide_eq_true h2, if_pos rfl]
  by_cases h3 : c.Risk = true
  ·rw [if_pos h3, if_pos h3, O3 h hd ht, Option.bind_some]
  ·rw [if_neg h3, if_neg h3, if_pos rfl, O3 h hd ht, Option.bind_some]
 ·rw [if_neg h2, decide_eq_false h2, if_neg (by decide), if_neg (by decide)]
  by_cases h3 : c.St.Stopped = true
  ·rw [if_pos h3, if_pos h3, O3 h hd ht, Option.bind_some]
  ·rw [if_neg h3, if_neg h3, X5 h hd ht, Option.bind_some]
def Aar (c : Cl) : Cl := T8 {Aer c with Phase := 0}
theorem Am4 {c : Cl} (h : Fit c) (h0 : c.Tasks ≠ []) (r : Be) : E0 c r = some (Aar c) := by
 unfold E0 Aar
 have h8 := h.tk
 rw [Akg h h0, Option.bind_some, Afi (by exact ⟨h.cfg, by show (c.Tasks.drop 1).length ≤ 8; simp; omega, h.dn, h.tr, h.ou⟩), Option.bind_some]
def Vn (c : Cl) (r : Be) : Cl := if r.Code ≠ 0 then Wa c else T8 c
theorem Af5 {c : Cl} (h : Fit c) (h9 : c.Phase = 9 → c.Tasks ≠ []) (r : Be) : Ef c r = some (Vn c r) := by
 unfold Ef Vn
 rw [nd]
 by_cases h1 : r.Code ≠ 0
 ·rw [if_pos h1, if_pos (decide_eq_true h1), Aau h h9, Option.bind_some]
 ·rw [if_neg h1, if_neg (by rw [decide_eq_true_eq]; exact h1), Afi h, Option.bind_some]
end Go.Proofs.YtbjckaahoacbfaaGreatDoor.Abs
