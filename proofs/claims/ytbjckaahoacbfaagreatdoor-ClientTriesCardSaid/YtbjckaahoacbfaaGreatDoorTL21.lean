/-
 The client's functions, as plain functions: the rest.
-/
import Derived.Test.YtbjckaahoacbfaaGreatDoorTK21
set_option linter.unusedVariables false
set_option linter.unusedSimpArgs false
namespace Go.Proofs.YtbjckaahoacbfaaGreatDoor.Abs
open mg (Fdz eR Oi)
def TS (t : As) : Prop := Df t = some true ∧ t.Prog.Ops.length ≤ 1000
def Abh (c : Cl) : Cl := {c with Tasks := c.Tasks.drop 1, Attempt := 0}
theorem Ak5 {c : Cl} (h : Fit c) (h0 : c.Tasks ≠ []) : Ev c = some (Abh c) := by
 unfold Ev Abh
 have h8 := h.tk
 have hp : 0 < c.Tasks.length := List.length_pos_iff.2 h0
 rw [Oz (by decide) (by omega) (by omega), Option.bind_some]
 rw [show ((c.Tasks.drop (1 : Int).toNat).take ((c.Tasks.length : Int).toNat - (1 : Int).toNat)) = c.Tasks.drop 1 from by
  rw [Int.toNat_natCast, show (1 : Int).toNat = 1 from rfl]
  exact List.take_of_length_le (by simp)]
 rw [Rv _ (by simp; omega), Option.bind_some]
def Afj (c : Cl) : Int := if 1001 < wI (c.Resets + 1) then 1001 else wI (c.Resets + 1)
def cutV (c : Cl) : Cl := {c with Resets := Afj c, In := ⟨[], 0⟩, Out := []}
def Apj (c : Cl) : Cl := {c with Phase := 1, Epoch := wI (c.Epoch + 1), Left := 0}
def Ww (c : Cl) : Cl := if 2 < Afj c then Aff (cutV c) else if 65535 ≤ c.Epoch then Aff (cutV c) else Apj (if c.Phase = 9 then Abh (cutV c) else cutV c)
theorem Zt {c : Cl} (h : Fit c) (h9 : c.Phase = 9 → c.Tasks ≠ []) : Cq c = some (Ww c) := by
 unfold Cq Ww
 have hf : Fit (cutV c) := ⟨h.cfg, h.tk, h.dn, h.tr, by show 0 ≤ _; omega⟩
 have hc : c.Cfg.Budget = 2 := by rw [h.cfg]; rfl
 rw [hc]
 have hd := Ags hf
 unfold cutV Afj at hd
 by_cases h1 : 2 < Afj c
 ·rw [if_pos h1]
  unfold Afj at h1
  rw [if_pos (decide_eq_true h1), hd, Option.bind_some]
  rfl
 rw [if_neg h1]
 unfold Afj at h1
 rw [if_neg (by rw [decide_eq_true_eq]; exact h1)]
 by_cases h2 : 65535 ≤ c.Epoch
 ·rw [if_pos h2, if_pos (decide_eq_true h2), hd, Option.bind_some]
  rfl
 rw [if_neg h2, if_neg (by rw [decide_eq_true_eq]; exact h2)]
 unfold Gs E0
 by_cases h3 : c.Phase = 9
 ·rw [if_pos h3, if_pos (decide_eq_true h3)]
  have hp := Ak5 hf (h9 h3)
  unfold cutV Afj at hp
  rw [hp, Option.bind_some]
  rfl
 ·rw [if_neg h3, if_neg (by rw [decide_eq_true_eq]; exact h3)]
  rfl
def Aob (c : Cl) : Int := if wI (4 - 1) < wI (wI (c.Attempt + 1) - 1) then wI (4 - 1) else wI (wI (c.Attempt + 1) - 1)
def Sq (c : Cl) (t : As) : Cl := if 3 ≤ c.Attempt then Mk c t 3 0 else {c with Phase := 8, Attempt := wI (c.Attempt + 1), Left := Th (Aob c), Risk := false}
theorem Yz {c : Cl} (h : Fit c) (hd : c.Done.length ≤ 999999) {t : As} (ht : idx c.Tasks 0 = some t) : Ci c = some (Sq c t) := by
 unfold Ci Sq
 have hc : c.Cfg.Attempts = 3 := by rw [h.cfg]; rfl
 have hp : c.Cfg.Plan = ⟨4, 30, 4⟩ := by rw [h.cfg]; rfl
 have hw : c.Cfg.Who = 3 := by rw [h.cfg]; rfl
 rw [hc, hp, hw]
 by_cases h1 : 3 ≤ c.Attempt
 ·rw [if_pos h1, if_pos (decide_eq_true h1), Pl h hd ht, Option.bind_some]
 rw [if_neg h1, if_neg (by rw [decide_eq_true_eq]; exact h1)]
 obtain ⟨v, hv, -⟩ := Add (Aob c)
 have e : Th (Aob c) = v.1 := by unfold Th; rw [hv]; rfl
 unfold Aob at hv e
 rw [hv, Option.bind_some]
 unfold Aob
 rw [e]
def Oy (c : Cl) (t : As) (code : Int) : Cl := if code = 7 then Af3 c t else Sq c t
theorem Aa1 {c : Cl} (h : Fit c) (hd : c.Done.length ≤ 999999) {t : As} (ht : idx c.Tasks 0 = some t) (code : Int) : De c code = some (Oy c t code) := by
 unfold De Oy
 by_cases h1 : code = 7
 ·rw [if_pos h1, if_pos (decide_eq_true h1), Al6 h ht, Option.bind_some]
 ·rw [if_neg h1, if_neg (by rw [decide_eq_true_eq]; exact h1), Yz h hd ht, Option.bind_some]
theorem TS.sane {t : As} (h : TS t) : (0 ≤ t.Token ∧ t.Token ≤ 1099511627776) ∧ Dz t.Prog = some true := by
 obtain ⟨h, -⟩ := h
 unfold Df Bz at h
 by_cases h0 : 0 ≤ t.Token
 ·rw [if_pos (decide_eq_true h0), Option.bind_some] at h
  by_cases h1 : t.Token ≤ 1099511627776
  ·rw [if_pos (decide_eq_true h1)] at h
   obtain ⟨v, hv, e⟩ := Am h
   refine ⟨⟨h0, h1⟩, ?_⟩
   rw [hv, e]
  ·rw [if_neg (by rw [decide_eq_true_eq]; exact h1)] at h
   cases h
 ·rw [if_neg (by rw [decide_eq_true_eq]; exact h0), Option.bind_some, if_neg (by decide)] at h
  cases h
def O8 (p : Cp) (s : A7) : B6 × A7 × Bool := (Fq p s).getD (N1, s, false)
theorem Ad7 (c : Cl) : (Agy c).Tried = c.Tried := by
 unfold Agy
 split <;> rfl
theorem W8 (c : Cl) (r : B6) : (Mw c r).Tried = c.Tried := by
 unfold Mw
 split
 ·rfl
 split
 ·rfl
 ·rw [Ad7]
theorem Apb {t : As} (ht : TS t) (s : A7) : Fq t.Prog s = some (O8 t.Prog s) := by
 unfold O8
 obtain ⟨-, hs⟩ := ht.sane
 obtain ⟨v, hv, hg⟩ := pg.psane_m t.Prog (by have := ht.2; omega)
 rw [hs] at hv
 obtain rfl := Option.some.inj hv
 by_cases h0 : 0 ≤ s.PC
 ·rcases pg.next_m t.Prog s ht.2 hs (hg rfl).1 h0 with ⟨q, u, x, h, -⟩ | ⟨u, h, -⟩ <;> rw [h] <;> rfl
 ·rw [pg.next_no t.Prog s (.inr ⟨hs, by omega⟩)]
  rfl
def Zn (c : Cl) (t : As) : Cl :=
 if (O8 t.Prog c.St).2.2 then Mw {c with Phase := 4, St := (O8 t.Prog c.St).2.1} (O8 t.Prog c.St).1
 else if (O8 t.Prog c.St).2.1.Stopped then Mw {c with Phase := 6, St := (O8 t.Prog c.St).2.1} ⟨8, 0, 0, 0, false, [], [], Bt⟩
 else if (Mw {c with Phase := 5, St := (O8 t.Prog c.St).2.1} ⟨7, 0, 0, 0, false, [], [], Bt⟩).Phase = 11 then Mw {c with Phase := 5, St := (O8 t.Prog c.St).2.1} ⟨7, 0, 0, 0, false, [], [], Bt⟩
 else {Mw {c with Phase := 5, St := (O8 t.Prog c.St).2.1} ⟨7, 0, 0, 0, false, [], [], Bt⟩ with Risk := true, Tried := c.Tried ++ [⟨t.Token, c.Attempt, (O8 t.Prog c.St).2.1.Regs⟩]}
theorem Aga {c : Cl} (h : Fit c) {t : As} (ht : idx c.Tasks 0 = some t) (hs : TS t) : Ed c = some (Zn c t) := by
 unfold Ed Zn
 rw [ht, Option.bind_some, Apb hs, Option.bind_some]
 generalize O8 t.Prog c.St = v
 by_cases h1 : v.2.2 = true
 ·rw [if_pos h1, if_pos h1, Wy (by exact ⟨h.cfg, h.tk, h.dn, h.tr, h.ou⟩), Option.bind_some]
 rw [if_neg h1, if_neg h1]
 by_cases h2 : v.2.1.Stopped = true
 ·rw [if_pos h2, if_pos h2, Wy (by exact ⟨h.cfg, h.tk, h.dn, h.tr, h.ou⟩), Option.bind_some]
 rw [if_neg h2, if_neg h2, Option.bind_some, Wy (by exact ⟨h.cfg, h.tk, h.dn, h.tr, h.ou⟩), Option.bind_some]
 have htr := W8 {c with Phase := 5, St := v.2.1} ⟨7, 0, 0, 0, false, [], [], Bt⟩
 generalize Mw {c with Phase := 5, St := v.2.1} ⟨7, 0, 0, 0, false, [], [], Bt⟩ = d at htr ⊢
 by_cases h3 : d.Phase = 11
 ·rw [if_pos h3, if_pos (decide_eq_true h3)]
 ·rw [if_neg h3, if_neg (by rw [decide_eq_true_eq]; exact h3)]
  have hl := h.tr
  have e : d.Tried = c.Tried := htr
  rw [e, Rk _ (by simp; omega) (by simp), Option.bind_some]
  simp
def Al2 (p : Cp) (s : A7) (r : Bf) : A7 × Int := (Dj p s r).getD (s, 1)
theorem Ao6 {t : As} (ht : TS t) (s : A7) (r : Bf) (hr : r.List.length ≤ 1000) : Dj t.Prog s r = some (Al2 t.Prog s r) := by
 obtain ⟨u, e, h⟩ := pg.take_tot t.Prog s r ht.2 (by omega)
 unfold Al2
 rw [h]
 rfl
def Pk (c : Cl) (t : As) (r : Bf) : Cl :=
 if r.Code ≠ 0 then Sq c t else if (Al2 t.Prog c.St r).2 ≠ 0 then Sq c t else Zn {c with St := (Al2 t.Prog c.St r).1} t
theorem nd {x : Int} : (!decide (x = 0)) = decide (x ≠ 0) := by
 by_cases h : x = 0 <;> simp [h]
theorem Ad9 {c : Cl} (h : Fit c) (hd : c.Done.length ≤ 999999) {t : As} (ht : idx c.Tasks 0 = some t) (hs : TS t) (r : Bf) (hr : r.List.length ≤ 1000) : D0 c r = some (Pk c t r) := by
 unfold D0 Pk
 rw [nd]
 by_cases h1 : r.Code ≠ 0
 ·rw [if_pos h1, if_pos (decide_eq_true h1), Yz h hd ht, Option.bind_some]
 rw [if_neg h1, if_neg (by rw [decide_eq_true_eq]; exact h1), ht, Option.bind_some, Ao6 hs _ _ hr, Option.bind_some, nd]
 by_cases h2 : (Al2 t.Prog c.St r).2 ≠ 0
 ·rw [if_pos h2, if_pos (decide_eq_true h2), Yz h hd ht, Option.bind_some]
 ·rw [if_neg h2, if_neg (by rw [decide_eq_true_eq]; exact h2), Aga (by exact ⟨h.cfg, h.tk, h.dn, h.tr, h.ou⟩) (by exact ht) hs, Option.bind_some]
def Xp (c : Cl) (t : As) (r : Bf) : Cl := if r.Code ≠ 0 then Oy c t r.Code else Zn c t
theorem Al0 {c : Cl} (h : Fit c) (hd : c.Done.length ≤ 999999) {t : As} (ht : idx c.Tasks 0 = some t) (hs : TS t) (r : Bf) : Ey c r = some (Xp c t r) := by
 unfold Ey Xp
 rw [nd]
 by_cases h1 : r.Code ≠ 0
 ·rw [if_pos h1, if_pos (decide_eq_true h1), Aa1 h hd ht, Option.bind_some]
 ·rw [if_neg h1, if_neg (by rw [decide_eq_true_eq]; exact h1), Aga h ht hs, Option.bind_some]
def Yb (c : Cl) (t : As) (r : Bf) : Cl := if r.Code ≠ 0 then Oy c t r.Code else Mk c t 1 r.N
theorem Ano {c : Cl} (h : Fit c) (hd : c.Done.length ≤ 999999) {t : As} (ht : idx c.Tasks 0 = some t) (r : Bf) : Ez c r = some (Yb c t r) := by
 unfold Ez Yb
 rw [nd]
 by_cases h1 : r.Code ≠ 0
 ·rw [if_pos h1, if_pos (decide_eq_true h1), Aa1 h hd ht, Option.bind_some]
 ·rw [if_neg h1, if_neg (by rw [decide_eq_true_eq]; exact h1), Pl h hd ht, Option.bind_some]
def Ad0 (c : Cl) (t : As) (r : Bf) : Cl :=
 if r.Code ≠ 0 then {c with Phase := 10, Left := 4} else if 0 < r.N then (if c.Risk then Mk c t 1 r.N else Mk c t 4 r.N) else if c.St.Stopped then Mk c t 2 0 else Sq c t
theorem Ap3 {c : Cl} (h : Fit c) (hd : c.Done.length ≤ 999999) {t : As} (ht : idx c.Tasks 0 = some t) (r : Bf) : Fm c r = some (Ad0 c t r) := by
 unfold Fm Ad0
 rw [nd]
 by_cases h1 : r.Code ≠ 0
 ·rw [if_pos h1, if_pos (decide_eq_true h1), h.cfg, show pl.Plan = ⟨4, 30, 4⟩ from rfl, Yx, Option.bind_some, ← h.cfg]
  rfl
 rw [if_neg h1, if_neg (by rw [decide_eq_true_eq]; exact h1)]
 by_cases h2 : 0 < r.N
 ·rw [if_pos h2, decide_eq_true h2, if_pos rfl]
  by_cases h3 : c.Risk = true
  ·rw [if_pos h3, if_pos h3, Pl h hd ht, Option.bind_some]
  ·rw [if_neg h3, if_neg h3, if_pos rfl, Pl h hd ht, Option.bind_some]
 ·rw [if_neg h2, decide_eq_false h2, if_neg (by decide), if_neg (by decide)]
  by_cases h3 : c.St.Stopped = true
  ·rw [if_pos h3, if_pos h3, Pl h hd ht, Option.bind_some]
  ·rw [if_neg h3, if_neg h3, Yz h hd ht, Option.bind_some]
def Xz (c : Cl) : Cl := Qm {Abh c with Phase := 0}
theorem Ana {c : Cl} (h : Fit c) (h0 : c.Tasks ≠ []) (r : Bf) : E4 c r = some (Xz c) := by
 unfold E4 Xz
 have h8 := h.tk
 rw [Ak5 h h0, Option.bind_some, Agl (by exact ⟨h.cfg, by show (c.Tasks.drop 1).length ≤ 8; simp; omega, h.dn, h.tr, h.ou⟩), Option.bind_some]
def Tj (c : Cl) (r : Bf) : Cl := if r.Code ≠ 0 then Ww c else Qm c
theorem Afx {c : Cl} (h : Fit c) (h9 : c.Phase = 9 → c.Tasks ≠ []) (r : Bf) : Eh c r = some (Tj c r) := by
 unfold Eh Tj
 rw [nd]
 by_cases h1 : r.Code ≠ 0
 ·rw [if_pos h1, if_pos (decide_eq_true h1), Zt h h9, Option.bind_some]
 ·rw [if_neg h1, if_neg (by rw [decide_eq_true_eq]; exact h1), Agl h, Option.bind_some]
end Go.Proofs.YtbjckaahoacbfaaGreatDoor.Abs
