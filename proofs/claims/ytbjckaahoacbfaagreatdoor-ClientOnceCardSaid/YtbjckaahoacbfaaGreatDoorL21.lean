/-
 The client's functions, as plain functions: the rest.
-/
import Derived.Test.YtbjckaahoacbfaaGreatDoorK21
set_option linter.unusedVariables false
set_option linter.unusedSimpArgs false
namespace Go.Proofs.YtbjckaahoacbfaaGreatDoor.Abs
open mg (F5 eR Pf)
def TS (t : Aw) : Prop := Dh t = some true ∧ t.Prog.Ops.length ≤ 1000
def Aha (c : Cl) : Cl := {c with Tasks := c.Tasks.drop 1, Attempt := 0}
theorem Akz {c : Cl} (h : Fit c) (h0 : c.Tasks ≠ []) : Ev c = some (Aha c) := by
 unfold Ev Aha
 have h8 := h.tk
 have hp : 0 < c.Tasks.length := List.length_pos_iff.2 h0
 rw [Ow (by decide) (by omega) (by omega), Option.bind_some]
 rw [show ((c.Tasks.drop (1 : Int).toNat).take ((c.Tasks.length : Int).toNat - (1 : Int).toNat)) = c.Tasks.drop 1 from by
  rw [Int.toNat_natCast, show (1 : Int).toNat = 1 from rfl]
  exact List.take_of_length_le (by simp)]
 rw [Rs _ (by simp; omega), Option.bind_some]
def Ah3 (c : Cl) : Int := if 1001 < wI (c.Resets + 1) then 1001 else wI (c.Resets + 1)
def cutV (c : Cl) : Cl := {c with Resets := Ah3 c, In := ⟨[], 0⟩, Out := []}
def Ao2 (c : Cl) : Cl := {c with Phase := 1, Epoch := wI (c.Epoch + 1), Left := 0}
def Yy (c : Cl) : Cl := if 2 < Ah3 c then Ahx (cutV c) else if 65535 ≤ c.Epoch then Ahx (cutV c) else Ao2 (if c.Phase = 9 then Aha (cutV c) else cutV c)
theorem Z5 {c : Cl} (h : Fit c) (h9 : c.Phase = 9 → c.Tasks ≠ []) : Cq c = some (Yy c) := by
 unfold Cq Yy
 have hf : Fit (cutV c) := ⟨h.cfg, h.tk, h.dn, h.tr, by show 0 ≤ _; omega⟩
 have hc : c.Cfg.Budget = 2 := by rw [h.cfg]; rfl
 rw [hc]
 have hd := Ae9 hf
 unfold cutV Ah3 at hd
 by_cases h1 : 2 < Ah3 c
 ·rw [if_pos h1]
  unfold Ah3 at h1
  rw [if_pos (decide_eq_true h1), hd, Option.bind_some]
  rfl
 rw [if_neg h1]
 unfold Ah3 at h1
 rw [if_neg (by rw [decide_eq_true_eq]; exact h1)]
 by_cases h2 : 65535 ≤ c.Epoch
 ·rw [if_pos h2, if_pos (decide_eq_true h2), hd, Option.bind_some]
  rfl
 rw [if_neg h2, if_neg (by rw [decide_eq_true_eq]; exact h2)]
 unfold Gu E5
 by_cases h3 : c.Phase = 9
 ·rw [if_pos h3, if_pos (decide_eq_true h3)]
  have hp := Akz hf (h9 h3)
  unfold cutV Ah3 at hp
  rw [hp, Option.bind_some]
  rfl
 ·rw [if_neg h3, if_neg (by rw [decide_eq_true_eq]; exact h3)]
  rfl
def Any (c : Cl) : Int := if wI (4 - 1) < wI (wI (c.Attempt + 1) - 1) then wI (4 - 1) else wI (wI (c.Attempt + 1) - 1)
def U3 (c : Cl) (t : Aw) : Cl := if 3 ≤ c.Attempt then Nb c t 3 0 else {c with Phase := 8, Attempt := wI (c.Attempt + 1), Left := Su (Any c), Risk := false}
theorem Yp {c : Cl} (h : Fit c) (hd : c.Done.length ≤ 999999) {t : Aw} (ht : idx c.Tasks 0 = some t) : Cg c = some (U3 c t) := by
 unfold Cg U3
 have hc : c.Cfg.Attempts = 3 := by rw [h.cfg]; rfl
 have hp : c.Cfg.Plan = ⟨4, 30, 4⟩ := by rw [h.cfg]; rfl
 have hw : c.Cfg.Who = 3 := by rw [h.cfg]; rfl
 rw [hc, hp, hw]
 by_cases h1 : 3 ≤ c.Attempt
 ·rw [if_pos h1, if_pos (decide_eq_true h1), Pn h hd ht, Option.bind_some]
 rw [if_neg h1, if_neg (by rw [decide_eq_true_eq]; exact h1)]
 obtain ⟨v, hv, -⟩ := Ac5 (Any c)
 have e : Su (Any c) = v.1 := by unfold Su; rw [hv]; rfl
 unfold Any at hv e
 rw [hv, Option.bind_some]
 unfold Any
 rw [e]
def Rn (c : Cl) (t : Aw) (code : Int) : Cl := if code = 7 then Ajg c t else U3 c t
theorem Aao {c : Cl} (h : Fit c) (hd : c.Done.length ≤ 999999) {t : Aw} (ht : idx c.Tasks 0 = some t) (code : Int) : Df c code = some (Rn c t code) := by
 unfold Df Rn
 by_cases h1 : code = 7
 ·rw [if_pos h1, if_pos (decide_eq_true h1), Alw h ht, Option.bind_some]
 ·rw [if_neg h1, if_neg (by rw [decide_eq_true_eq]; exact h1), Yp h hd ht, Option.bind_some]
theorem TS.sane {t : Aw} (h : TS t) : (0 ≤ t.Token ∧ t.Token ≤ 1099511627776) ∧ D0 t.Prog = some true := by
 obtain ⟨h, -⟩ := h
 unfold Dh Bx at h
 by_cases h0 : 0 ≤ t.Token
 ·rw [if_pos (decide_eq_true h0), Option.bind_some] at h
  by_cases h1 : t.Token ≤ 1099511627776
  ·rw [if_pos (decide_eq_true h1)] at h
   obtain ⟨v, hv, e⟩ := An h
   refine ⟨⟨h0, h1⟩, ?_⟩
   rw [hv, e]
  ·rw [if_neg (by rw [decide_eq_true_eq]; exact h1)] at h
   cases h
 ·rw [if_neg (by rw [decide_eq_true_eq]; exact h0), Option.bind_some, if_neg (by decide)] at h
  cases h
def Ru (p : Co) (s : A7) : Ca × A7 × Bool := (Fp p s).getD (Oq, s, false)
theorem Aep (c : Cl) : (Akm c).Tried = c.Tried := by
 unfold Akm
 split <;> rfl
theorem Abw (c : Cl) (r : Ca) : (Q0 c r).Tried = c.Tried := by
 unfold Q0
 split
 ·rfl
 split
 ·rfl
 ·rw [Aep]
theorem Ao3 {t : Aw} (ht : TS t) (s : A7) : Fp t.Prog s = some (Ru t.Prog s) := by
 unfold Ru
 obtain ⟨-, hs⟩ := ht.sane
 obtain ⟨v, hv, hg⟩ := pg.psane_m t.Prog (by have := ht.2; omega)
 rw [hs] at hv
 obtain rfl := Option.some.inj hv
 by_cases h0 : 0 ≤ s.PC
 ·rcases pg.next_m t.Prog s ht.2 hs (hg rfl).1 h0 with ⟨q, u, x, h, -⟩ | ⟨u, h, -⟩ <;> rw [h] <;> rfl
 ·rw [pg.next_no t.Prog s (.inr ⟨hs, by omega⟩)]
  rfl
def Aem (c : Cl) (t : Aw) : Cl :=
 if (Ru t.Prog c.St).2.2 then Q0 {c with Phase := 4, St := (Ru t.Prog c.St).2.1} (Ru t.Prog c.St).1
 else if (Ru t.Prog c.St).2.1.Stopped then Q0 {c with Phase := 6, St := (Ru t.Prog c.St).2.1} ⟨8, 0, 0, 0, false, [], [], Bt⟩
 else if (Q0 {c with Phase := 5, St := (Ru t.Prog c.St).2.1} ⟨7, 0, 0, 0, false, [], [], Bt⟩).Phase = 11 then Q0 {c with Phase := 5, St := (Ru t.Prog c.St).2.1} ⟨7, 0, 0, 0, false, [], [], Bt⟩
 else {Q0 {c with Phase := 5, St := (Ru t.Prog c.St).2.1} ⟨7, 0, 0, 0, false, [], [], Bt⟩ with Risk := true, Tried := c.Tried ++ [⟨t.Token, c.Attempt, (Ru t.Prog c.St).2.1.Regs⟩]}
theorem Agq {c : Cl} (h : Fit c) {t : Aw} (ht : idx c.Tasks 0 = some t) (hs : TS t) : Ed c = some (Aem c t) := by
 unfold Ed Aem
 rw [ht, Option.bind_some, Ao3 hs, Option.bind_some]
 generalize Ru t.Prog c.St = v
 by_cases h1 : v.2.2 = true
 ·rw [if_pos h1, if_pos h1, Vy (by exact ⟨h.cfg, h.tk, h.dn, h.tr, h.ou⟩), Option.bind_some]
 rw [if_neg h1, if_neg h1]
 by_cases h2 : v.2.1.Stopped = true
 ·rw [if_pos h2, if_pos h2, Vy (by exact ⟨h.cfg, h.tk, h.dn, h.tr, h.ou⟩), Option.bind_some]
 rw [if_neg h2, if_neg h2, Option.bind_some, Vy (by exact ⟨h.cfg, h.tk, h.dn, h.tr, h.ou⟩), Option.bind_some]
 have htr := Abw {c with Phase := 5, St := v.2.1} ⟨7, 0, 0, 0, false, [], [], Bt⟩
 generalize Q0 {c with Phase := 5, St := v.2.1} ⟨7, 0, 0, 0, false, [], [], Bt⟩ = d at htr ⊢
 by_cases h3 : d.Phase = 11
 ·rw [if_pos h3, if_pos (decide_eq_true h3)]
 ·rw [if_neg h3, if_neg (by rw [decide_eq_true_eq]; exact h3)]
  have hl := h.tr
  have e : d.Tried = c.Tried := htr
  rw [e, Qj _ (by simp; omega) (by simp), Option.bind_some]
  simp
def An0 (p : Co) (s : A7) (r : Bf) : A7 × Int := (Dl p s r).getD (s, 1)
theorem Apw {t : Aw} (ht : TS t) (s : A7) (r : Bf) (hr : r.List.length ≤ 1000) : Dl t.Prog s r = some (An0 t.Prog s r) := by
 obtain ⟨u, e, h⟩ := pg.take_tot t.Prog s r ht.2 (by omega)
 unfold An0
 rw [h]
 rfl
def Qm (c : Cl) (t : Aw) (r : Bf) : Cl :=
 if r.Code ≠ 0 then U3 c t else if (An0 t.Prog c.St r).2 ≠ 0 then U3 c t else Aem {c with St := (An0 t.Prog c.St r).1} t
theorem nd {x : Int} : (!decide (x = 0)) = decide (x ≠ 0) := by
 by_cases h : x = 0 <;> simp [h]
theorem Adv {c : Cl} (h : Fit c) (hd : c.Done.length ≤ 999999) {t : Aw} (ht : idx c.Tasks 0 = some t) (hs : TS t) (r : Bf) (hr : r.List.length ≤ 1000) : Dz c r = some (Qm c t r) := by
 unfold Dz Qm
 rw [nd]
 by_cases h1 : r.Code ≠ 0
 ·rw [if_pos h1, if_pos (decide_eq_true h1), Yp h hd ht, Option.bind_some]
 rw [if_neg h1, if_neg (by rw [decide_eq_true_eq]; exact h1), ht, Option.bind_some, Apw hs _ _ hr, Option.bind_some, nd]
 by_cases h2 : (An0 t.Prog c.St r).2 ≠ 0
 ·rw [if_pos h2, if_pos (decide_eq_true h2), Yp h hd ht, Option.bind_some]
 ·rw [if_neg h2, if_neg (by rw [decide_eq_true_eq]; exact h2), Agq (by exact ⟨h.cfg, h.tk, h.dn, h.tr, h.ou⟩) (by exact ht) hs, Option.bind_some]
def Aah (c : Cl) (t : Aw) (r : Bf) : Cl := if r.Code ≠ 0 then Rn c t r.Code else Aem c t
theorem Alg {c : Cl} (h : Fit c) (hd : c.Done.length ≤ 999999) {t : Aw} (ht : idx c.Tasks 0 = some t) (hs : TS t) (r : Bf) : E0 c r = some (Aah c t r) := by
 unfold E0 Aah
 rw [nd]
 by_cases h1 : r.Code ≠ 0
 ·rw [if_pos h1, if_pos (decide_eq_true h1), Aao h hd ht, Option.bind_some]
 ·rw [if_neg h1, if_neg (by rw [decide_eq_true_eq]; exact h1), Agq h ht hs, Option.bind_some]
def Za (c : Cl) (t : Aw) (r : Bf) : Cl := if r.Code ≠ 0 then Rn c t r.Code else Nb c t 1 r.N
theorem Amm {c : Cl} (h : Fit c) (hd : c.Done.length ≤ 999999) {t : Aw} (ht : idx c.Tasks 0 = some t) (r : Bf) : Ez c r = some (Za c t r) := by
 unfold Ez Za
 rw [nd]
 by_cases h1 : r.Code ≠ 0
 ·rw [if_pos h1, if_pos (decide_eq_true h1), Aao h hd ht, Option.bind_some]
 ·rw [if_neg h1, if_neg (by rw [decide_eq_true_eq]; exact h1), Pn h hd ht, Option.bind_some]
def Af8 (c : Cl) (t : Aw) (r : Bf) : Cl :=
 if r.Code ≠ 0 then {c with Phase := 10, Left := 4} else if 0 < r.N then (if c.Risk then Nb c t 1 r.N else Nb c t 4 r.N) else if c.St.Stopped then Nb c t 2 0 else U3 c t
theorem Ao7 {c : Cl} (h : Fit c) (hd : c.Done.length ≤ 999999) {t : Aw} (ht : idx c.Tasks 0 = some t) (r : Bf) : Fm c r = some (Af8 c t r) := by
 unfold Fm Af8
 rw [nd]
 by_cases h1 : r.Code ≠ 0
 ·rw [if_pos h1, if_pos (decide_eq_true h1), h.cfg, show pl.Plan = ⟨4, 30, 4⟩ from rfl, Yu, Option.bind_some, ← h.cfg]
  rfl
 rw [if_neg h1, if_neg (by rw [decide_eq_true_eq]; exact h1)]
 by_cases h2 : 0 < r.N
 ·rw [if_pos h2, decide_eq_true h2, if_pos rfl]
  by_cases h3 : c.Risk = true
  ·rw [if_pos h3, if_pos h3, Pn h hd ht, Option.bind_some]
  ·rw [if_neg h3, if_neg h3, if_pos rfl, Pn h hd ht, Option.bind_some]
 ·rw [if_neg h2, decide_eq_false h2, if_neg (by decide), if_neg (by decide)]
  by_cases h3 : c.St.Stopped = true
  ·rw [if_pos h3, if_pos h3, Pn h hd ht, Option.bind_some]
  ·rw [if_neg h3, if_neg h3, Yp h hd ht, Option.bind_some]
def Zj (c : Cl) : Cl := Ul {Aha c with Phase := 0}
theorem Amz {c : Cl} (h : Fit c) (h0 : c.Tasks ≠ []) (r : Bf) : Ex c r = some (Zj c) := by
 unfold Ex Zj
 have h8 := h.tk
 rw [Akz h h0, Option.bind_some, Ahc (by exact ⟨h.cfg, by show (c.Tasks.drop 1).length ≤ 8; simp; omega, h.dn, h.tr, h.ou⟩), Option.bind_some]
def Vl (c : Cl) (r : Bf) : Cl := if r.Code ≠ 0 then Yy c else Ul c
theorem Ae4 {c : Cl} (h : Fit c) (h9 : c.Phase = 9 → c.Tasks ≠ []) (r : Bf) : Eh c r = some (Vl c r) := by
 unfold Eh Vl
 rw [nd]
 by_cases h1 : r.Code ≠ 0
 ·rw [if_pos h1, if_pos (decide_eq_true h1), Z5 h h9, Option.bind_some]
 ·rw [if_neg h1, if_neg (by rw [decide_eq_true_eq]; exact h1), Ahc h, Option.bind_some]
end Go.Proofs.YtbjckaahoacbfaaGreatDoor.Abs
