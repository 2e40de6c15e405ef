/- . -/
import Derived.Test.YtbjckaahoacbfaaGreatDoorSK21
namespace Go.Proofs.YtbjckaahoacbfaaGreatDoor.Abs
open mg (F2 eR Qf)
def TS (t : Am) : Prop := Dq t = some true ∧ t.Prog.Ops.length ≤ 1000
def Ah3 (c : Cl) : Cl := {c with Tasks := c.Tasks.drop 1, Attempt := 0}
theorem An9 {c : Cl} (h : Fit c) (h0 : c.Tasks ≠ []) : E3 c = some (Ah3 c) := by
 unfold E3 Ah3
 have h8 := h.tk
 have hp : 0 < c.Tasks.length := List.length_pos_iff.2 h0
 rw [Qh (by decide) (by omega) (by omega), Option.bind_some]
 rw [show ((c.Tasks.drop (1 : Int).toNat).take ((c.Tasks.length : Int).toNat - (1 : Int).toNat)) = c.Tasks.drop 1 from by
  rw [Int.toNat_natCast, show (1 : Int).toNat = 1 from rfl]
  exact List.take_of_length_le (by simp)]
 rw [T8 _ (by simp; omega), Option.bind_some]
def Ail (c : Cl) : Int := if 1001 < wI (c.Resets + 1) then 1001 else wI (c.Resets + 1)
def cutV (c : Cl) : Cl := {c with Resets := Ail c, In := ⟨[], 0⟩, Out := []}
def Atb (c : Cl) : Cl := {c with Phase := 1, Epoch := wI (c.Epoch + 1), Left := 0}
def Zk (c : Cl) : Cl := if 2 < Ail c then Aln (cutV c) else if 65535 ≤ c.Epoch then Aln (cutV c) else Atb (if c.Phase = 9 then Ah3 (cutV c) else cutV c)
theorem Ac9 {c : Cl} (h : Fit c) (h9 : c.Phase = 9 → c.Tasks ≠ []) : Cy c = some (Zk c) := by
 unfold Cy Zk
 have hf : Fit (cutV c) := ⟨h.cfg, h.tk, h.dn, h.tr, by show 0 ≤ _; omega⟩
 have hc : c.Cfg.Budget = 2 := by rw [h.cfg]; rfl
 rw [hc]
 have hd := Ajj hf
 unfold cutV Ail at hd
 by_cases h1 : 2 < Ail c
 ·rw [if_pos h1]
  unfold Ail at h1
  rw [if_pos (decide_eq_true h1), hd, Option.bind_some]
  rfl
 rw [if_neg h1]
 unfold Ail at h1
 rw [if_neg (by rw [decide_eq_true_eq]; exact h1)]
 by_cases h2 : 65535 ≤ c.Epoch
 ·rw [if_pos h2, if_pos (decide_eq_true h2), hd, Option.bind_some]
  rfl
 rw [if_neg h2, if_neg (by rw [decide_eq_true_eq]; exact h2)]
 unfold Ha Fc
 by_cases h3 : c.Phase = 9
 ·rw [if_pos h3, if_pos (decide_eq_true h3)]
  have hp := An9 hf (h9 h3)
  unfold cutV Ail at hp
  rw [hp, Option.bind_some]
  rfl
 ·rw [if_neg h3, if_neg (by rw [decide_eq_true_eq]; exact h3)]
  rfl
def Ase (c : Cl) : Int := if wI (4 - 1) < wI (wI (c.Attempt + 1) - 1) then wI (4 - 1) else wI (wI (c.Attempt + 1) - 1)
def Un (c : Cl) (t : Am) : Cl := if 3 ≤ c.Attempt then Ns c t 3 0 else {c with Phase := 8, Attempt := wI (c.Attempt + 1), Left := U9 (Ase c), Risk := false}
theorem Abj {c : Cl} (h : Fit c) (hd : c.Done.length ≤ 999999) {t : Am} (ht : idx c.Tasks 0 = some t) : Cj c = some (Un c t) := by
 unfold Cj Un
 have hc : c.Cfg.Attempts = 3 := by rw [h.cfg]; rfl
 have hp : c.Cfg.Plan = ⟨4, 30, 4⟩ := by rw [h.cfg]; rfl
 have hw : c.Cfg.Who = 3 := by rw [h.cfg]; rfl
 rw [hc, hp, hw]
 by_cases h1 : 3 ≤ c.Attempt
 ·rw [if_pos h1, if_pos (decide_eq_true h1), Ro h hd ht, Option.bind_some]
 rw [if_neg h1, if_neg (by rw [decide_eq_true_eq]; exact h1)]
 obtain ⟨v, hv, -⟩ := Agi (Ase c)
 have e : U9 (Ase c) = v.1 := by unfold U9; rw [hv]; rfl
 unfold Ase at hv e
 rw [hv, Option.bind_some]
 unfold Ase
 rw [e]
def Ql (c : Cl) (t : Am) (code : Int) : Cl := if code = 7 then Alr c t else Un c t
theorem Acn {c : Cl} (h : Fit c) (hd : c.Done.length ≤ 999999) {t : Am} (ht : idx c.Tasks 0 = some t) (code : Int) : Dn c code = some (Ql c t code) := by
 unfold Dn Ql
 by_cases h1 : code = 7
 ·rw [if_pos h1, if_pos (decide_eq_true h1), Aq9 h ht, Option.bind_some]
 ·rw [if_neg h1, if_neg (by rw [decide_eq_true_eq]; exact h1), Abj h hd ht, Option.bind_some]
theorem TS.sane {t : Am} (h : TS t) : (0 ≤ t.Token ∧ t.Token ≤ 1099511627776) ∧ D9 t.Prog = some true := by
 obtain ⟨h, -⟩ := h
 unfold Dq B1 at h
 by_cases h0 : 0 ≤ t.Token
 ·rw [if_pos (decide_eq_true h0), Option.bind_some] at h
  by_cases h1 : t.Token ≤ 1099511627776
  ·rw [if_pos (decide_eq_true h1)] at h
   obtain ⟨v, hv, e⟩ := Ag h
   refine ⟨⟨h0, h1⟩, ?_⟩
   rw [hv, e]
  ·rw [if_neg (by rw [decide_eq_true_eq]; exact h1)] at h
   cases h
 ·rw [if_neg (by rw [decide_eq_true_eq]; exact h0), Option.bind_some, if_neg (by decide)] at h
  cases h
def Rw (p : Cv) (s : A1) : B7 × A1 × Bool := (F3 p s).getD (Pl, s, false)
theorem Ahj (c : Cl) : (Aly c).Tried = c.Tried := by
 unfold Aly
 split <;> rfl
theorem Aeg (c : Cl) (r : B7) : (R8 c r).Tried = c.Tried := by
 unfold R8
 split
 ·rfl
 split
 ·rfl
 ·rw [Ahj]
theorem At2 {t : Am} (ht : TS t) (s : A1) : F3 t.Prog s = some (Rw t.Prog s) := by
 unfold Rw
 obtain ⟨-, hs⟩ := ht.sane
 obtain ⟨v, hv, hg⟩ := pg.psane_m t.Prog (by have := ht.2; omega)
 rw [hs] at hv
 obtain rfl := Option.some.inj hv
 by_cases h0 : 0 ≤ s.PC
 ·rcases pg.next_m t.Prog s ht.2 hs (hg rfl).1 h0 with ⟨q, u, x, h, -⟩ | ⟨u, h, -⟩ <;> rw [h] <;> rfl
 ·rw [pg.next_no t.Prog s (.inr ⟨hs, by omega⟩)]
  rfl
def Adh (c : Cl) (t : Am) : Cl :=
 if (Rw t.Prog c.St).2.2 then R8 {c with Phase := 4, St := (Rw t.Prog c.St).2.1} (Rw t.Prog c.St).1
 else if (Rw t.Prog c.St).2.1.Stopped then R8 {c with Phase := 6, St := (Rw t.Prog c.St).2.1} ⟨8, 0, 0, 0, false, [], [], Bu⟩
 else if (R8 {c with Phase := 5, St := (Rw t.Prog c.St).2.1} ⟨7, 0, 0, 0, false, [], [], Bu⟩).Phase = 11 then R8 {c with Phase := 5, St := (Rw t.Prog c.St).2.1} ⟨7, 0, 0, 0, false, [], [], Bu⟩
 else {R8 {c with Phase := 5, St := (Rw t.Prog c.St).2.1} ⟨7, 0, 0, 0, false, [], [], Bu⟩ with Risk := true, Tried := c.Tried ++ [⟨t.Token, c.Attempt, (Rw t.Prog c.St).2.1.Regs⟩]}
theorem Ajf {c : Cl} (h : Fit c) {t : Am} (ht : idx c.Tasks 0 = some t) (hs : TS t) : Es c = some (Adh c t) := by
 unfold Es Adh
 rw [ht, Option.bind_some, At2 hs, Option.bind_some]
 generalize Rw t.Prog c.St = v
 by_cases h1 : v.2.2 = true
 ·rw [if_pos h1, if_pos h1, Ya (by exact ⟨h.cfg, h.tk, h.dn, h.tr, h.ou⟩), Option.bind_some]
 rw [if_neg h1, if_neg h1]
 by_cases h2 : v.2.1.Stopped = true
 ·rw [if_pos h2, if_pos h2, Ya (by exact ⟨h.cfg, h.tk, h.dn, h.tr, h.ou⟩), Option.bind_some]
 rw [if_neg h2, if_neg h2, Option.bind_some, Ya (by exact ⟨h.cfg, h.tk, h.dn, h.tr, h.ou⟩), Option.bind_some]
 have htr := Aeg {c with Phase := 5, St := v.2.1} ⟨7, 0, 0, 0, false, [], [], Bu⟩
 generalize R8 {c with Phase := 5, St := v.2.1} ⟨7, 0, 0, 0, false, [], [], Bu⟩ = d at htr ⊢
 by_cases h3 : d.Phase = 11
 ·rw [if_pos h3, if_pos (decide_eq_true h3)]
 ·rw [if_neg h3, if_neg (by rw [decide_eq_true_eq]; exact h3)]
  have hl := h.tr
  have e : d.Tried = c.Tried := htr
  rw [e, Tb _ (by simp; omega) (by simp), Option.bind_some]
  simp
def Apx (p : Cv) (s : A1) (r : Ba) : A1 × Int := (D2 p s r).getD (s, 1)
theorem At8 {t : Am} (ht : TS t) (s : A1) (r : Ba) (hr : r.List.length ≤ 1000) : D2 t.Prog s r = some (Apx t.Prog s r) := by
 obtain ⟨u, e, h⟩ := pg.take_tot t.Prog s r ht.2 (by omega)
 unfold Apx
 rw [h]
 rfl
def Rp (c : Cl) (t : Am) (r : Ba) : Cl :=
 if r.Code ≠ 0 then Un c t else if (Apx t.Prog c.St r).2 ≠ 0 then Un c t else Adh {c with St := (Apx t.Prog c.St r).1} t
theorem nd {x : Int} : (!decide (x = 0)) = decide (x ≠ 0) := by
 by_cases h : x = 0 <;> simp [h]
theorem Ah1 {c : Cl} (h : Fit c) (hd : c.Done.length ≤ 999999) {t : Am} (ht : idx c.Tasks 0 = some t) (hs : TS t) (r : Ba) (hr : r.List.length ≤ 1000) : Ea c r = some (Rp c t r) := by
 unfold Ea Rp
 rw [nd]
 by_cases h1 : r.Code ≠ 0
 ·rw [if_pos h1, if_pos (decide_eq_true h1), Abj h hd ht, Option.bind_some]
 rw [if_neg h1, if_neg (by rw [decide_eq_true_eq]; exact h1), ht, Option.bind_some, At8 hs _ _ hr, Option.bind_some, nd]
 by_cases h2 : (Apx t.Prog c.St r).2 ≠ 0
 ·rw [if_pos h2, if_pos (decide_eq_true h2), Abj h hd ht, Option.bind_some]
 ·rw [if_neg h2, if_neg (by rw [decide_eq_true_eq]; exact h2), Ajf (by exact ⟨h.cfg, h.tk, h.dn, h.tr, h.ou⟩) (by exact ht) hs, Option.bind_some]
def Z9 (c : Cl) (t : Am) (r : Ba) : Cl := if r.Code ≠ 0 then Ql c t r.Code else Adh c t
theorem Aru {c : Cl} (h : Fit c) (hd : c.Done.length ≤ 999999) {t : Am} (ht : idx c.Tasks 0 = some t) (hs : TS t) (r : Ba) : Ff c r = some (Z9 c t r) := by
 unfold Ff Z9
 rw [nd]
 by_cases h1 : r.Code ≠ 0
 ·rw [if_pos h1, if_pos (decide_eq_true h1), Acn h hd ht, Option.bind_some]
 ·rw [if_neg h1, if_neg (by rw [decide_eq_true_eq]; exact h1), Ajf h ht hs, Option.bind_some]
def Aal (c : Cl) (t : Am) (r : Ba) : Cl := if r.Code ≠ 0 then Ql c t r.Code else Ns c t 1 r.N
theorem Aqj {c : Cl} (h : Fit c) (hd : c.Done.length ≤ 999999) {t : Am} (ht : idx c.Tasks 0 = some t) (r : Ba) : Fe c r = some (Aal c t r) := by
 unfold Fe Aal
 rw [nd]
 by_cases h1 : r.Code ≠ 0
 ·rw [if_pos h1, if_pos (decide_eq_true h1), Acn h hd ht, Option.bind_some]
 ·rw [if_neg h1, if_neg (by rw [decide_eq_true_eq]; exact h1), Ro h hd ht, Option.bind_some]
def Ahg (c : Cl) (t : Am) (r : Ba) : Cl :=
 if r.Code ≠ 0 then {c with Phase := 10, Left := 4} else if 0 < r.N then (if c.Risk then Ns c t 1 r.N else Ns c t 4 r.N) else if c.St.Stopped then Ns c t 2 0 else Un c t
theorem Auz {c : Cl} (h : Fit c) (hd : c.Done.length ≤ 999999) {t : Am} (ht : idx c.Tasks 0 = some t) (r : Ba) : Fv c r = some (Ahg c t r) := by
 unfold Fv Ahg
 rw [nd]
 by_cases h1 : r.Code ≠ 0
 ·rw [if_pos h1, if_pos (decide_eq_true h1), h.cfg, show pl.Plan = ⟨4, 30, 4⟩ from rfl, Abx, Option.bind_some, ← h.cfg]
  rfl
 rw [if_neg h1, if_neg (by rw [decide_eq_true_eq]; exact h1)]
 by_cases h2 : 0 < r.N
 ·rw [if_pos h2, decide_eq_true h2, if_pos rfl]
  by_cases h3 : c.Risk = true
  ·rw [if_pos h3, if_pos h3, Ro h hd ht, Option.bind_some]
  ·rw [if_neg h3, if_neg h3, if_pos rfl, Ro h hd ht, Option.bind_some]
 ·rw [if_neg h2, decide_eq_false h2, if_neg (by decide), if_neg (by decide)]
  by_cases h3 : c.St.Stopped = true
  ·rw [if_pos h3, if_pos h3, Ro h hd ht, Option.bind_some]
  ·rw [if_neg h3, if_neg h3, Abj h hd ht, Option.bind_some]
def Adf (c : Cl) : Cl := U4 {Ah3 c with Phase := 0}
theorem Apv {c : Cl} (h : Fit c) (h0 : c.Tasks ≠ []) (r : Ba) : Fb c r = some (Adf c) := by
 unfold Fb Adf
 have h8 := h.tk
 rw [An9 h h0, Option.bind_some, Aij (by exact ⟨h.cfg, by show (c.Tasks.drop 1).length ≤ 8; simp; omega, h.dn, h.tr, h.ou⟩), Option.bind_some]
def V5 (c : Cl) (r : Ba) : Cl := if r.Code ≠ 0 then Zk c else U4 c
theorem Ah9 {c : Cl} (h : Fit c) (h9 : c.Phase = 9 → c.Tasks ≠ []) (r : Ba) : Ev c r = some (V5 c r) := by
 unfold Ev V5
 rw [nd]
 by_cases h1 : r.Code ≠ 0
 ·rw [if_pos h1, if_pos (decide_eq_true h1), Ac9 h h9, Option.bind_some]
 ·rw [if_neg h1, if_neg (by rw [decide_eq_true_eq]; exact h1), Aij h, Option.bind_some]
end Go.Proofs.YtbjckaahoacbfaaGreatDoor.Abs
