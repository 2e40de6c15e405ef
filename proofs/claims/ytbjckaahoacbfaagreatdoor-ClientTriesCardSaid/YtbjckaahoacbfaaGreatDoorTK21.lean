/-
 The client's functions, as plain functions.
-/
import Derived.Test.YtbjckaahoacbfaaGreatDoorTP21p
import Derived.Test.YtbjckaahoacbfaaGreatDoorTP21q
set_option linter.unusedVariables false
set_option linter.unusedSimpArgs false
namespace Go.Proofs.YtbjckaahoacbfaaGreatDoor.Abs
open mg (Fdz eR Oi)
abbrev Cl := Ai
abbrev z8 : E5 := ⟨0, 0, 0, 0, 0, 0, 0, 0⟩
def pl : Cr := ⟨3, ⟨4, 30, 4⟩, 3, 2⟩
def Qd (n : Int) : Int × Bool := if n = 0 then (4, true) else if n = 1 then (8, true) else if n = 2 then (16, true) else if n = 3 then (30, true) else (0, false)
theorem Asd : Aiv ⟨4, 30, 4⟩ = some [(0, 4), (1, 8), (2, 16), (3, 30)] := by decide +kernel
theorem Yx (n : Int) : Gx ⟨4, 30, 4⟩ n = some (Qd n) := by
 unfold Gx
 rw [Asd, Option.bind_some]
 unfold Qd
 by_cases h0 : n = 0
 ·subst h0; rfl
 by_cases h1 : n = 1
 ·subst h1; rfl
 by_cases h2 : n = 2
 ·subst h2; rfl
 by_cases h3 : n = 3
 ·subst h3; rfl
 have e : ∀ (k d : Int) (s : Int × Bool), ¬ n = k → Iq n s (k, d) = some (.inl s) := fun k d s h => by
  unfold Iq
  rw [if_neg (by rw [decide_eq_true_eq]; exact fun h' => h h'.symm)]
 rw [if_neg h0, if_neg h1, if_neg h2, if_neg h3]
 simp only [Ud, e _ _ _ h0, e _ _ _ h1, e _ _ _ h2, e _ _ _ h3, Option.bind_some, Alh]
 rfl
theorem Add (n : Int) : ∃ v, Dm ⟨4, 30, 4⟩ n (BitVec.ofInt 64 3) = some v ∧ 0 ≤ v.1 ∧ v.1 ≤ 50 := by
 by_cases h0 : n = 0
 ·subst h0; exact ⟨(Dm ⟨4, 30, 4⟩ 0 (BitVec.ofInt 64 3)).getD (0, false), by decide +kernel, by decide +kernel, by decide +kernel⟩
 by_cases h1 : n = 1
 ·subst h1; exact ⟨(Dm ⟨4, 30, 4⟩ 1 (BitVec.ofInt 64 3)).getD (0, false), by decide +kernel, by decide +kernel, by decide +kernel⟩
 by_cases h2 : n = 2
 ·subst h2; exact ⟨(Dm ⟨4, 30, 4⟩ 2 (BitVec.ofInt 64 3)).getD (0, false), by decide +kernel, by decide +kernel, by decide +kernel⟩
 by_cases h3 : n = 3
 ·subst h3; exact ⟨(Dm ⟨4, 30, 4⟩ 3 (BitVec.ofInt 64 3)).getD (0, false), by decide +kernel, by decide +kernel, by decide +kernel⟩
 refine ⟨(0, false), ?_, by decide, by decide⟩
 unfold Dm
 rw [Yx, Option.bind_some]
 unfold Qd
 rw [if_neg h0, if_neg h1, if_neg h2, if_neg h3]
 rfl
def Th (n : Int) : Int := ((Dm ⟨4, 30, 4⟩ n (BitVec.ofInt 64 3)).getD (0, false)).1
theorem Afp (n : Int) : 0 ≤ Th n ∧ Th n ≤ 50 := by
 obtain ⟨v, hv, h⟩ := Add n
 unfold Th
 rw [hv]
 exact h
structure Fit (c : Cl) : Prop where
 cfg : c.Cfg = pl
 tk : c.Tasks.length ≤ 8
 dn : c.Done.length ≤ 1000000
 tr : c.Tried.length ≤ 1000000
 ou : c.Out.length ≤ 65536
theorem Yq {c : Cl} (r : A9) (h : c.Done.length ≤ 1000100) : C5 c r = some {c with Done := c.Done ++ [r]} := by
 unfold C5
 rw [Qs _ (by simp; omega) (by simp), Option.bind_some]
 simp
def Xe (c : Cl) : Int := if c.Risk then 4 else if 0 < c.Attempt then if c.St.Stopped then 2 else 3 else 3
theorem Ap5 (c : Cl) : Gd c = some (Xe c) := by
 unfold Gd Xe
 by_cases h : 0 < c.Attempt
 ·rw [if_pos h, decide_eq_true h]
  cases c.Risk <;> cases c.St.Stopped <;> rfl
 ·rw [if_neg h, decide_eq_false h]
  cases c.Risk <;> rfl
def Za (c : Cl) : List A9 := match c.Tasks with
 | [] => []
 | t :: ts => (if c.Phase = 9 then [] else [⟨t.Token, Xe c, c.Attempt, 0, z8⟩]) ++ ts.map fun t => ⟨t.Token, 3, 0, 0, z8⟩
def Aff (c : Cl) : Cl := {c with Done := c.Done ++ Za c, Tasks := [], Phase := 11, Left := 0}
theorem Gp (c : Cl) : c.Tasks = [] ∨ ∃ t ts, c.Tasks = t :: ts := by
 cases c.Tasks with
 | nil => exact .inl rfl
 | cons t ts => exact .inr ⟨t, ts, rfl⟩
theorem Aso {c : Cl} {i : Nat} {D : List A9} (h0 : 0 < i) (hlt : i < c.Tasks.length) (h8 : c.Tasks.length ≤ 8) (hD : D.length ≤ 1000050) :
  Bw c ((i : Int), {c with Done := D}) = some (.cont (((i + 1 : Nat) : Int), {c with Done := D ++ [⟨(c.Tasks[i]).Token, 3, 0, 0, z8⟩]})) := by
 unfold Bw
 dsimp only
 rw [if_pos (decide_eq_true (by omega)), E3, List.getElem?_eq_getElem hlt, Option.bind_some, if_pos (decide_eq_true (by omega)), Yq _ (by dsimp only; omega), Option.bind_some, Dh (by omega) (by omega)]
 rfl
theorem Apn {c : Cl} {D : List A9} {i : Nat} (hi : i = c.Tasks.length) : Bw c ((i : Int), {c with Done := D}) = some (.brk {c with Done := D}) := by
 unfold Bw
 dsimp only
 rw [if_neg (by rw [decide_eq_true_eq]; omega)]
theorem Ahy {c : Cl} (h8 : c.Tasks.length ≤ 8) : ∀ (k i : Nat) (D : List A9) (n : Nat), i + k = c.Tasks.length → k < n → D.length + k ≤ 1000050 → 0 < i →
   Ej (Bw c) n ((i : Int), {c with Done := D}) = some {c with Done := D ++ (c.Tasks.drop i).map fun t => ⟨t.Token, 3, 0, 0, z8⟩}
 | 0, i, D, n, hi, hn, hD, h0 => by
  obtain ⟨m, rfl⟩ : ∃ m, n = m + 1 := ⟨n - 1, by omega⟩
  rw [Ej, Apn (by omega), List.drop_of_length_le (by omega), List.map_nil, List.append_nil]
 | k + 1, i, D, n, hi, hn, hD, h0 => by
  obtain ⟨m, rfl⟩ : ∃ m, n = m + 1 := ⟨n - 1, by omega⟩
  have hlt : i < c.Tasks.length := by omega
  rw [Ej, Aso h0 hlt h8 (by omega)]
  dsimp only
  rw [Ahy h8 k (i + 1) _ m (by omega) (by omega) (by simp; omega) (by omega), List.drop_eq_getElem_cons hlt, List.map_cons, List.append_assoc]
  rfl
theorem Ags {c : Cl} (h : Fit c) : Cf c = some (Aff c) := by
 unfold Cf
 have h8 := h.tk
 have hd := h.dn
 have hz : Ej (Bw c) fuel (0, c) = some {c with Done := c.Done ++ Za c} := by
  obtain ⟨m, hm, hmb⟩ : ∃ m, fuel = m + 1 ∧ 100 < m := ⟨fuel - 1, by unfold fuel; omega, by unfold fuel; omega⟩
  rw [hm, Ej]
  rcases Gp c with hts | ⟨t, ts, hts⟩
  ·rw [show Za c = [] from by unfold Za; rw [hts], List.append_nil]
   have e := Apn (c := c) (D := c.Done) (i := 0) (by rw [hts]; rfl)
   rw [show ((0 : Nat) : Int) = 0 from rfl] at e
   rw [show (({c with Done := c.Done} : Cl)) = c from rfl] at e
   rw [e]
  ·have hl : c.Tasks.length = ts.length + 1 := by rw [hts]; rfl
   have hd1 : c.Tasks.drop 1 = ts := by rw [hts]; rfl
   have hi0 : idx c.Tasks 0 = some t := by rw [hts]; rfl
   have k1 := fun D hD => Ahy h8 ts.length 1 D m (by omega) (by omega) hD (by omega)
   rw [hd1] at k1
   by_cases h9 : c.Phase = 9
   ·have e : Bw c (0, c) = some (.cont (((1 : Nat) : Int), {c with Done := c.Done})) := by
     unfold Bw
     dsimp only
     rw [if_pos (decide_eq_true (by omega)), hi0, Option.bind_some, if_neg (nn (by rfl)), if_neg (nn (by rw [decide_eq_true h9]; rfl))]
     rfl
    rw [e]
    dsimp only
    rw [k1 _ (by omega), show Za c = ts.map (fun t => ⟨t.Token, 3, 0, 0, z8⟩) from by unfold Za; rw [hts]; dsimp only; rw [if_pos h9]; rfl]
   ·have e : Bw c (0, c) = some (.cont (((1 : Nat) : Int), {c with Done := c.Done ++ [⟨t.Token, Xe c, c.Attempt, 0, z8⟩]})) := by
     unfold Bw
     dsimp only
     rw [if_pos (decide_eq_true (by omega)), hi0, Option.bind_some, if_neg (nn (by rfl)), if_pos (by rw [decide_eq_false h9]; rfl), Ap5, Option.bind_some, Yq _ (by omega), Option.bind_some]
     rfl
    rw [e]
    dsimp only
    rw [k1 _ (by simp; omega), show Za c = [⟨t.Token, Xe c, c.Attempt, 0, z8⟩] ++ ts.map (fun t => ⟨t.Token, 3, 0, 0, z8⟩) from by unfold Za; rw [hts]; dsimp only; rw [if_neg h9], List.append_assoc]
 rw [hz, Option.bind_some]
 rfl
def Agy (c : Cl) : Cl := if Fdz c.Req then {c with Out := c.Out ++ fr (eR (Oi c.Req))} else Aff c
theorem Aov {c : Cl} (h : Fit c) : Fj c = some (Agy c) := by
 unfold Fj Agy
 rw [mg.putReq_m, Option.bind_some]
 cases hs : Fdz c.Req with
 | false =>
  rw [if_neg (show ¬ false = true by decide), if_neg (show ¬ false = true by decide)]
  dsimp only
  rw [if_pos (show (!decide ((1 : Int) = 0)) = true from rfl), Ags h, Option.bind_some]
 | true =>
  rw [if_pos rfl, if_pos rfl]
  dsimp only
  rw [if_neg (nn (by rfl)), Am7 _ _ (by have := h.ou; omega) (by have := mg.eR_len hs; omega), Option.bind_some]
  rfl
def Mw (c : Cl) (r : B6) : Cl := if 4294967295 < c.Seq then Aff c else if 60000 < c.Out.length then Aff c else Agy {c with Seq := wI (c.Seq + 1), Sent := 0, Left := 4, Req := {r with Seq := c.Seq}}
theorem Wy {c : Cl} (h : Fit c) (r : B6) : Cb c r = some (Mw c r) := by
 unfold Cb Mw
 by_cases h1 : 4294967295 < c.Seq
 ·rw [if_pos (decide_eq_true h1), if_pos h1, Ags h, Option.bind_some]
 rw [if_neg (by rw [decide_eq_true_eq]; exact h1), if_neg h1]
 unfold Es
 rw [Option.bind_some]
 by_cases h2 : 60000 < c.Out.length
 ·rw [if_pos (decide_eq_true (by omega)), if_pos h2, Ags h, Option.bind_some]
 rw [if_neg (by rw [decide_eq_true_eq]; omega), if_neg h2]
 unfold Gu
 rw [h.cfg, show pl.Plan = ⟨4, 30, 4⟩ from rfl, Yx, Option.bind_some, show (Qd 0).1 = 4 from rfl, ← h.cfg, Aov (by exact ⟨h.cfg, h.tk, h.dn, h.tr, h.ou⟩), Option.bind_some]
def Af3 (c : Cl) (t : As) : Cl := Mw {c with Phase := 7} ⟨9, 0, t.Token, c.Attempt, false, [], [], Bt⟩
theorem Al6 {c : Cl} (h : Fit c) {t : As} (ht : idx c.Tasks 0 = some t) : D4 c = some (Af3 c t) := by
 unfold D4 Af3
 rw [ht, Option.bind_some, Wy (by exact ⟨h.cfg, h.tk, h.dn, h.tr, h.ou⟩), Option.bind_some]
def Sp (c : Cl) (t : As) : Cl := Mw {c with Phase := 3, Risk := false, St := Gh} ⟨2, 0, t.Token, c.Attempt, t.Prog.RO, [], [], Bt⟩
theorem Af8 {c : Cl} (h : Fit c) {t : As} (ht : idx c.Tasks 0 = some t) : Ec c = some (Sp c t) := by
 unfold Ec Sp
 rw [ht, Option.bind_some, Wy (by exact ⟨h.cfg, h.tk, h.dn, h.tr, h.ou⟩), Option.bind_some]
def Qm (c : Cl) : Cl := match c.Tasks with
 | [] => {c with Phase := 0, Left := 0}
 | t :: _ => if 0 < c.Attempt then Af3 c t else Sp {c with Attempt := 1} t
theorem Agl {c : Cl} (h : Fit c) : Dv c = some (Qm c) := by
 unfold Dv
 rcases Gp c with hts | ⟨t, ts, hts⟩
 ·rw [if_pos (decide_eq_true (by rw [hts]; rfl)), show Qm c = {c with Phase := 0, Left := 0} from by unfold Qm; split <;> simp_all]
 ·have hi0 : idx c.Tasks 0 = some t := by rw [hts]; rfl
  have hl : c.Tasks.length = ts.length + 1 := by rw [hts]; rfl
  rw [if_neg (by rw [decide_eq_true_eq]; omega), show Qm c = if 0 < c.Attempt then Af3 c t else Sp {c with Attempt := 1} t from by unfold Qm; split <;> simp_all]
  by_cases ha : 0 < c.Attempt
  ·rw [if_pos (decide_eq_true ha), if_pos ha, Al6 h hi0, Option.bind_some]
  ·rw [if_neg (by rw [decide_eq_true_eq]; exact ha), if_neg ha, Af8 (by exact ⟨h.cfg, h.tk, h.dn, h.tr, h.ou⟩) (by exact hi0), Option.bind_some]
def Mk (c : Cl) (t : As) (code ts : Int) : Cl :=
 Mw {c with Done := c.Done ++ [⟨t.Token, code, c.Attempt, ts, if code = 1 then c.St.Regs else z8⟩], Phase := 9, Risk := false} ⟨10, 0, t.Token, 0, false, [], [], Bt⟩
theorem Pl {c : Cl} (h : Fit c) (hd : c.Done.length ≤ 999999) {t : As} (ht : idx c.Tasks 0 = some t) (code ts : Int) : Bv c code ts = some (Mk c t code ts) := by
 unfold Bv Mk
 rw [ht, Option.bind_some]
 have k : ∀ r : A9, r.Token = t.Token → Cu c r = some (Mw {c with Done := c.Done ++ [r], Phase := 9, Risk := false} ⟨10, 0, t.Token, 0, false, [], [], Bt⟩) := fun r hr => by
  unfold Cu
  rw [Yq _ (by omega), Option.bind_some, hr, Wy (by exact ⟨h.cfg, h.tk, by simp; omega, h.tr, h.ou⟩), Option.bind_some]
 by_cases hc : code = 1
 ·rw [if_pos (decide_eq_true hc), if_pos hc, k _ rfl]
 ·rw [if_neg (by rw [decide_eq_true_eq]; exact hc), if_neg hc, k _ rfl]
end Go.Proofs.YtbjckaahoacbfaaGreatDoor.Abs
