/-
 The client's functions, as plain functions.
-/
import Derived.Test.YtbjckaahoacbfaaGreatDoorEP21p
import Derived.Test.YtbjckaahoacbfaaGreatDoorEP21q
set_option linter.unusedVariables false
set_option linter.unusedSimpArgs false
namespace Go.Proofs.YtbjckaahoacbfaaGreatDoor.Abs
open mg (Fu eR Ow)
abbrev Cl := Ag
abbrev z8 : Ev := ⟨0, 0, 0, 0, 0, 0, 0, 0⟩
def pl : Cp := ⟨3, ⟨4, 30, 4⟩, 3, 2⟩
def Pv (n : Int) : Int × Bool := if n = 0 then (4, true) else if n = 1 then (8, true) else if n = 2 then (16, true) else if n = 3 then (30, true) else (0, false)
theorem Arx : Ajf ⟨4, 30, 4⟩ = some [(0, 4), (1, 8), (2, 16), (3, 30)] := by decide +kernel
theorem Yp (n : Int) : Gz ⟨4, 30, 4⟩ n = some (Pv n) := by
 unfold Gz
 rw [Arx, Option.bind_some]
 unfold Pv
 by_cases h0 : n = 0
 ·subst h0; rfl
 by_cases h1 : n = 1
 ·subst h1; rfl
 by_cases h2 : n = 2
 ·subst h2; rfl
 by_cases h3 : n = 3
 ·subst h3; rfl
 have e : ∀ (k d : Int) (s : Int × Bool), ¬ n = k → Im n s (k, d) = some (.inl s) := fun k d s h => by
  unfold Im
  rw [if_neg (by rw [decide_eq_true_eq]; exact fun h' => h h'.symm)]
 rw [if_neg h0, if_neg h1, if_neg h2, if_neg h3]
 simp only [Tr, e _ _ _ h0, e _ _ _ h1, e _ _ _ h2, e _ _ _ h3, Option.bind_some, Akk]
 rfl
theorem Ac4 (n : Int) : ∃ v, Dl ⟨4, 30, 4⟩ n (BitVec.ofInt 64 3) = some v ∧ 0 ≤ v.1 ∧ v.1 ≤ 50 := by
 by_cases h0 : n = 0
 ·subst h0; exact ⟨(Dl ⟨4, 30, 4⟩ 0 (BitVec.ofInt 64 3)).getD (0, false), by decide +kernel, by decide +kernel, by decide +kernel⟩
 by_cases h1 : n = 1
 ·subst h1; exact ⟨(Dl ⟨4, 30, 4⟩ 1 (BitVec.ofInt 64 3)).getD (0, false), by decide +kernel, by decide +kernel, by decide +kernel⟩
 by_cases h2 : n = 2
 ·subst h2; exact ⟨(Dl ⟨4, 30, 4⟩ 2 (BitVec.ofInt 64 3)).getD (0, false), by decide +kernel, by decide +kernel, by decide +kernel⟩
 by_cases h3 : n = 3
 ·subst h3; exact ⟨(Dl ⟨4, 30, 4⟩ 3 (BitVec.ofInt 64 3)).getD (0, false), by decide +kernel, by decide +kernel, by decide +kernel⟩
 refine ⟨(0, false), ?_, by decide, by decide⟩
 unfold Dl
 rw [Yp, Option.bind_some]
 unfold Pv
 rw [if_neg h0, if_neg h1, if_neg h2, if_neg h3]
 rfl
def Si (n : Int) : Int := ((Dl ⟨4, 30, 4⟩ n (BitVec.ofInt 64 3)).getD (0, false)).1
theorem Ag1 (n : Int) : 0 ≤ Si n ∧ Si n ≤ 50 := by
 obtain ⟨v, hv, h⟩ := Ac4 n
 unfold Si
 rw [hv]
 exact h
structure Fit (c : Cl) : Prop where
 cfg : c.Cfg = pl
 tk : c.Tasks.length ≤ 8
 dn : c.Done.length ≤ 1000000
 tr : c.Tried.length ≤ 1000000
 ou : c.Out.length ≤ 65536
theorem Yw {c : Cl} (r : Ba) (h : c.Done.length ≤ 1000100) : C7 c r = some {c with Done := c.Done ++ [r]} := by
 unfold C7
 rw [Qz _ (by simp; omega) (by simp), Option.bind_some]
 simp
def Z3 (c : Cl) : Int := if c.Risk then 4 else if 0 < c.Attempt then if c.St.Stopped then 2 else 3 else 3
theorem An4 (c : Cl) : F9 c = some (Z3 c) := by
 unfold F9 Z3
 by_cases h : 0 < c.Attempt
 ·rw [if_pos h, decide_eq_true h]
  cases c.Risk <;> cases c.St.Stopped <;> rfl
 ·rw [if_neg h, decide_eq_false h]
  cases c.Risk <;> rfl
def Adf (c : Cl) : List Ba := match c.Tasks with
 | [] => []
 | t :: ts => (if c.Phase = 9 then [] else [⟨t.Token, Z3 c, c.Attempt, 0, z8⟩]) ++ ts.map fun t => ⟨t.Token, 3, 0, 0, z8⟩
def Afb (c : Cl) : Cl := {c with Done := c.Done ++ Adf c, Tasks := [], Phase := 11, Left := 0}
theorem Ip (c : Cl) : c.Tasks = [] ∨ ∃ t ts, c.Tasks = t :: ts := by
 cases c.Tasks with
 | nil => exact .inl rfl
 | cons t ts => exact .inr ⟨t, ts, rfl⟩
theorem Aq9 {c : Cl} {i : Nat} {D : List Ba} (h0 : 0 < i) (hlt : i < c.Tasks.length) (h8 : c.Tasks.length ≤ 8) (hD : D.length ≤ 1000050) :
  Bv c ((i : Int), {c with Done := D}) = some (.cont (((i + 1 : Nat) : Int), {c with Done := D ++ [⟨(c.Tasks[i]).Token, 3, 0, 0, z8⟩]})) := by
 unfold Bv
 dsimp only
 rw [if_pos (decide_eq_true (by omega)), Gy, List.getElem?_eq_getElem hlt, Option.bind_some, if_pos (decide_eq_true (by omega)), Yw _ (by dsimp only; omega), Option.bind_some, Dx (by omega) (by omega)]
 rfl
theorem Apk {c : Cl} {D : List Ba} {i : Nat} (hi : i = c.Tasks.length) : Bv c ((i : Int), {c with Done := D}) = some (.brk {c with Done := D}) := by
 unfold Bv
 dsimp only
 rw [if_neg (by rw [decide_eq_true_eq]; omega)]
theorem Ahq {c : Cl} (h8 : c.Tasks.length ≤ 8) : ∀ (k i : Nat) (D : List Ba) (n : Nat), i + k = c.Tasks.length → k < n → D.length + k ≤ 1000050 → 0 < i →
   Ez (Bv c) n ((i : Int), {c with Done := D}) = some {c with Done := D ++ (c.Tasks.drop i).map fun t => ⟨t.Token, 3, 0, 0, z8⟩}
 | 0, i, D, n, hi, hn, hD, h0 => by
  obtain ⟨m, rfl⟩ : ∃ m, n = m + 1 := ⟨n - 1, by omega⟩
  rw [Ez, Apk (by omega), List.drop_of_length_le (by omega), List.map_nil, List.append_nil]
 | k + 1, i, D, n, hi, hn, hD, h0 => by
  obtain ⟨m, rfl⟩ : ∃ m, n = m + 1 := ⟨n - 1, by omega⟩
  have hlt : i < c.Tasks.length := by omega
  rw [Ez, Aq9 h0 hlt h8 (by omega)]
  dsimp only
  rw [Ahq h8 k (i + 1) _ m (by omega) (by omega) (by simp; omega) (by omega), List.drop_eq_getElem_cons hlt, List.map_cons, List.append_assoc]
  rfl
theorem Ae9 {c : Cl} (h : Fit c) : Ce c = some (Afb c) := by
 unfold Ce
 have h8 := h.tk
 have hd := h.dn
 have hz : Ez (Bv c) fuel (0, c) = some {c with Done := c.Done ++ Adf c} := by
  obtain ⟨m, hm, hmb⟩ : ∃ m, fuel = m + 1 ∧ 100 < m := ⟨fuel - 1, by unfold fuel; omega, by unfold fuel; omega⟩
  rw [hm, Ez]
  rcases Ip c with hts | ⟨t, ts, hts⟩
  ·rw [show Adf c = [] from by unfold Adf; rw [hts], List.append_nil]
   have e := Apk (c := c) (D := c.Done) (i := 0) (by rw [hts]; rfl)
   rw [show ((0 : Nat) : Int) = 0 from rfl] at e
   rw [show (({c with Done := c.Done} : Cl)) = c from rfl] at e
   rw [e]
  ·have hl : c.Tasks.length = ts.length + 1 := by rw [hts]; rfl
   have hd1 : c.Tasks.drop 1 = ts := by rw [hts]; rfl
   have hi0 : idx c.Tasks 0 = some t := by rw [hts]; rfl
   have k1 := fun D hD => Ahq h8 ts.length 1 D m (by omega) (by omega) hD (by omega)
   rw [hd1] at k1
   by_cases h9 : c.Phase = 9
   ·have e : Bv c (0, c) = some (.cont (((1 : Nat) : Int), {c with Done := c.Done})) := by
     unfold Bv
     dsimp only
     rw [if_pos (decide_eq_true (by omega)), hi0, Option.bind_some, if_neg (nn (by rfl)), if_neg (nn (by rw [decide_eq_true h9]; rfl))]
     rfl
    rw [e]
    dsimp only
    rw [k1 _ (by omega), show Adf c = ts.map (fun t => ⟨t.Token, 3, 0, 0, z8⟩) from by unfold Adf; rw [hts]; dsimp only; rw [if_pos h9]; rfl]
   ·have e : Bv c (0, c) = some (.cont (((1 : Nat) : Int), {c with Done := c.Done ++ [⟨t.Token, Z3 c, c.Attempt, 0, z8⟩]})) := by
     unfold Bv
     dsimp only
     rw [if_pos (decide_eq_true (by omega)), hi0, Option.bind_some, if_neg (nn (by rfl)), if_pos (by rw [decide_eq_false h9]; rfl), An4, Option.bind_some, Yw _ (by omega), Option.bind_some]
     rfl
    rw [e]
    dsimp only
    rw [k1 _ (by simp; omega), show Adf c = [⟨t.Token, Z3 c, c.Attempt, 0, z8⟩] ++ ts.map (fun t => ⟨t.Token, 3, 0, 0, z8⟩) from by unfold Adf; rw [hts]; dsimp only; rw [if_neg h9], List.append_assoc]
 rw [hz, Option.bind_some]
 rfl
def Ahf (c : Cl) : Cl := if Fu c.Req then {c with Out := c.Out ++ fr (eR (Ow c.Req))} else Afb c
theorem Apn {c : Cl} (h : Fit c) : Fg c = some (Ahf c) := by
 unfold Fg Ahf
 rw [mg.putReq_m, Option.bind_some]
 cases hs : Fu c.Req with
 | false =>
  rw [if_neg (show ¬ false = true by decide), if_neg (show ¬ false = true by decide)]
  dsimp only
  rw [if_pos (show (!decide ((1 : Int) = 0)) = true from rfl), Ae9 h, Option.bind_some]
 | true =>
  rw [if_pos rfl, if_pos rfl]
  dsimp only
  rw [if_neg (nn (by rfl)), Alg _ _ (by have := h.ou; omega) (by have := mg.eR_len hs; omega), Option.bind_some]
  rfl
def Pa (c : Cl) (r : B6) : Cl := if 4294967295 < c.Seq then Afb c else if 60000 < c.Out.length then Afb c else Ahf {c with Seq := wI (c.Seq + 1), Sent := 0, Left := 4, Req := {r with Seq := c.Seq}}
theorem Wi {c : Cl} (h : Fit c) (r : B6) : Cb c r = some (Pa c r) := by
 unfold Cb Pa
 by_cases h1 : 4294967295 < c.Seq
 ·rw [if_pos (decide_eq_true h1), if_pos h1, Ae9 h, Option.bind_some]
 rw [if_neg (by rw [decide_eq_true_eq]; exact h1), if_neg h1]
 unfold Ep
 rw [Option.bind_some]
 by_cases h2 : 60000 < c.Out.length
 ·rw [if_pos (decide_eq_true (by omega)), if_pos h2, Ae9 h, Option.bind_some]
 rw [if_neg (by rw [decide_eq_true_eq]; omega), if_neg h2]
 unfold Gl
 rw [h.cfg, show pl.Plan = ⟨4, 30, 4⟩ from rfl, Yp, Option.bind_some, show (Pv 0).1 = 4 from rfl, ← h.cfg, Apn (by exact ⟨h.cfg, h.tk, h.dn, h.tr, h.ou⟩), Option.bind_some]
def Ah1 (c : Cl) (t : Av) : Cl := Pa {c with Phase := 7} ⟨9, 0, t.Token, c.Attempt, false, [], [], Bs⟩
theorem Am1 {c : Cl} (h : Fit c) {t : Av} (ht : idx c.Tasks 0 = some t) : D5 c = some (Ah1 c t) := by
 unfold D5 Ah1
 rw [ht, Option.bind_some, Wi (by exact ⟨h.cfg, h.tk, h.dn, h.tr, h.ou⟩), Option.bind_some]
def Tt (c : Cl) (t : Av) : Cl := Pa {c with Phase := 3, Risk := false, St := G4} ⟨2, 0, t.Token, c.Attempt, t.Prog.RO, [], [], Bs⟩
theorem Ahj {c : Cl} (h : Fit c) {t : Av} (ht : idx c.Tasks 0 = some t) : Eb c = some (Tt c t) := by
 unfold Eb Tt
 rw [ht, Option.bind_some, Wi (by exact ⟨h.cfg, h.tk, h.dn, h.tr, h.ou⟩), Option.bind_some]
def T8 (c : Cl) : Cl := match c.Tasks with
 | [] => {c with Phase := 0, Left := 0}
 | t :: _ => if 0 < c.Attempt then Ah1 c t else Tt {c with Attempt := 1} t
theorem Afi {c : Cl} (h : Fit c) : Dw c = some (T8 c) := by
 unfold Dw
 rcases Ip c with hts | ⟨t, ts, hts⟩
 ·rw [if_pos (decide_eq_true (by rw [hts]; rfl)), show T8 c = {c with Phase := 0, Left := 0} from by unfold T8; split <;> simp_all]
 ·have hi0 : idx c.Tasks 0 = some t := by rw [hts]; rfl
  have hl : c.Tasks.length = ts.length + 1 := by rw [hts]; rfl
  rw [if_neg (by rw [decide_eq_true_eq]; omega), show T8 c = if 0 < c.Attempt then Ah1 c t else Tt {c with Attempt := 1} t from by unfold T8; split <;> simp_all]
  by_cases ha : 0 < c.Attempt
  ·rw [if_pos (decide_eq_true ha), if_pos ha, Am1 h hi0, Option.bind_some]
  ·rw [if_neg (by rw [decide_eq_true_eq]; exact ha), if_neg ha, Ahj (by exact ⟨h.cfg, h.tk, h.dn, h.tr, h.ou⟩) (by exact hi0), Option.bind_some]
def M8 (c : Cl) (t : Av) (code ts : Int) : Cl :=
 Pa {c with Done := c.Done ++ [⟨t.Token, code, c.Attempt, ts, if code = 1 then c.St.Regs else z8⟩], Phase := 9, Risk := false} ⟨10, 0, t.Token, 0, false, [], [], Bs⟩
theorem O3 {c : Cl} (h : Fit c) (hd : c.Done.length ≤ 999999) {t : Av} (ht : idx c.Tasks 0 = some t) (code ts : Int) : Bu c code ts = some (M8 c t code ts) := by
 unfold Bu M8
 rw [ht, Option.bind_some]
 have k : ∀ r : Ba, r.Token = t.Token → Cu c r = some (Pa {c with Done := c.Done ++ [r], Phase := 9, Risk := false} ⟨10, 0, t.Token, 0, false, [], [], Bs⟩) := fun r hr => by
  unfold Cu
  rw [Yw _ (by omega), Option.bind_some, hr, Wi (by exact ⟨h.cfg, h.tk, by simp; omega, h.tr, h.ou⟩), Option.bind_some]
 by_cases hc : code = 1
 ·rw [if_pos (decide_eq_true hc), if_pos hc, k _ rfl]
 ·rw [if_neg (by rw [decide_eq_true_eq]; exact hc), if_neg hc, k _ rfl]
end Go.Proofs.YtbjckaahoacbfaaGreatDoor.Abs
