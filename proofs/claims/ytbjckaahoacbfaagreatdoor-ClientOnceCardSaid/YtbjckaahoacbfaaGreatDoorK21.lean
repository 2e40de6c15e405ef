/-
 The client's functions, as plain functions.
-/
import Derived.Test.YtbjckaahoacbfaaGreatDoorP21p
import Derived.Test.YtbjckaahoacbfaaGreatDoorP21q
set_option linter.unusedVariables false
set_option linter.unusedSimpArgs false
namespace Go.Proofs.YtbjckaahoacbfaaGreatDoor.Abs
open mg (F5 eR Pf)
abbrev Cl := Ah
abbrev z8 : E3 := ⟨0, 0, 0, 0, 0, 0, 0, 0⟩
def pl : Cr := ⟨3, ⟨4, 30, 4⟩, 3, 2⟩
def Qr (n : Int) : Int × Bool := if n = 0 then (4, true) else if n = 1 then (8, true) else if n = 2 then (16, true) else if n = 3 then (30, true) else (0, false)
theorem Arj : Aia ⟨4, 30, 4⟩ = some [(0, 4), (1, 8), (2, 16), (3, 30)] := by decide +kernel
theorem Yu (n : Int) : Gw ⟨4, 30, 4⟩ n = some (Qr n) := by
 unfold Gw
 rw [Arj, Option.bind_some]
 unfold Qr
 by_cases h0 : n = 0
 ·subst h0; rfl
 by_cases h1 : n = 1
 ·subst h1; rfl
 by_cases h2 : n = 2
 ·subst h2; rfl
 by_cases h3 : n = 3
 ·subst h3; rfl
 have e : ∀ (k d : Int) (s : Int × Bool), ¬ n = k → Ij n s (k, d) = some (.inl s) := fun k d s h => by
  unfold Ij
  rw [if_neg (by rw [decide_eq_true_eq]; exact fun h' => h h'.symm)]
 rw [if_neg h0, if_neg h1, if_neg h2, if_neg h3]
 simp only [Tj, e _ _ _ h0, e _ _ _ h1, e _ _ _ h2, e _ _ _ h3, Option.bind_some, Ake]
 rfl
theorem Ac5 (n : Int) : ∃ v, Dm ⟨4, 30, 4⟩ n (BitVec.ofInt 64 3) = some v ∧ 0 ≤ v.1 ∧ v.1 ≤ 50 := by
 by_cases h0 : n = 0
 ·subst h0; exact ⟨(Dm ⟨4, 30, 4⟩ 0 (BitVec.ofInt 64 3)).getD (0, false), by decide +kernel, by decide +kernel, by decide +kernel⟩
 by_cases h1 : n = 1
 ·subst h1; exact ⟨(Dm ⟨4, 30, 4⟩ 1 (BitVec.ofInt 64 3)).getD (0, false), by decide +kernel, by decide +kernel, by decide +kernel⟩
 by_cases h2 : n = 2
 ·subst h2; exact ⟨(Dm ⟨4, 30, 4⟩ 2 (BitVec.ofInt 64 3)).getD (0, false), by decide +kernel, by decide +kernel, by decide +kernel⟩
 by_cases h3 : n = 3
 ·subst h3; exact ⟨(Dm ⟨4, 30, 4⟩ 3 (BitVec.ofInt 64 3)).getD (0, false), by decide +kernel, by decide +kernel, by decide +kernel⟩
 refine ⟨(0, false), ?_, by decide, by decide⟩
 unfold Dm
 rw [Yu, Option.bind_some]
 unfold Qr
 rw [if_neg h0, if_neg h1, if_neg h2, if_neg h3]
 rfl
def Su (n : Int) : Int := ((Dm ⟨4, 30, 4⟩ n (BitVec.ofInt 64 3)).getD (0, false)).1
theorem Ag9 (n : Int) : 0 ≤ Su n ∧ Su n ≤ 50 := by
 obtain ⟨v, hv, h⟩ := Ac5 n
 unfold Su
 rw [hv]
 exact h
structure Fit (c : Cl) : Prop where
 cfg : c.Cfg = pl
 tk : c.Tasks.length ≤ 8
 dn : c.Done.length ≤ 1000000
 tr : c.Tried.length ≤ 1000000
 ou : c.Out.length ≤ 65536
theorem Yo {c : Cl} (r : A8) (h : c.Done.length ≤ 1000100) : C4 c r = some {c with Done := c.Done ++ [r]} := by
 unfold C4
 rw [Qq _ (by simp; omega) (by simp), Option.bind_some]
 simp
def Aac (c : Cl) : Int := if c.Risk then 4 else if 0 < c.Attempt then if c.St.Stopped then 2 else 3 else 3
theorem Apu (c : Cl) : Gf c = some (Aac c) := by
 unfold Gf Aac
 by_cases h : 0 < c.Attempt
 ·rw [if_pos h, decide_eq_true h]
  cases c.Risk <;> cases c.St.Stopped <;> rfl
 ·rw [if_neg h, decide_eq_false h]
  cases c.Risk <;> rfl
def Ack (c : Cl) : List A8 := match c.Tasks with
 | [] => []
 | t :: ts => (if c.Phase = 9 then [] else [⟨t.Token, Aac c, c.Attempt, 0, z8⟩]) ++ ts.map fun t => ⟨t.Token, 3, 0, 0, z8⟩
def Ahx (c : Cl) : Cl := {c with Done := c.Done ++ Ack c, Tasks := [], Phase := 11, Left := 0}
theorem Jl (c : Cl) : c.Tasks = [] ∨ ∃ t ts, c.Tasks = t :: ts := by
 cases c.Tasks with
 | nil => exact .inl rfl
 | cons t ts => exact .inr ⟨t, ts, rfl⟩
theorem Arq {c : Cl} {i : Nat} {D : List A8} (h0 : 0 < i) (hlt : i < c.Tasks.length) (h8 : c.Tasks.length ≤ 8) (hD : D.length ≤ 1000050) :
  Bv c ((i : Int), {c with Done := D}) = some (.cont (((i + 1 : Nat) : Int), {c with Done := D ++ [⟨(c.Tasks[i]).Token, 3, 0, 0, z8⟩]})) := by
 unfold Bv
 dsimp only
 rw [if_pos (decide_eq_true (by omega)), F4, List.getElem?_eq_getElem hlt, Option.bind_some, if_pos (decide_eq_true (by omega)), Yo _ (by dsimp only; omega), Option.bind_some, Dj (by omega) (by omega)]
 rfl
theorem Apc {c : Cl} {D : List A8} {i : Nat} (hi : i = c.Tasks.length) : Bv c ((i : Int), {c with Done := D}) = some (.brk {c with Done := D}) := by
 unfold Bv
 dsimp only
 rw [if_neg (by rw [decide_eq_true_eq]; omega)]
theorem Ag4 {c : Cl} (h8 : c.Tasks.length ≤ 8) : ∀ (k i : Nat) (D : List A8) (n : Nat), i + k = c.Tasks.length → k < n → D.length + k ≤ 1000050 → 0 < i →
   E4 (Bv c) n ((i : Int), {c with Done := D}) = some {c with Done := D ++ (c.Tasks.drop i).map fun t => ⟨t.Token, 3, 0, 0, z8⟩}
 | 0, i, D, n, hi, hn, hD, h0 => by
  obtain ⟨m, rfl⟩ : ∃ m, n = m + 1 := ⟨n - 1, by omega⟩
  rw [E4, Apc (by omega), List.drop_of_length_le (by omega), List.map_nil, List.append_nil]
 | k + 1, i, D, n, hi, hn, hD, h0 => by
  obtain ⟨m, rfl⟩ : ∃ m, n = m + 1 := ⟨n - 1, by omega⟩
  have hlt : i < c.Tasks.length := by omega
  rw [E4, Arq h0 hlt h8 (by omega)]
  dsimp only
  rw [Ag4 h8 k (i + 1) _ m (by omega) (by omega) (by simp; omega) (by omega), List.drop_eq_getElem_cons hlt, List.map_cons, List.append_assoc]
  rfl
theorem Ae9 {c : Cl} (h : Fit c) : Ce c = some (Ahx c) := by
 unfold Ce
 have h8 := h.tk
 have hd := h.dn
 have hz : E4 (Bv c) Di (0, c) = some {c with Done := c.Done ++ Ack c} := by
  obtain ⟨m, hm, hmb⟩ : ∃ m, Di = m + 1 ∧ 100 < m := ⟨Di - 1, by unfold Di; omega, by unfold Di; omega⟩
  rw [hm, E4]
  rcases Jl c with hts | ⟨t, ts, hts⟩
  ·rw [show Ack c = [] from by unfold Ack; rw [hts], List.append_nil]
   have e := Apc (c := c) (D := c.Done) (i := 0) (by rw [hts]; rfl)
   rw [show ((0 : Nat) : Int) = 0 from rfl] at e
   rw [show (({c with Done := c.Done} : Cl)) = c from rfl] at e
   rw [e]
  ·have hl : c.Tasks.length = ts.length + 1 := by rw [hts]; rfl
   have hd1 : c.Tasks.drop 1 = ts := by rw [hts]; rfl
   have hi0 : idx c.Tasks 0 = some t := by rw [hts]; rfl
   have k1 := fun D hD => Ag4 h8 ts.length 1 D m (by omega) (by omega) hD (by omega)
   rw [hd1] at k1
   by_cases h9 : c.Phase = 9
   ·have e : Bv c (0, c) = some (.cont (((1 : Nat) : Int), {c with Done := c.Done})) := by
     unfold Bv
     dsimp only
     rw [if_pos (decide_eq_true (by omega)), hi0, Option.bind_some, if_neg (nn (by rfl)), if_neg (nn (by rw [decide_eq_true h9]; rfl))]
     rfl
    rw [e]
    dsimp only
    rw [k1 _ (by omega), show Ack c = ts.map (fun t => ⟨t.Token, 3, 0, 0, z8⟩) from by unfold Ack; rw [hts]; dsimp only; rw [if_pos h9]; rfl]
   ·have e : Bv c (0, c) = some (.cont (((1 : Nat) : Int), {c with Done := c.Done ++ [⟨t.Token, Aac c, c.Attempt, 0, z8⟩]})) := by
     unfold Bv
     dsimp only
     rw [if_pos (decide_eq_true (by omega)), hi0, Option.bind_some, if_neg (nn (by rfl)), if_pos (by rw [decide_eq_false h9]; rfl), Apu, Option.bind_some, Yo _ (by omega), Option.bind_some]
     rfl
    rw [e]
    dsimp only
    rw [k1 _ (by simp; omega), show Ack c = [⟨t.Token, Aac c, c.Attempt, 0, z8⟩] ++ ts.map (fun t => ⟨t.Token, 3, 0, 0, z8⟩) from by unfold Ack; rw [hts]; dsimp only; rw [if_neg h9], List.append_assoc]
 rw [hz, Option.bind_some]
 rfl
def Akm (c : Cl) : Cl := if F5 c.Req then {c with Out := c.Out ++ fr (eR (Pf c.Req))} else Ahx c
theorem An3 {c : Cl} (h : Fit c) : Fh c = some (Akm c) := by
 unfold Fh Akm
 rw [mg.putReq_m, Option.bind_some]
 cases hs : F5 c.Req with
 | false =>
  rw [if_neg (show ¬ false = true by decide), if_neg (show ¬ false = true by decide)]
  dsimp only
  rw [if_pos (show (!decide ((1 : Int) = 0)) = true from rfl), Ae9 h, Option.bind_some]
 | true =>
  rw [if_pos rfl, if_pos rfl]
  dsimp only
  rw [if_neg (nn (by rfl)), Ang _ _ (by have := h.ou; omega) (by have := mg.eR_len hs; omega), Option.bind_some]
  rfl
def Q0 (c : Cl) (r : Ca) : Cl := if 4294967295 < c.Seq then Ahx c else if 60000 < c.Out.length then Ahx c else Akm {c with Seq := wI (c.Seq + 1), Sent := 0, Left := 4, Req := {r with Seq := c.Seq}}
theorem Vy {c : Cl} (h : Fit c) (r : Ca) : Cb c r = some (Q0 c r) := by
 unfold Cb Q0
 by_cases h1 : 4294967295 < c.Seq
 ·rw [if_pos (decide_eq_true h1), if_pos h1, Ae9 h, Option.bind_some]
 rw [if_neg (by rw [decide_eq_true_eq]; exact h1), if_neg h1]
 unfold Et
 rw [Option.bind_some]
 by_cases h2 : 60000 < c.Out.length
 ·rw [if_pos (decide_eq_true (by omega)), if_pos h2, Ae9 h, Option.bind_some]
 rw [if_neg (by rw [decide_eq_true_eq]; omega), if_neg h2]
 unfold Gv
 rw [h.cfg, show pl.Plan = ⟨4, 30, 4⟩ from rfl, Yu, Option.bind_some, show (Qr 0).1 = 4 from rfl, ← h.cfg, An3 (by exact ⟨h.cfg, h.tk, h.dn, h.tr, h.ou⟩), Option.bind_some]
def Ajg (c : Cl) (t : Aw) : Cl := Q0 {c with Phase := 7} ⟨9, 0, t.Token, c.Attempt, false, [], [], Bt⟩
theorem Alw {c : Cl} (h : Fit c) {t : Aw} (ht : idx c.Tasks 0 = some t) : D5 c = some (Ajg c t) := by
 unfold D5 Ajg
 rw [ht, Option.bind_some, Vy (by exact ⟨h.cfg, h.tk, h.dn, h.tr, h.ou⟩), Option.bind_some]
def Ux (c : Cl) (t : Aw) : Cl := Q0 {c with Phase := 3, Risk := false, St := Hw} ⟨2, 0, t.Token, c.Attempt, t.Prog.RO, [], [], Bt⟩
theorem Agh {c : Cl} (h : Fit c) {t : Aw} (ht : idx c.Tasks 0 = some t) : Ee c = some (Ux c t) := by
 unfold Ee Ux
 rw [ht, Option.bind_some, Vy (by exact ⟨h.cfg, h.tk, h.dn, h.tr, h.ou⟩), Option.bind_some]
def Ul (c : Cl) : Cl := match c.Tasks with
 | [] => {c with Phase := 0, Left := 0}
 | t :: _ => if 0 < c.Attempt then Ajg c t else Ux {c with Attempt := 1} t
theorem Ahc {c : Cl} (h : Fit c) : Dv c = some (Ul c) := by
 unfold Dv
 rcases Jl c with hts | ⟨t, ts, hts⟩
 ·rw [if_pos (decide_eq_true (by rw [hts]; rfl)), show Ul c = {c with Phase := 0, Left := 0} from by unfold Ul; split <;> simp_all]
 ·have hi0 : idx c.Tasks 0 = some t := by rw [hts]; rfl
  have hl : c.Tasks.length = ts.length + 1 := by rw [hts]; rfl
  rw [if_neg (by rw [decide_eq_true_eq]; omega), show Ul c = if 0 < c.Attempt then Ajg c t else Ux {c with Attempt := 1} t from by unfold Ul; split <;> simp_all]
  by_cases ha : 0 < c.Attempt
  ·rw [if_pos (decide_eq_true ha), if_pos ha, Alw h hi0, Option.bind_some]
  ·rw [if_neg (by rw [decide_eq_true_eq]; exact ha), if_neg ha, Agh (by exact ⟨h.cfg, h.tk, h.dn, h.tr, h.ou⟩) (by exact hi0), Option.bind_some]
def Nb (c : Cl) (t : Aw) (code ts : Int) : Cl :=
 Q0 {c with Done := c.Done ++ [⟨t.Token, code, c.Attempt, ts, if code = 1 then c.St.Regs else z8⟩], Phase := 9, Risk := false} ⟨10, 0, t.Token, 0, false, [], [], Bt⟩
theorem Pn {c : Cl} (h : Fit c) (hd : c.Done.length ≤ 999999) {t : Aw} (ht : idx c.Tasks 0 = some t) (code ts : Int) : Bu c code ts = some (Nb c t code ts) := by
 unfold Bu Nb
 rw [ht, Option.bind_some]
 have k : ∀ r : A8, r.Token = t.Token → Ct c r = some (Q0 {c with Done := c.Done ++ [r], Phase := 9, Risk := false} ⟨10, 0, t.Token, 0, false, [], [], Bt⟩) := fun r hr => by
  unfold Ct
  rw [Yo _ (by omega), Option.bind_some, hr, Vy (by exact ⟨h.cfg, h.tk, by simp; omega, h.tr, h.ou⟩), Option.bind_some]
 by_cases hc : code = 1
 ·rw [if_pos (decide_eq_true hc), if_pos hc, k _ rfl]
 ·rw [if_neg (by rw [decide_eq_true_eq]; exact hc), if_neg hc, k _ rfl]
end Go.Proofs.YtbjckaahoacbfaaGreatDoor.Abs
