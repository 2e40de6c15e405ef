/- . -/
import Derived.Test.YtbjckaahoacbfaaGreatDoorSP21p
import Derived.Test.YtbjckaahoacbfaaGreatDoorSP21q
namespace Go.Proofs.YtbjckaahoacbfaaGreatDoor.Abs
open mg (F2 eR Qf)
abbrev Cl := Ad
abbrev z8 : Ee := ⟨0, 0, 0, 0, 0, 0, 0, 0⟩
def pl : Cx := ⟨3, ⟨4, 30, 4⟩, 3, 2⟩
def Rj (n : Int) : Int × Bool := if n = 0 then (4, true) else if n = 1 then (8, true) else if n = 2 then (16, true) else if n = 3 then (30, true) else (0, false)
theorem Axg : Ams ⟨4, 30, 4⟩ = some [(0, 4), (1, 8), (2, 16), (3, 30)] := by decide +kernel
theorem Abx (n : Int) : Hg ⟨4, 30, 4⟩ n = some (Rj n) := by
 unfold Hg
 rw [Axg, Option.bind_some]
 unfold Rj
 by_cases h0 : n = 0
 ·subst h0; rfl
 by_cases h1 : n = 1
 ·subst h1; rfl
 by_cases h2 : n = 2
 ·subst h2; rfl
 by_cases h3 : n = 3
 ·subst h3; rfl
 have e : ∀ (k d : Int) (s : Int × Bool), ¬ n = k → Jc n s (k, d) = some (.inl s) := fun k d s h => by
  unfold Jc
  rw [if_neg (by rw [decide_eq_true_eq]; exact fun h' => h h'.symm)]
 rw [if_neg h0, if_neg h1, if_neg h2, if_neg h3]
 simp only [V9, e _ _ _ h0, e _ _ _ h1, e _ _ _ h2, e _ _ _ h3, Option.bind_some, An8]
 rfl
theorem Agi (n : Int) : ∃ v, Dz ⟨4, 30, 4⟩ n (BitVec.ofInt 64 3) = some v ∧ 0 ≤ v.1 ∧ v.1 ≤ 50 := by
 by_cases h0 : n = 0
 ·subst h0; exact ⟨(Dz ⟨4, 30, 4⟩ 0 (BitVec.ofInt 64 3)).getD (0, false), by decide +kernel, by decide +kernel, by decide +kernel⟩
 by_cases h1 : n = 1
 ·subst h1; exact ⟨(Dz ⟨4, 30, 4⟩ 1 (BitVec.ofInt 64 3)).getD (0, false), by decide +kernel, by decide +kernel, by decide +kernel⟩
 by_cases h2 : n = 2
 ·subst h2; exact ⟨(Dz ⟨4, 30, 4⟩ 2 (BitVec.ofInt 64 3)).getD (0, false), by decide +kernel, by decide +kernel, by decide +kernel⟩
 by_cases h3 : n = 3
 ·subst h3; exact ⟨(Dz ⟨4, 30, 4⟩ 3 (BitVec.ofInt 64 3)).getD (0, false), by decide +kernel, by decide +kernel, by decide +kernel⟩
 refine ⟨(0, false), ?_, by decide, by decide⟩
 unfold Dz
 rw [Abx, Option.bind_some]
 unfold Rj
 rw [if_neg h0, if_neg h1, if_neg h2, if_neg h3]
 rfl
def U9 (n : Int) : Int := ((Dz ⟨4, 30, 4⟩ n (BitVec.ofInt 64 3)).getD (0, false)).1
theorem Ak2 (n : Int) : 0 ≤ U9 n ∧ U9 n ≤ 50 := by
 obtain ⟨v, hv, h⟩ := Agi n
 unfold U9
 rw [hv]
 exact h
structure Fit (c : Cl) : Prop where
 cfg : c.Cfg = pl
 tk : c.Tasks.length ≤ 8
 dn : c.Done.length ≤ 1000000
 tr : c.Tried.length ≤ 1000000
 ou : c.Out.length ≤ 65536
theorem Abq {c : Cl} (r : A8) (h : c.Done.length ≤ 1000100) : De c r = some {c with Done := c.Done ++ [r]} := by
 unfold De
 rw [Tr _ (by simp; omega) (by simp), Option.bind_some]
 simp
def Ace (c : Cl) : Int := if c.Risk then 4 else if 0 < c.Attempt then if c.St.Stopped then 2 else 3 else 3
theorem Aum (c : Cl) : Gy c = some (Ace c) := by
 unfold Gy Ace
 by_cases h : 0 < c.Attempt
 ·rw [if_pos h, decide_eq_true h]
  cases c.Risk <;> cases c.St.Stopped <;> rfl
 ·rw [if_neg h, decide_eq_false h]
  cases c.Risk <;> rfl
def Afs (c : Cl) : List A8 := match c.Tasks with
 | [] => []
 | t :: ts => (if c.Phase = 9 then [] else [⟨t.Token, Ace c, c.Attempt, 0, z8⟩]) ++ ts.map fun t => ⟨t.Token, 3, 0, 0, z8⟩
def Aln (c : Cl) : Cl := {c with Done := c.Done ++ Afs c, Tasks := [], Phase := 11, Left := 0}
theorem Il (c : Cl) : c.Tasks = [] ∨ ∃ t ts, c.Tasks = t :: ts := by
 cases c.Tasks with
 | nil => exact .inl rfl
 | cons t ts => exact .inr ⟨t, ts, rfl⟩
theorem Awd {c : Cl} {i : Nat} {D : List A8} (h0 : 0 < i) (hlt : i < c.Tasks.length) (h8 : c.Tasks.length ≤ 8) (hD : D.length ≤ 1000050) :
  Bz c ((i : Int), {c with Done := D}) = some (.cont (((i + 1 : Nat) : Int), {c with Done := D ++ [⟨(c.Tasks[i]).Token, 3, 0, 0, z8⟩]})) := by
 unfold Bz
 dsimp only
 rw [if_pos (decide_eq_true (by omega)), Ed, List.getElem?_eq_getElem hlt, Option.bind_some, if_pos (decide_eq_true (by omega)), Abq _ (by dsimp only; omega), Option.bind_some, Dl (by omega) (by omega)]
 rfl
theorem As1 {c : Cl} {D : List A8} {i : Nat} (hi : i = c.Tasks.length) : Bz c ((i : Int), {c with Done := D}) = some (.brk {c with Done := D}) := by
 unfold Bz
 dsimp only
 rw [if_neg (by rw [decide_eq_true_eq]; omega)]
theorem Ajv {c : Cl} (h8 : c.Tasks.length ≤ 8) : ∀ (k i : Nat) (D : List A8) (n : Nat), i + k = c.Tasks.length → k < n → D.length + k ≤ 1000050 → 0 < i →
   Ec (Bz c) n ((i : Int), {c with Done := D}) = some {c with Done := D ++ (c.Tasks.drop i).map fun t => ⟨t.Token, 3, 0, 0, z8⟩}
 | 0, i, D, n, hi, hn, hD, h0 => by
  obtain ⟨m, rfl⟩ : ∃ m, n = m + 1 := ⟨n - 1, by omega⟩
  rw [Ec, As1 (by omega), List.drop_of_length_le (by omega), List.map_nil, List.append_nil]
 | k + 1, i, D, n, hi, hn, hD, h0 => by
  obtain ⟨m, rfl⟩ : ∃ m, n = m + 1 := ⟨n - 1, by omega⟩
  have hlt : i < c.Tasks.length := by omega
  rw [Ec, Awd h0 hlt h8 (by omega)]
  dsimp only
  rw [Ajv h8 k (i + 1) _ m (by omega) (by omega) (by simp; omega) (by omega), List.drop_eq_getElem_cons hlt, List.map_cons, List.append_assoc]
  rfl
theorem Ajj {c : Cl} (h : Fit c) : Ch c = some (Aln c) := by
 unfold Ch
 have h8 := h.tk
 have hd := h.dn
 have hz : Ec (Bz c) fuel (0, c) = some {c with Done := c.Done ++ Afs c} := by
  obtain ⟨m, hm, hmb⟩ : ∃ m, fuel = m + 1 ∧ 100 < m := ⟨fuel - 1, by unfold fuel; omega, by unfold fuel; omega⟩
  rw [hm, Ec]
  rcases Il c with hts | ⟨t, ts, hts⟩
  ·rw [show Afs c = [] from by unfold Afs; rw [hts], List.append_nil]
   have e := As1 (c := c) (D := c.Done) (i := 0) (by rw [hts]; rfl)
   rw [show ((0 : Nat) : Int) = 0 from rfl] at e
   rw [show (({c with Done := c.Done} : Cl)) = c from rfl] at e
   rw [e]
  ·have hl : c.Tasks.length = ts.length + 1 := by rw [hts]; rfl
   have hd1 : c.Tasks.drop 1 = ts := by rw [hts]; rfl
   have hi0 : idx c.Tasks 0 = some t := by rw [hts]; rfl
   have k1 := fun D hD => Ajv h8 ts.length 1 D m (by omega) (by omega) hD (by omega)
   rw [hd1] at k1
   by_cases h9 : c.Phase = 9
   ·have e : Bz c (0, c) = some (.cont (((1 : Nat) : Int), {c with Done := c.Done})) := by
     unfold Bz
     dsimp only
     rw [if_pos (decide_eq_true (by omega)), hi0, Option.bind_some, if_neg (nn (by rfl)), if_neg (nn (by rw [decide_eq_true h9]; rfl))]
     rfl
    rw [e]
    dsimp only
    rw [k1 _ (by omega), show Afs c = ts.map (fun t => ⟨t.Token, 3, 0, 0, z8⟩) from by unfold Afs; rw [hts]; dsimp only; rw [if_pos h9]; rfl]
   ·have e : Bz c (0, c) = some (.cont (((1 : Nat) : Int), {c with Done := c.Done ++ [⟨t.Token, Ace c, c.Attempt, 0, z8⟩]})) := by
     unfold Bz
     dsimp only
     rw [if_pos (decide_eq_true (by omega)), hi0, Option.bind_some, if_neg (nn (by rfl)), if_pos (by rw [decide_eq_false h9]; rfl), Aum, Option.bind_some, Abq _ (by omega), Option.bind_some]
     rfl
    rw [e]
    dsimp only
    rw [k1 _ (by simp; omega), show Afs c = [⟨t.Token, Ace c, c.Attempt, 0, z8⟩] ++ ts.map (fun t => ⟨t.Token, 3, 0, 0, z8⟩) from by unfold Afs; rw [hts]; dsimp only; rw [if_neg h9], List.append_assoc]
 rw [hz, Option.bind_some]
 rfl
def Aly (c : Cl) : Cl := if F2 c.Req then {c with Out := c.Out ++ fr (eR (Qf c.Req))} else Aln c
theorem Att {c : Cl} (h : Fit c) : Fp c = some (Aly c) := by
 unfold Fp Aly
 rw [mg.putReq_m, Option.bind_some]
 cases hs : F2 c.Req with
 | false =>
  rw [if_neg (show ¬ false = true by decide), if_neg (show ¬ false = true by decide)]
  dsimp only
  rw [if_pos (show (!decide ((1 : Int) = 0)) = true from rfl), Ajj h, Option.bind_some]
 | true =>
  rw [if_pos rfl, if_pos rfl]
  dsimp only
  rw [if_neg (nn (by rfl)), Aii _ _ (by have := h.ou; omega) (by have := mg.eR_len hs; omega), Option.bind_some]
  rfl
def R8 (c : Cl) (r : B7) : Cl := if 4294967295 < c.Seq then Aln c else if 60000 < c.Out.length then Aln c else Aly {c with Seq := wI (c.Seq + 1), Sent := 0, Left := 4, Req := {r with Seq := c.Seq}}
theorem Ya {c : Cl} (h : Fit c) (r : B7) : Cc c r = some (R8 c r) := by
 unfold Cc R8
 by_cases h1 : 4294967295 < c.Seq
 ·rw [if_pos (decide_eq_true h1), if_pos h1, Ajj h, Option.bind_some]
 rw [if_neg (by rw [decide_eq_true_eq]; exact h1), if_neg h1]
 unfold E6
 rw [Option.bind_some]
 by_cases h2 : 60000 < c.Out.length
 ·rw [if_pos (decide_eq_true (by omega)), if_pos h2, Ajj h, Option.bind_some]
 rw [if_neg (by rw [decide_eq_true_eq]; omega), if_neg h2]
 unfold Hb
 rw [h.cfg, show pl.Plan = ⟨4, 30, 4⟩ from rfl, Abx, Option.bind_some, show (Rj 0).1 = 4 from rfl, ← h.cfg, Att (by exact ⟨h.cfg, h.tk, h.dn, h.tr, h.ou⟩), Option.bind_some]
def Alr (c : Cl) (t : Am) : Cl := R8 {c with Phase := 7} ⟨9, 0, t.Token, c.Attempt, false, [], [], Bu⟩
theorem Aq9 {c : Cl} (h : Fit c) {t : Am} (ht : idx c.Tasks 0 = some t) : Ej c = some (Alr c t) := by
 unfold Ej Alr
 rw [ht, Option.bind_some, Ya (by exact ⟨h.cfg, h.tk, h.dn, h.tr, h.ou⟩), Option.bind_some]
def V6 (c : Cl) (t : Am) : Cl := R8 {c with Phase := 3, Risk := false, St := G4} ⟨2, 0, t.Token, c.Attempt, t.Prog.RO, [], [], Bu⟩
theorem Ajo {c : Cl} (h : Fit c) {t : Am} (ht : idx c.Tasks 0 = some t) : En c = some (V6 c t) := by
 unfold En V6
 rw [ht, Option.bind_some, Ya (by exact ⟨h.cfg, h.tk, h.dn, h.tr, h.ou⟩), Option.bind_some]
def U4 (c : Cl) : Cl := match c.Tasks with
 | [] => {c with Phase := 0, Left := 0}
 | t :: _ => if 0 < c.Attempt then Alr c t else V6 {c with Attempt := 1} t
theorem Aij {c : Cl} (h : Fit c) : D8 c = some (U4 c) := by
 unfold D8
 rcases Il c with hts | ⟨t, ts, hts⟩
 ·rw [if_pos (decide_eq_true (by rw [hts]; rfl)), show U4 c = {c with Phase := 0, Left := 0} from by unfold U4; split <;> simp_all]
 ·have hi0 : idx c.Tasks 0 = some t := by rw [hts]; rfl
  have hl : c.Tasks.length = ts.length + 1 := by rw [hts]; rfl
  rw [if_neg (by rw [decide_eq_true_eq]; omega), show U4 c = if 0 < c.Attempt then Alr c t else V6 {c with Attempt := 1} t from by unfold U4; split <;> simp_all]
  by_cases ha : 0 < c.Attempt
  ·rw [if_pos (decide_eq_true ha), if_pos ha, Aq9 h hi0, Option.bind_some]
  ·rw [if_neg (by rw [decide_eq_true_eq]; exact ha), if_neg ha, Ajo (by exact ⟨h.cfg, h.tk, h.dn, h.tr, h.ou⟩) (by exact hi0), Option.bind_some]
def Ns (c : Cl) (t : Am) (code ts : Int) : Cl :=
 R8 {c with Done := c.Done ++ [⟨t.Token, code, c.Attempt, ts, if code = 1 then c.St.Regs else z8⟩], Phase := 9, Risk := false} ⟨10, 0, t.Token, 0, false, [], [], Bu⟩
theorem Ro {c : Cl} (h : Fit c) (hd : c.Done.length ≤ 999999) {t : Am} (ht : idx c.Tasks 0 = some t) (code ts : Int) : Bv c code ts = some (Ns c t code ts) := by
 unfold Bv Ns
 rw [ht, Option.bind_some]
 have k : ∀ r : A8, r.Token = t.Token → C2 c r = some (R8 {c with Done := c.Done ++ [r], Phase := 9, Risk := false} ⟨10, 0, t.Token, 0, false, [], [], Bu⟩) := fun r hr => by
  unfold C2
  rw [Abq _ (by omega), Option.bind_some, hr, Ya (by exact ⟨h.cfg, h.tk, by simp; omega, h.tr, h.ou⟩), Option.bind_some]
 by_cases hc : code = 1
 ·rw [if_pos (decide_eq_true hc), if_pos hc, k _ rfl]
 ·rw [if_neg (by rw [decide_eq_true_eq]; exact hc), if_neg hc, k _ rfl]
end Go.Proofs.YtbjckaahoacbfaaGreatDoor.Abs
