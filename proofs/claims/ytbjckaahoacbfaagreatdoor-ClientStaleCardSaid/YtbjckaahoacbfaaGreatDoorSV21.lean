/- . -/
import Derived.Test.YtbjckaahoacbfaaGreatDoorSU21
namespace Go.Proofs.YtbjckaahoacbfaaGreatDoor.Abs
open mg (F2 eR Qf)
def Xc : A0 := ⟨[], 0⟩
def Aaq (s : A0) (d : Cl) : Prop := (d.In = s ∨ d.In = Xc) ∧ (d.Phase = 1 → d.In = Xc)
theorem T6 {s : A0} {c : Cl} (h : c.In = s ∨ c.In = Xc) : Aaq s (Aln c) := ⟨h, fun h1 => absurd (show (11 : Int) = 1 from h1) (by decide)⟩
theorem Agv {s : A0} {c : Cl} (h : Aaq s c) : Aaq s (Aly c) := by
 unfold Aly
 split
 ·exact h
 ·exact T6 h.1
theorem Qc {s : A0} {c : Cl} (h : c.In = s ∨ c.In = Xc) (h1 : c.Phase ≠ 1) (r : B7) : Aaq s (R8 c r) := by
 unfold R8
 split
 ·exact T6 h
 split
 ·exact T6 h
 ·exact Agv ⟨h, fun h2 => absurd h2 h1⟩
theorem Abo {s : A0} {c : Cl} (h : c.In = s ∨ c.In = Xc) (t : Am) : Aaq s (Alr c t) := Qc (c := {c with Phase := 7}) h (by show (7 : Int) ≠ 1; decide) _
theorem Aao {s : A0} {c : Cl} (h : c.In = s ∨ c.In = Xc) (t : Am) : Aaq s (V6 c t) := Qc (c := {c with Phase := 3, Risk := false, St := G4}) h (by show (3 : Int) ≠ 1; decide) _
theorem Yo {s : A0} {c : Cl} (h : c.In = s ∨ c.In = Xc) : Aaq s (U4 c) := by
 unfold U4
 split
 ·exact ⟨h, fun h1 => absurd (show (0 : Int) = 1 from h1) (by decide)⟩
 split
 ·exact Abo h _
 ·exact Aao (c := {c with Attempt := 1}) h _
theorem Nk {s : A0} {c : Cl} (h : c.In = s ∨ c.In = Xc) (t : Am) (a b : Int) : Aaq s (Ns c t a b) :=
 Qc (c := {c with Done := c.Done ++ [⟨t.Token, a, c.Attempt, b, if a = 1 then c.St.Regs else z8⟩], Phase := 9, Risk := false}) h (by show (9 : Int) ≠ 1; decide) _
theorem T4 {s : A0} {c : Cl} (h : c.In = s ∨ c.In = Xc) (t : Am) : Aaq s (Un c t) := by
 unfold Un
 split
 ·exact Nk h _ _ _
 ·exact ⟨h, fun h1 => absurd (show (8 : Int) = 1 from h1) (by decide)⟩
theorem Xb {s : A0} {c : Cl} (h : c.In = s ∨ c.In = Xc) (t : Am) (k : Int) : Aaq s (Ql c t k) := by
 unfold Ql
 split
 ·exact Abo h t
 ·exact T4 h t
theorem Tq (s : A0) (c : Cl) : Aaq s (Zk c) := by
 unfold Zk
 split
 ·exact T6 (.inr rfl)
 split
 ·exact T6 (.inr rfl)
 ·split
  ·exact ⟨.inr rfl, fun _ => rfl⟩
  ·exact ⟨.inr rfl, fun _ => rfl⟩
theorem Acm {s : A0} {c : Cl} (h : c.In = s ∨ c.In = Xc) (t : Am) : Aaq s (Adh c t) := by
 unfold Adh
 split
 ·exact Qc (c := {c with Phase := 4, St := (Rw t.Prog c.St).2.1}) h (by show (4 : Int) ≠ 1; decide) _
 split
 ·exact Qc (c := {c with Phase := 6, St := (Rw t.Prog c.St).2.1}) h (by show (6 : Int) ≠ 1; decide) _
 ·have hk := Qc (c := {c with Phase := 5, St := (Rw t.Prog c.St).2.1}) h (by show (5 : Int) ≠ 1; decide) ⟨7, 0, 0, 0, false, [], [], Bu⟩
  split
  ·exact hk
  ·exact hk
theorem Aq6 {s : A0} {c : Cl} (h : Aaq s c) (r : Ba) : Aaq s (onV c r) := by
 have hi := h.1
 by_cases p2 : c.Phase = 2
 ·unfold onV
  rw [if_pos p2]
  unfold V5
  split
  ·exact Tq s c
  ·exact Yo hi
 rcases Il c with ht | ⟨t, ts, ht⟩
 ·have : onV c r = c := by unfold onV; rw [if_neg p2]; split <;> simp_all
  rw [this]; exact h
 rw [Abp ht p2]
 split
 ·unfold Z9
  split
  ·exact Xb hi t _
  ·exact Acm hi t
 split
 ·unfold Rp
  split
  ·exact T4 hi t
  split
  ·exact T4 hi t
  ·exact Acm (c := {c with St := (Apx t.Prog c.St r).1}) hi t
 split
 ·unfold Aal
  split
  ·exact Xb hi t _
  ·exact Nk hi t _ _
 split
 ·exact Nk hi t _ _
 split
 ·unfold Ahg
  split
  ·exact ⟨hi, fun h1 => absurd (show (10 : Int) = 1 from h1) (by decide)⟩
  split
  ·split
   ·exact Nk hi t _ _
   ·exact Nk hi t _ _
  split
  ·exact Nk hi t _ _
  ·exact T4 hi t
 split
 ·exact Yo (c := {Ah3 c with Phase := 0}) hi
 ·exact h
theorem Adu {s : A0} {c : Cl} (h : Aaq s c) (b : List UInt8) : Aaq s (Zv c b) := by
 unfold Zv
 split
 ·exact Tq s c
 split
 ·exact Aq6 h _
 ·exact h
theorem Acg {s : A0} : ∀ (ps : List (List UInt8)) {c : Cl}, Aaq s c → Aaq s (ps.foldl Afr c)
 | [], _, h => h
 | p :: ps, c, h => by
  refine Acg ps ?_
  unfold Afr
  split
  ·exact h
  ·exact Adu h p
def Ad1 (c : Cl) : Prop := (c.Phase ≠ 11 → c.In.Dead = 0) ∧ (c.Phase = 1 → c.In = Xc)
theorem Zn {s : A0} {d : Cl} (h : Aaq s d) (hs : s.Dead = 0) : Ad1 d := ⟨fun _ => by rcases h.1 with e | e <;> rw [e]; exact hs; rfl, h.2⟩
theorem Akr {s : A0} {b : List UInt8} (hs : Sw s.Buf s.Dead = true) (h0 : s.Dead = 0) (hb : b.length ≤ 1000) : (P3 s b).2.2 = (P3 s b).1.Dead := by
 have hl := Afg hs
 obtain ⟨l, r, e, ha⟩ := Ajk (s.Buf ++ b) (by rw [List.length_append]; omega)
 unfold P3
 rw [Alo s b hs h0 (by omega) ha]
 rfl
theorem Yr {l : List Int} {n : Nat} {c : Cl} (hI : Inv l n c) (h : Ad1 c) (b : List UInt8) (hb : b.length ≤ 1000) : Ad1 (Tp c b) := by
 unfold Tp
 split
 ·exact h
 rename_i hg
 have hd := Akr hI.st (h.1 (by omega)) hb
 have hk := Acg (s := (P3 c.In b).1) (P3 c.In b).2.1 (c := {c with In := (P3 c.In b).1}) ⟨.inl rfl, fun h1 => absurd (show c.Phase = 1 from h1) (by omega)⟩
 unfold Avg
 split
 ·exact Zn (Tq Xc _) rfl
 ·rename_i he
  by_cases e0 : (P3 c.In b).2.2 = 0
  ·exact Zn hk (by rw [← hd]; exact e0)
  ·have hg2 : ((P3 c.In b).2.1.foldl Afr {c with In := (P3 c.In b).1}).Phase = 1 ∨ ((P3 c.In b).2.1.foldl Afr {c with In := (P3 c.In b).1}).Phase = 11 := Classical.byContradiction fun hn => he ⟨e0, hn⟩
   refine ⟨fun h11 => ?_, hk.2⟩
   rcases hg2 with h1 | h1
   ·rw [hk.2 h1]; rfl
   ·exact absurd h1 h11
theorem Q8 {c d : Cl} (h : Ad1 c) (h11 : c.Phase ≠ 11) (hk : Aaq c.In d) : Ad1 d := Zn hk (h.1 h11)
theorem Anb {c : Cl} (h : Ad1 c) (h11 : c.Phase ≠ 11) : Ad1 (Amb c) := by
 have hi : c.In = c.In ∨ c.In = Xc := .inl rfl
 have hs : Ad1 (J2 c) := by
  unfold J2
  split
  ·exact Zn (Tq Xc _) rfl
  split
  ·exact Q8 h h11 (T6 hi)
  ·exact Q8 h h11 (Agv (c := {c with Sent := wI (c.Sent + 1), Left := (Rj (wI (c.Sent + 1))).1}) ⟨hi, h.2⟩)
 rcases Il c with ht | ⟨t, ts, ht⟩
 ·rw [Aoz ht]; exact hs
 ·rw [Af8 ht]
  split
  ·exact Q8 h h11 (Aao hi t)
  split
  ·exact Q8 h h11 (Abo hi t)
  ·exact hs
theorem Am7 {l : List Int} {n : Nat} {c : Cl} (hI : Inv l n c) (h : Ad1 c) {o : G3} (hs : Amc o) : Ad1 (Aqk c o) := by
 obtain ⟨s1, s2, s3⟩ := hs
 have hi : c.In = c.In ∨ c.In = Xc := .inl rfl
 unfold Aqk
 split
 ·split
  ·rename_i hok
   have h11 := hok.2.1
   unfold Asf
   split
   ·exact Q8 h h11 (Yo (c := Adj c ⟨o.Task.Token, oG o.Task.Prog⟩) hi)
   ·exact h
  ·exact h
 split
 ·split
  ·rename_i p1
   exact Q8 h (by omega) (Qc (c := {c with Phase := 2, Seq := 0}) hi (by show (2 : Int) ≠ 1; decide) _)
  ·exact h
 split
 ·unfold Aju
  split
  ·exact h
  ·exact Zn (Tq Xc _) rfl
 split
 ·exact Yr hI h _ (Ape c o.Reply s2).2
 split
 ·exact Yr hI h _ (by omega)
 split
 ·split
  ·unfold Ael
   split
   ·exact h
   split
   ·exact Anb (c := {c with Left := Ac0 c o.N}) h (by show c.Phase ≠ 11; omega)
   ·exact h
  ·exact h
 ·exact h
end Go.Proofs.YtbjckaahoacbfaaGreatDoor.Abs
