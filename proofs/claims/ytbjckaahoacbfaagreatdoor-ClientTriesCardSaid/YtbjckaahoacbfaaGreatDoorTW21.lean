/-
 What is committed was tried: what a client keeps of its attempts.
-/
import Derived.Test.YtbjckaahoacbfaaGreatDoorTU21
set_option linter.unusedVariables false
set_option linter.unusedSimpArgs false
namespace Go.Proofs.YtbjckaahoacbfaaGreatDoor.Abs
open mg (Fdz eR Oi)
structure TrW (c : Cl) : Prop where
 t1 : c.Tried.Pairwise (fun x y => x.Token = y.Token → x.Attempt < y.Attempt)
 t2 : ∀ x ∈ c.Done, x.Code = 1 → 0 ≤ x.Ts ∧ ∃ y ∈ c.Tried, y.Token = x.Token ∧ y.Attempt = x.Attempt ∧ y.Regs = x.Regs
 t3 : ∀ y ∈ c.Tried, y.Token ∈ c.Done.map (·.Token) ∨ (c.Phase ≠ 9 ∧ 0 < c.Attempt ∧ ∃ t ts, c.Tasks = t :: ts ∧ y.Token = t.Token ∧ y.Attempt ≤ c.Attempt)
structure Tr (c : Cl) : Prop extends TrW c where
 t4 : c.Phase = 3 ∨ c.Phase = 4 ∨ c.Phase = 8 → c.Risk = false ∧ ∀ y ∈ c.Tried, ∀ t ts, c.Tasks = t :: ts → y.Token = t.Token → y.Attempt < c.Attempt
 t5 : c.Risk = true → c.Phase ≠ 11 → ∃ t ts, c.Tasks = t :: ts ∧ ∃ y ∈ c.Tried, y.Token = t.Token ∧ y.Attempt = c.Attempt ∧ y.Regs = c.St.Regs
 t6 : c.Phase = 5 → c.Risk = true
 t7 : c.Phase = 9 → c.Risk = false
section
variable {c : Cl}
theorem Ahi (c : Cl) : ∀ x ∈ Za c, x.Code ≠ 1 := by
 intro x hx
 have hf : Xe c ≠ 1 := by unfold Xe; split <;> (try split) <;> (try split) <;> decide
 unfold Za at hx
 rcases Gp c with hts | ⟨t, ts, hts⟩
 ·rw [hts] at hx; cases hx
 ·rw [hts] at hx
  dsimp only at hx
  rw [List.mem_append] at hx
  rcases hx with hx | hx
  ·split at hx
   ·cases hx
   ·rw [List.mem_singleton] at hx; subst hx; exact hf
  ·rw [List.mem_map] at hx
   obtain ⟨u, -, rfl⟩ := hx
   show (3 : Int) ≠ 1
   decide
theorem TrW.die (h : TrW c) : Tr (Aff c) := by
 refine ⟨⟨h.t1, fun x hx h1 => ?_, fun y hy => .inl ?_⟩, fun h1 => ?_, fun _ h1 => absurd rfl h1, fun h1 => ?_, fun h1 => ?_⟩
 ·rcases List.mem_append.1 (show x ∈ c.Done ++ Za c from hx) with hx | hx
  ·exact h.t2 x hx h1
  ·exact absurd h1 (Ahi c x hx)
 ·show y.Token ∈ (c.Done ++ Za c).map (·.Token)
  rw [List.map_append, Ac1, List.mem_append]
  rcases h.t3 y hy with hd | ⟨h9, -, t, ts, ht, hy, -⟩
  ·exact .inl hd
  ·right
   unfold W
   rw [if_neg h9, ht, hy]
   simp
 ·have h1 : (11 : Int) = 3 ∨ (11 : Int) = 4 ∨ (11 : Int) = 8 := h1
  omega
 ·exact absurd (show (11 : Int) = 5 from h1) (by decide)
 ·exact absurd (show (11 : Int) = 9 from h1) (by decide)
theorem Tr.lay (h : Tr c) : Tr (Agy c) := by
 unfold Agy
 split
 ·exact ⟨⟨h.t1, h.t2, h.t3⟩, h.t4, h.t5, h.t6, h.t7⟩
 ·exact h.toTrW.die
theorem Tr.send (h : Tr c) (r : B6) : Tr (Mw c r) := by
 unfold Mw
 split
 ·exact h.toTrW.die
 split
 ·exact h.toTrW.die
 ·exact Tr.lay ⟨⟨h.t1, h.t2, h.t3⟩, h.t4, h.t5, h.t6, h.t7⟩
theorem Anh (h : TrW c) (r : B6) : ((Mw c r).Phase = 11 ∧ Tr (Mw c r)) ∨ ((Mw c r).Phase = c.Phase ∧ (Mw c r).Tasks = c.Tasks ∧ (Mw c r).Attempt = c.Attempt ∧ (Mw c r).St = c.St ∧ (Mw c r).Done = c.Done) := by
 unfold Mw
 split
 ·exact .inl ⟨rfl, h.die⟩
 split
 ·exact .inl ⟨rfl, h.die⟩
 ·unfold Agy
  split
  ·exact .inr ⟨rfl, rfl, rfl, rfl, rfl⟩
  ·exact .inl ⟨rfl, TrW.die ⟨h.t1, h.t2, h.t3⟩⟩
theorem Tr.phase (h : Tr c) (h9 : c.Phase ≠ 9) (h11 : c.Phase ≠ 11) {p : Int} (hp : p ≠ 3 ∧ p ≠ 4 ∧ p ≠ 8 ∧ p ≠ 5 ∧ p ≠ 9) : Tr {c with Phase := p} :=
 ⟨⟨h.t1, h.t2, fun y hy => (h.t3 y hy).imp id fun ⟨_, h2⟩ => ⟨hp.2.2.2.2, h2⟩⟩, fun h1 => by have h1 : p = 3 ∨ p = 4 ∨ p = 8 := h1; omega, fun h1 _ => h.t5 h1 h11, fun h1 => absurd h1 hp.2.2.2.1, fun h1 => absurd h1 hp.2.2.2.2⟩
theorem Tr.ask (h : Tr c) (h9 : c.Phase ≠ 9) (h11 : c.Phase ≠ 11) (t : As) : Tr (Af3 c t) :=
 (h.phase h9 h11 (p := 7) ⟨by decide, by decide, by decide, by decide, by decide⟩).send _
theorem Tr.begin (h : TrW c) (h9 : c.Phase ≠ 9) (t : As) (h4 : ∀ y ∈ c.Tried, ∀ t ts, c.Tasks = t :: ts → y.Token = t.Token → y.Attempt < c.Attempt) : Tr (Sp c t) :=
 Tr.send (c := {c with Phase := 3, Risk := false, St := Gh}) ⟨⟨h.t1, h.t2, fun y hy => (h.t3 y hy).imp id fun ⟨_, h2⟩ => ⟨by show (3 : Int) ≠ 9; decide, h2⟩⟩, fun _ => ⟨rfl, h4⟩, fun h1 => (by cases h1), fun h1 => absurd (show (3 : Int) = 5 from h1) (by decide), fun _ => rfl⟩ _
theorem TrW.none {l : List Int} {n : Nat} (h : TrW c) (hp : Pre l n c) (hd : l.Nodup) (h9 : c.Phase ≠ 9) (ha : ¬ 0 < c.Attempt) : ∀ y ∈ c.Tried, ∀ t ts, c.Tasks = t :: ts → y.Token ≠ t.Token := by
 intro y hy t ts ht he
 rcases h.t3 y hy with hm | ⟨-, h2, -⟩
 ·have := hp.ll
  rw [← this, List.nodup_append] at hd
  refine hd.2.2 _ hm t.Token ?_ he
  unfold W
  rw [if_neg h9, ht]
  simp
 ·exact ha h2
theorem Tr.goOn {l : List Int} {n : Nat} (h : Tr c) (hp : Pre l n c) (hd : l.Nodup) (h9 : c.Phase ≠ 9) (h11 : c.Phase ≠ 11) : Tr (Qm c) := by
 rcases Gp c with hts | ⟨t, ts, hts⟩
 ·rw [show Qm c = {c with Phase := 0, Left := 0} from by unfold Qm; split <;> simp_all]
  have hq := h.phase h9 h11 (p := 0) ⟨by decide, by decide, by decide, by decide, by decide⟩
  exact ⟨⟨hq.t1, hq.t2, hq.t3⟩, hq.t4, hq.t5, hq.t6, hq.t7⟩
 ·rw [show Qm c = if 0 < c.Attempt then Af3 c t else Sp {c with Attempt := 1} t from by unfold Qm; split <;> simp_all]
  split
  ·exact h.ask h9 h11 t
  ·rename_i ha
   have hn := h.toTrW.none hp hd h9 ha
   refine Tr.begin (c := {c with Attempt := 1}) ⟨h.t1, h.t2, fun y hy => ?_⟩ h9 t (fun y hy t ts ht he => absurd he (hn y hy t ts ht))
   rcases h.t3 y hy with hm | ⟨-, h2, -⟩
   ·exact .inl hm
   ·exact absurd h2 ha
theorem Tr.through (h : Tr c) {t : As} {ts : List As} (ht : c.Tasks = t :: ts) {code v : Int} (hv : code = 1 → 0 ≤ v ∧ ∃ y ∈ c.Tried, y.Token = t.Token ∧ y.Attempt = c.Attempt ∧ y.Regs = c.St.Regs) : Tr (Mk c t code v) := by
 refine Tr.send (c := {c with Done := c.Done ++ [⟨t.Token, code, c.Attempt, v, if code = 1 then c.St.Regs else z8⟩], Phase := 9, Risk := false}) ⟨⟨h.t1, fun x hx h1 => ?_, fun y hy => .inl ?_⟩, fun h1 => ?_, fun h1 => (by cases h1), fun h1 => absurd (show (9 : Int) = 5 from h1) (by decide), fun _ => rfl⟩ _
 ·rcases List.mem_append.1 hx with hx | hx
  ·exact h.t2 x hx h1
  ·rw [List.mem_singleton] at hx
   subst hx
   have h1 : code = 1 := h1
   obtain ⟨v0, y, hy, e1, e2, e3⟩ := hv h1
   exact ⟨v0, y, hy, e1, e2, by show y.Regs = if code = 1 then c.St.Regs else z8; rw [if_pos h1, e3]⟩
 ·show y.Token ∈ (c.Done ++ [_]).map (fun x : A9 => x.Token)
  rw [List.map_append, List.mem_append]
  rcases h.t3 y hy with hd | ⟨-, -, t', ts', ht', hy', -⟩
  ·exact .inl hd
  ·right
   rw [ht] at ht'
   obtain ⟨rfl, rfl⟩ := List.cons.inj ht'
   rw [hy']
   simp
 ·have h1 : (9 : Int) = 3 ∨ (9 : Int) = 4 ∨ (9 : Int) = 8 := h1
  omega
theorem Tr.again {l : List Int} {n : Nat} (h : Tr c) (hp : Pre l n c) (hd : l.Nodup) (h9 : c.Phase ≠ 9) {t : As} {ts : List As} (ht : c.Tasks = t :: ts) (ha : 0 < c.Attempt) : Tr (Sq c t) := by
 unfold Sq
 have hat := hp.at_
 split
 ·exact h.through ht (fun h => absurd h (by decide))
 ·have hw : wI (c.Attempt + 1) = c.Attempt + 1 := Dh (by omega) (by omega)
  refine ⟨⟨h.t1, h.t2, fun y hy => ?_⟩, fun _ => ⟨rfl, fun y hy t' ts' ht' he => ?_⟩, fun h1 => (by cases h1), fun h1 => absurd (show (8 : Int) = 5 from h1) (by decide), fun _ => rfl⟩
  ·rcases h.t3 y hy with hm | ⟨-, h2, t', ts', ht', he, hle⟩
   ·exact .inl hm
   ·exact .inr ⟨by show (8 : Int) ≠ 9; decide, by show 0 < wI (c.Attempt + 1); rw [hw]; omega, t', ts', ht', he, by show y.Attempt ≤ wI (c.Attempt + 1); rw [hw]; omega⟩
  ·show y.Attempt < wI (c.Attempt + 1)
   rw [hw]
   have ht' : c.Tasks = t' :: ts' := ht'
   rcases h.t3 y hy with hm | ⟨-, h2, t2, ts2, ht2, he2, hle⟩
   ·exfalso
    have := hp.ll
    rw [← this, List.nodup_append] at hd
    refine hd.2.2 _ hm t'.Token ?_ he
    unfold W
    rw [if_neg h9, ht']
    simp
   ·omega
theorem Tr.pass (h : Tr c) (h9 : c.Phase = 9) {p : Int} (hp : p ≠ 9 ∧ p ≠ 5 ∧ p ≠ 3 ∧ p ≠ 4 ∧ p ≠ 8) : Tr {Abh c with Phase := p} := by
 have hr := h.t7 h9
 refine ⟨⟨h.t1, h.t2, fun y hy => ?_⟩, fun h1 => ?_, fun h1 => ?_, fun h1 => absurd h1 hp.2.1, fun h1 => absurd h1 hp.1⟩
 ·rcases h.t3 y hy with hm | ⟨h2, -⟩
  ·exact .inl hm
  ·exact absurd h9 h2
 ·have h1 : p = 3 ∨ p = 4 ∨ p = 8 := h1
  omega
 ·rw [show ({Abh c with Phase := p} : Cl).Risk = c.Risk from rfl, hr] at h1
  cases h1
theorem Tr.lose (h : Tr c) (h11 : c.Phase ≠ 11) : Tr (Ww c) := by
 have hc : Tr (cutV c) := ⟨⟨h.t1, h.t2, h.t3⟩, h.t4, h.t5, h.t6, h.t7⟩
 unfold Ww
 split
 ·exact hc.toTrW.die
 split
 ·exact hc.toTrW.die
 ·split
  ·rename_i h9
   have hq := hc.pass h9 (p := 1) ⟨by decide, by decide, by decide, by decide, by decide⟩
   exact ⟨⟨hq.t1, hq.t2, hq.t3⟩, hq.t4, hq.t5, hq.t6, hq.t7⟩
  ·rename_i h9
   have hq := hc.phase h9 h11 (p := 1) ⟨by decide, by decide, by decide, by decide, by decide⟩
   exact ⟨⟨hq.t1, hq.t2, hq.t3⟩, hq.t4, hq.t5, hq.t6, hq.t7⟩
theorem Tr.step (h : Tr c) (h34 : c.Phase = 3 ∨ c.Phase = 4) {t : As} {ts : List As} (ht : c.Tasks = t :: ts) (ha : 0 < c.Attempt) : Tr (Zn c t) := by
 obtain ⟨hr, h4⟩ := h.t4 (by omega)
 have hw : ∀ (p : Int) (s : A7), p ≠ 9 → TrW {c with Phase := p, St := s} := fun p s hp => ⟨h.t1, h.t2, fun y hy => (h.t3 y hy).imp id fun ⟨_, h2⟩ => ⟨hp, h2⟩⟩
 unfold Zn
 split
 ·exact Tr.send ⟨hw 4 _ (by decide), fun _ => ⟨hr, h4⟩, fun h1 => (by rw [show c.Risk = true from h1] at hr; cases hr), fun h1 => absurd (show (4 : Int) = 5 from h1) (by decide), fun _ => hr⟩ _
 split
 ·exact Tr.send ⟨hw 6 _ (by decide), fun h1 => (by have h1 : (6 : Int) = 3 ∨ (6 : Int) = 4 ∨ (6 : Int) = 8 := h1; omega), fun h1 => (by rw [show c.Risk = true from h1] at hr; cases hr), fun h1 => absurd (show (6 : Int) = 5 from h1) (by decide), fun _ => hr⟩ _
 ·have hor := Anh (hw 5 (O8 t.Prog c.St).2.1 (by decide)) ⟨7, 0, 0, 0, false, [], [], Bt⟩
  have htr := W8 {c with Phase := 5, St := (O8 t.Prog c.St).2.1} ⟨7, 0, 0, 0, false, [], [], Bt⟩
  generalize Mw {c with Phase := 5, St := (O8 t.Prog c.St).2.1} ⟨7, 0, 0, 0, false, [], [], Bt⟩ = d at hor htr ⊢
  rcases hor with ⟨hp, hd⟩ | ⟨hp, e1, e2, e3, e4⟩
  ·rw [if_pos hp]; exact hd
  ·have hp : d.Phase = 5 := hp
   have e1 : d.Tasks = c.Tasks := e1
   have e2 : d.Attempt = c.Attempt := e2
   have e4 : d.Done = c.Done := e4
   have e3 : d.St = (O8 t.Prog c.St).2.1 := e3
   rw [if_neg (by omega)]
   refine ⟨⟨?_, fun x hx h1 => ?_, fun y hy => ?_⟩, fun h1 => ?_, fun _ _ => ⟨t, ts, e1.trans ht, ⟨t.Token, c.Attempt, (O8 t.Prog c.St).2.1.Regs⟩, ?_, rfl, e2.symm, by rw [e3]⟩, fun _ => rfl, fun h1 => ?_⟩
   ·show (c.Tried ++ [_]).Pairwise _
    rw [List.pairwise_append]
    refine ⟨h.t1, List.pairwise_singleton .., fun y hy z hz he => ?_⟩
    rw [List.mem_singleton] at hz
    subst hz
    exact h4 y hy t ts ht he
   ·have hx : x ∈ d.Done := hx
    rw [e4] at hx
    obtain ⟨v0, y, hy, k⟩ := h.t2 x hx h1
    exact ⟨v0, y, List.mem_append_left _ hy, k⟩
   ·show y.Token ∈ d.Done.map (·.Token) ∨ (d.Phase ≠ 9 ∧ 0 < d.Attempt ∧ ∃ t ts, d.Tasks = t :: ts ∧ y.Token = t.Token ∧ y.Attempt ≤ d.Attempt)
    rw [e4, e2, e1, hp]
    rcases List.mem_append.1 (show y ∈ c.Tried ++ [_] from hy) with hy | hy
    ·exact (h.t3 y hy).imp id fun ⟨_, h2⟩ => ⟨by decide, h2⟩
    ·rw [List.mem_singleton] at hy
     subst hy
     exact .inr ⟨by decide, ha, t, ts, ht, rfl, Int.le_refl _⟩
   ·have h1 : d.Phase = 3 ∨ d.Phase = 4 ∨ d.Phase = 8 := h1
    omega
   ·exact List.mem_append_right _ (List.mem_singleton.2 rfl)
   ·have h1 : d.Phase = 9 := h1
    omega
end
end Go.Proofs.YtbjckaahoacbfaaGreatDoor.Abs
