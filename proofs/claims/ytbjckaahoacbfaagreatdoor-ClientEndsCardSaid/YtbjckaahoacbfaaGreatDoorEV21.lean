/-
 It comes to an end.
-/
import Derived.Test.YtbjckaahoacbfaaGreatDoorEU21
set_option linter.unusedVariables false
set_option linter.unusedSimpArgs false
namespace Go.Proofs.YtbjckaahoacbfaaGreatDoor.Abs
open mg (Fu eR Ow)
def pot (c : Cl) : Nat := if c.Phase = 0 ∨ c.Phase = 11 then 0 else 12 * (3 - c.Resets).toNat + (if c.Phase = 1 ∨ c.Phase = 8 ∨ c.Phase = 10 then 5 else (4 - c.Sent).toNat)
theorem T7 (c : Cl) : pot (Afb c) = 0 := if_pos (.inr rfl)
theorem Aga (c : Cl) : pot (Ahf c) ≤ pot c := by
 unfold Ahf
 split
 ·exact Nat.le_refl _
 ·rw [T7]; omega
theorem Yv (c : Cl) (r : B6) (h : ¬ (c.Phase = 1 ∨ c.Phase = 8 ∨ c.Phase = 10)) : pot (Pa c r) ≤ 12 * (3 - c.Resets).toNat + 4 := by
 unfold Pa
 split
 ·rw [T7]; omega
 split
 ·rw [T7]; omega
 ·refine Nat.le_trans (Aga _) ?_
  unfold pot
  dsimp only
  split
  ·omega
  ·omega
theorem Ai9 {l : List Int} {n : Nat} {c : Cl} (h : Inv l n c) (h11 : c.Phase ≠ 11) : pot (Wa c) + 7 ≤ 12 * (3 - c.Resets).toNat := by
 have hd := (h.du h11).2
 have hr := h.re
 have hw : Ad7 c = c.Resets + 1 := by unfold Ad7; rw [Dx (by omega) (by omega), if_neg (by omega)]
 unfold Wa
 split
 ·rw [T7]; omega
 split
 ·rw [T7]; omega
 ·rename_i h1 h2
  have e : ∀ d : Cl, d.Resets = c.Resets + 1 → pot (Ajk d) = 12 * (3 - (c.Resets + 1)).toNat + 5 := fun d hd => by
   unfold pot Ajk
   dsimp only
   rw [if_neg (by omega), if_pos (.inl rfl), hd]
  split
  ·rw [e _ hw]; omega
  ·rw [e _ hw]; omega
theorem Aj2 {l : List Int} {n : Nat} {c : Cl} (h : Inv l n c) (h0 : c.Phase ≠ 0) (h1 : c.Phase ≠ 1) (h11 : c.Phase ≠ 11) : pot (T9 c 50) + 1 ≤ pot c := by
 have hi := h.left (k := 50) ⟨by decide, by decide⟩
 have hr := h.re
 have hd := (h.du h11).2
 have hp := h.ph
 have hl := h.le
 have hs := h.se
 unfold T9
 rw [if_neg (by omega), if_pos (by omega)]
 have hc : pot c = 12 * (3 - c.Resets).toNat + (if c.Phase = 1 ∨ c.Phase = 8 ∨ c.Phase = 10 then 5 else (4 - c.Sent).toNat) := if_neg (by omega)
 have key : ∀ d : Cl, Inv l n d → d.Phase = c.Phase → d.Resets = c.Resets → d.Sent = c.Sent → pot (Ahw d) + 1 ≤ pot c := by
  intro d hI e1 e2 e3
  by_cases p8 : c.Phase = 8
  ·obtain ⟨t, ts, ht⟩ := hI.tasks (by omega) (by omega)
   rw [Xp ht, if_pos (by omega), hc, if_pos (by omega)]
   have this : pot (Tt d t) ≤ 12 * (3 - d.Resets).toNat + 4 := Yv {d with Phase := 3, Risk := false, St := G4} ⟨2, 0, t.Token, d.Attempt, t.Prog.RO, [], [], Bs⟩ (by show ¬ ((3 : Int) = 1 ∨ (3 : Int) = 8 ∨ (3 : Int) = 10); omega)
   rw [e2] at this
   omega
  by_cases p10 : c.Phase = 10
  ·obtain ⟨t, ts, ht⟩ := hI.tasks (by omega) (by omega)
   rw [Xp ht, if_neg (by omega), if_pos (by omega), hc, if_pos (by omega)]
   have this : pot (Ah1 d t) ≤ 12 * (3 - d.Resets).toNat + 4 := Yv {d with Phase := 7} ⟨9, 0, t.Token, d.Attempt, false, [], [], Bs⟩ (by show ¬ ((7 : Int) = 1 ∨ (7 : Int) = 8 ∨ (7 : Int) = 10); omega)
   rw [e2] at this
   omega
  have e : Ahw d = Jd d := by
   rcases Ip d with ht | ⟨t, ts, ht⟩
   ·exact Aku ht
   ·rw [Xp ht, if_neg (by omega), if_neg (by omega)]
  rw [e, hc, if_neg (by omega)]
  unfold Jd
  split
  ·have := Ai9 hI (by omega)
   rw [e2] at this
   omega
  split
  ·rw [T7]; omega
  ·rename_i q1 q2
   have hb := Acu (by simpa using q1)
   have hw : wI (d.Sent + 1) = d.Sent + 1 := Dx (by omega) (by omega)
   rw [hw] at hb ⊢
   refine Nat.le_trans (Nat.add_le_add_right (Aga _) 1) ?_
   unfold pot
   dsimp only
   rw [if_neg (by omega), if_neg (by omega), e2, e3]
   omega
 exact key _ hi rfl rfl rfl
theorem Ait {c : Cl} (h1 : c.Phase = 1) : pot (U5 c) + 1 ≤ pot c := by
 have this : pot (U5 c) ≤ 12 * (3 - c.Resets).toNat + 4 := Yv {c with Phase := 2, Seq := 0} ⟨1, 0, 3, c.Epoch, false, [], [], Bs⟩ (by show ¬ ((2 : Int) = 1 ∨ (2 : Int) = 8 ∨ (2 : Int) = 10); omega)
 have hc : pot c = 12 * (3 - c.Resets).toNat + 5 := by unfold pot; rw [if_neg (by omega), if_pos (.inl h1)]
 omega
theorem Zt {c : Cl} (h : c.Phase = 0 ∨ c.Phase = 1 ∨ c.Phase = 11) (k : Int) : T9 c k = c := if_pos h
theorem Ae0 {l : List Int} {n : Nat} {c : Cl} (h : Inv l n c) (h1 : c.Phase ≠ 1) : pot (T9 c 50) + 1 ≤ pot c ∨ (pot c = 0 ∧ pot (T9 c 50) = 0) := by
 by_cases h0 : c.Phase = 0
 ·right
  have e : pot c = 0 := if_pos (.inl h0)
  rw [Zt (.inl h0)]
  exact ⟨e, e⟩
 by_cases h11 : c.Phase = 11
 ·right
  have e : pot c = 0 := if_pos (.inr h11)
  rw [Zt (.inr (.inr h11))]
  exact ⟨e, e⟩
 exact .inl (Aj2 h h0 h1 h11)
theorem Atg {l : List Int} {n : Nat} {c : Cl} (h : Inv l n c) (h0 : pot c = 0) : c.Phase = 0 ∨ c.Phase = 11 := by
 apply Classical.byContradiction
 intro hn
 have hd := (h.du (by omega)).2
 have hr := h.re
 unfold pot at h0
 rw [if_neg hn] at h0
 omega
theorem Amo {l : List Int} {n : Nat} {c : Cl} (h : Inv l n c) : pot c ≤ 41 := by
 have hr := h.re
 have hs := h.se
 unfold pot
 split
 ·omega
 ·split <;> omega
theorem Agf {l : List Int} {n : Nat} {c : Cl} (h : Inv l n c) (s : Int × Cl) : Ei s c () = some (.cont (wI (s.1 + 1), T9 c 50)) ∧ Inv l n (T9 c 50) := by
 obtain ⟨hx, hI⟩ := Akt h (k := 50) ⟨by decide, by decide⟩
 unfold Ei
 rw [hx, Option.bind_some, if_neg (nn (by rfl))]
 exact ⟨rfl, hI⟩
theorem Ag9 {l : List Int} {n : Nat} {c : Cl} (h : Inv l n c) (a1 : Bool) : Ha a1 true c = some true := by
 unfold Ha
 obtain ⟨v, hv, hr⟩ := Oq (f := Hd a1 true) (P := fun s => ∃ i : Nat, s.1 = (i : Int) ∧ i ≤ 200 ∧ Inv l n s.2 ∧ (pot s.2 + i ≤ 41 ∨ pot s.2 = 0)) (μ := fun s => 200 - s.1.toNat)
  (R := fun r => match r with
   | .inl b => b = true
   | .inr d => Inv l n d ∧ pot d = 0) (by
  rintro ⟨_, d⟩ ⟨i, rfl, hi, hI, hp⟩
  have hI : Inv l n d := hI
  have hp : pot d + i ≤ 41 ∨ pot d = 0 := hp
  unfold Hd
  dsimp only
  rcases Nat.lt_or_ge i 200 with hlt | hge
  ·rw [if_pos (decide_eq_true (by omega))]
   have hti : ∀ e : Cl, Inv l n e → e.Phase ≠ 1 → (pot e + i ≤ 41 ∨ pot e = 0) → ∃ s', Ei ((i : Int), d) e () = some (.cont s') ∧ (∃ j : Nat, s'.1 = (j : Int) ∧ j ≤ 200 ∧ Inv l n s'.2 ∧ (pot s'.2 + j ≤ 41 ∨ pot s'.2 = 0)) ∧ 200 - s'.1.toNat < 200 - i := fun e he h1 hq => by
    obtain ⟨hx, hJ⟩ := Agf he ((i : Int), d)
    dsimp only at hx
    rw [Dx (by omega) (by omega)] at hx
    refine ⟨_, hx, ⟨i + 1, rfl, hlt, hJ, ?_⟩, by dsimp only; omega⟩
    rcases Ae0 he h1 with hk | ⟨hk, hk2⟩
    ·rcases hq with hq | hq
     ·left; dsimp only; omega
     ·omega
    ·right; exact hk2
   cases a1 with
   | true =>
    rw [if_pos rfl]
    by_cases p1 : d.Phase = 1
    ·rw [if_pos (decide_eq_true p1)]
     rcases Ak6 hI with ⟨q, -⟩ | ⟨-, hx, hJ⟩
     ·exact absurd p1 q
     rw [hx, Option.bind_some, if_neg (nn (by rfl))]
     unfold Dp
     rw [if_neg (by decide)]
     left
     have hpc := Ait p1
     have hne : (U5 d).Phase ≠ 1 := fun hq => by
      have hz : pot (U5 d) = 12 * (3 - (U5 d).Resets).toNat + 5 := by unfold pot; rw [if_neg (by omega), if_pos (.inl hq)]
      have hz2 : pot d = 12 * (3 - d.Resets).toNat + 5 := by unfold pot; rw [if_neg (by omega), if_pos (.inl p1)]
      have hs : (U5 d).Phase = 2 ∨ (U5 d).Phase = 11 := by
       unfold U5 Pa Ahf
       split
       ·right; rfl
       split
       ·right; rfl
       split
       ·left; rfl
       ·right; rfl
      omega
     exact hti (U5 d) hJ hne (by omega)
    ·rw [if_neg (by rw [decide_eq_true_eq]; exact p1)]
     unfold Dp
     rw [if_neg (by decide)]
     left
     exact hti _ hI p1 hp
   | false =>
    rw [if_neg (by decide)]
    unfold Dp
    rw [if_pos (by rfl)]
    by_cases p1 : d.Phase = 1
    ·rw [if_pos (decide_eq_true p1)]
     right; right
     exact ⟨_, rfl, rfl⟩
    ·rw [if_neg (by rw [decide_eq_true_eq]; exact p1)]
     left
     exact hti _ hI p1 hp
  ·rw [if_neg (by rw [decide_eq_true_eq]; omega)]
   right; left
   exact ⟨_, rfl, hI, by omega⟩) fuel (0, c) ⟨0, rfl, by decide, h, .inl (Amo h)⟩ (Hj (by show 200 - 0 ≤ _; decide))
 rw [hv, Option.bind_some]
 rcases v with b | d
 ·have hr : b = true := hr
  rw [hr]
 ·obtain ⟨hI, hz⟩ := hr
  have hp := Atg hI hz
  show Hb true d = some true
  unfold Hb
  rw [if_pos rfl]
  have ht : decide ((d.Tasks.length : Int) = 0) = true := decide_eq_true (by rw [hI.wi hp]; rfl)
  by_cases p11 : d.Phase = 11
  ·rw [if_pos (decide_eq_true p11), ht]
  ·rw [if_neg (by rw [decide_eq_true_eq]; exact p11), if_pos (decide_eq_true (by omega)), ht]
theorem Vu (a0 : List Ka) (a1 : Bool) : Kw a0 a1 = some true := by
 unfold Kw
 obtain ⟨v, hv, hsm⟩ := Ale a0
 rw [Ali, Option.bind_some, hv, Option.bind_some]
 cases v with
 | false => rfl
 | true =>
  obtain ⟨hx, hs⟩ := hsm rfl
  rw [if_neg (by decide), show Nf = some pl from rfl, Option.bind_some]
  have hnew : K6 pl = some (⟨pl, [], 1, 1, 0, 0, 0, 0, 0, false, G4, Om, ⟨[], 0⟩, [], [], []⟩, 0) := by
   unfold K6
   rw [Akh, Option.bind_some, if_neg (by decide)]
  rw [hnew, Option.bind_some, if_neg (by decide)]
  obtain ⟨d, hd, l, n, hI⟩ := He (f := Gr a0) (P := fun s => ∃ (l : List Int) (i : Nat), i ≤ a0.length ∧ s.1 = (i : Int) ∧ Inv l (i * 2000) s.2 ∧ l.length ≤ i) (μ := fun s => a0.length - s.1.toNat) (R := fun d => ∃ (l : List Int) (n : Nat), Inv l n d) (by
   rintro ⟨_, c⟩ ⟨l, i, hi, rfl, hI, hn⟩
   have hI : Inv l (i * 2000) c := hI
   unfold Gr
   dsimp only
   rcases Nat.lt_or_ge i a0.length with hlt | hge
   ·left
    obtain ⟨a1, a2, a3⟩ := Ar2 hI (by omega) (by omega) (hs _ (List.getElem_mem hlt))
    rw [if_pos (decide_eq_true (by omega)), Gy, List.getElem?_eq_getElem hlt, Option.bind_some, a1, Option.bind_some, Dx (by omega) (by omega)]
    have hm : i * 2000 + 2000 = (i + 1) * 2000 := by omega
    rw [hm] at a2 a3
    refine ⟨_, rfl, ?_, by dsimp only; omega⟩
    by_cases hok : (a0[i]).What ≤ 1 ∧ Wk c ⟨(a0[i]).Task.Token, oG (a0[i]).Task.Prog⟩
    ·exact ⟨_, i + 1, hlt, rfl, a2 hok, by simp; omega⟩
    ·exact ⟨l, i + 1, hlt, rfl, (a3 hok).1, by omega⟩
   ·right
    rw [if_neg (by rw [decide_eq_true_eq]; omega)]
    exact ⟨_, rfl, l, _, hI⟩) fuel (0, ⟨pl, [], 1, 1, 0, 0, 0, 0, 0, false, G4, Om, ⟨[], 0⟩, [], [], []⟩) ⟨[], 0, Nat.zero_le _, rfl, Inv.zero, Nat.le_refl _⟩ (Hj (by show a0.length - 0 ≤ _; omega))
  rw [hd, Option.bind_some]
  exact Ag9 hI a1
end Go.Proofs.YtbjckaahoacbfaaGreatDoor.Abs
