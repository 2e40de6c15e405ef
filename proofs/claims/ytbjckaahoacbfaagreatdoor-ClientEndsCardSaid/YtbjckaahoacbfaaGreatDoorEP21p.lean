/-
 What the library's functions compute.
-/
import Derived.Test.YtbjckaahoacbfaaGreatDoorEP21e
set_option linter.unusedVariables false
set_option linter.unusedSimpArgs false
namespace Go.Proofs.YtbjckaahoacbfaaGreatDoor.Abs.pg
def byt (x : BitVec 64) (i : Nat) : UInt8 := UInt8.ofBitVec ((x >>> (8 * i)).setWidth 8)
def Avl (n : Int) : List UInt8 := [byt (BitVec.ofInt 64 n) 0, byt (BitVec.ofInt 64 n) 1, byt (BitVec.ofInt 64 n) 2, byt (BitVec.ofInt 64 n) 3]
theorem val_m (n : Int) : Ns n = some (Avl n) := by kernel_rfl
def leV (c : List UInt8) : Nat → BitVec 64
 | 0 => 0#64
 | i + 1 => leV c i ||| ((c[i]?.getD 0).toBitVec.setWidth 64 <<< (8 * i))
theorem Ajo (c : List UInt8) (i : Nat) : leV c (i + 1) = leV c i ||| ((c[i]?.getD 0).toBitVec.setWidth 64 <<< (8 * i)) := rfl
theorem Avd {c : List UInt8} (h : c.length ≤ 4) : (A3 (c.length : Int) 0 0 c).bind (fun v3 => some (wI (v3.1.toNat : Int))) = some (wI ((leV c c.length).toNat : Int)) := by
 unfold A3 Br
 rw [Option.bind_some, decide_eq_true rfl, if_neg (nn (by rfl))]
 by_cases h0 : (c.length : Int) < 1
 ·rw [if_pos (decide_eq_true h0)]
  have : c.length = 0 := by omega
  rw [this]
  rfl
 rw [if_neg (by rw [decide_eq_true_eq]; exact h0), if_neg (by rw [decide_eq_true_eq]; omega)]
 unfold Dq Cm Dt Ew Ft
 rw [Dx (by omega) (by omega), show (0 : Int) + 0 = 0 from rfl, On (by omega) (by omega) (by omega), show List.take ((c.length : Int).toNat - (0 : Int).toNat) (List.drop (0 : Int).toNat c) = c by simp]
 simp only [Option.bind_some]
 rw [if_neg (by rw [decide_eq_true_eq]; omega), if_pos (decide_eq_true (by omega)), Dx (by omega) (by omega), On (by omega) (by omega) (by omega), Option.bind_some]
 unfold C6
 dsimp only
 rw [On (by omega) (by omega) (by omega), Option.bind_some, show List.take ((c.length : Int).toNat - (0 : Int).toNat) (List.drop (0 : Int).toNat c) = c by simp, Option.bind_some]
 obtain ⟨v, hv, rfl⟩ := He (f := Ek (c, 0, 0 + (c.length : Int))) (P := fun s => ∃ i : Nat, i ≤ c.length ∧ s = (leV c i, (i : Int))) (μ := fun s => c.length - s.2.toNat) (R := fun v => v = leV c c.length) (by
  rintro _ ⟨i, hi, rfl⟩
  unfold Ek
  dsimp only
  rcases Nat.lt_or_ge i c.length with hlt | hge
  ·left
   rw [if_pos (decide_eq_true (by omega)), Gy, List.getElem?_eq_getElem hlt, Option.bind_some, Dx (by omega) (by omega), Dx (by omega) (by omega), if_pos (by omega)]
   refine ⟨_, rfl, ⟨i + 1, hlt, ?_⟩, by dsimp only; omega⟩
   rw [show (8 * (i : Int)).toNat = 8 * i by omega]
   rw [Ajo, List.getElem?_eq_getElem hlt]
   rfl
  ·right
   have e : i = c.length := by omega
   subst e
   rw [if_neg (by rw [decide_eq_true_eq]; omega)]
   exact ⟨_, rfl, rfl⟩) fuel (0#64, 0) ⟨0, Nat.zero_le _, rfl⟩ (Hj (by show c.length - 0 ≤ _; omega))
 simp only [Option.bind_some]
 rw [hv]
 rfl
def Auo (b : List UInt8) : Int := wI ((leV (b.take 4) (b.take 4).length).toNat : Int)
theorem Aph (b : List UInt8) : K9 b = some (Auo b) := by
 unfold K9
 have hc : cut b 0 (if 4 < (b.length : Int) then 4 else (b.length : Int)) = some (b.take 4) := by
  by_cases h : 4 < (b.length : Int)
  ·rw [if_pos h, On (by omega) (by omega) (by omega)]; rfl
  ·rw [if_neg h, On (by omega) (by omega) (by omega)]
   congr 1
   simp
   rw [List.take_of_length_le (by omega)]
 rw [hc, Option.bind_some]
 unfold Jg
 rw [Option.bind_some]
 exact Avd (by rw [List.length_take]; omega)
def Ze (o : B5) : Prop := (0 ≤ o.A ∧ o.A ≤ 7) ∧ (0 ≤ o.B ∧ o.B ≤ 7) ∧ 0 ≤ o.N ∧ o.N ≤ 4294967295
theorem Ky (a b : Int) : E6 a b = some (decide (0 ≤ a) && decide (a ≤ b)) := by
 unfold E6
 cases decide (0 ≤ a) <;> rfl
theorem Abq (k : List UInt8) : ∃ v, J5 k = some v := by
 unfold J5
 repeat (first | exact ⟨_, rfl⟩ | split)
theorem Ae6 (w : Int) : Gg w = some (if w = 1 then ⟨true, false, false⟩ else if w = 2 ∨ w = 3 then ⟨true, false, true⟩ else if w = 4 then ⟨false, true, false⟩ else ⟨false, false, false⟩) := by
 unfold Gg G8
 by_cases h1 : w = 1
 ·simp [h1]
 by_cases h2 : w = 2
 ·simp [h2]
 by_cases h3 : w = 3
 ·simp [h3]
 by_cases h4 : w = 4
 ·simp [h4]
 simp [h1, h2, h3, h4]
theorem Aew (o : B5) : J9 o = some (decide (1 ≤ o.What) && decide (o.What ≤ 4)) := by
 unfold J9
 rw [Ae6, Option.bind_some]
 generalize o.What = w
 by_cases h1 : w = 1
 ·simp [h1]
 by_cases h2 : w = 2
 ·simp [h2]
 by_cases h3 : w = 3
 ·simp [h3]
 by_cases h4 : w = 4
 ·simp [h4]
 simp [h1, h2, h3, h4]
 omega
theorem Zq (r : B7) : ∃ v, Ic r = some v := by
 unfold Ic
 repeat (first | exact ⟨_, rfl⟩ | split)
theorem Aey (r : B7) : ∃ v, Km r = some v := by
 have hk : ∀ c, ∃ v, Fo r c = some v := fun c => by
  unfold Fo
  cases c with
  | true => exact ⟨_, rfl⟩
  | false => exact ⟨_, rfl⟩
 unfold Km
 split
 ·exact ⟨_, rfl⟩
 split
 ·split
  ·rename_i h1 h2
   have h2 := of_decide_eq_true h2
   obtain ⟨x, hx, -⟩ := W0 (xs := r.Hi) (j := 0) (by decide) (by omega)
   rw [hx, Option.bind_some]
   exact hk _
  ·exact hk _
 ·exact hk _
theorem Agd (r : B7) : ∃ v, D8 r = some v := by
 have h1 : ∃ v, Gf r = some v := by
  unfold Gf
  repeat (first | exact ⟨_, rfl⟩ | split)
 obtain ⟨v, hv⟩ := h1
 obtain ⟨u, hu⟩ := Aey r
 unfold D8
 rw [hv, hu, Option.bind_some, Option.bind_some]
 repeat (first | exact ⟨_, rfl⟩ | split)
theorem Vi (o : B5) (ro : Bool) : ∃ v, Ci o ro = some v ∧ (v = true → Ze o ∧ (ro = true → o.What ≠ 2 ∧ o.What ≠ 3)) := by
 unfold Ci
 rw [Ky, Option.bind_some]
 cases hw : (decide (0 ≤ wI (o.What - 1)) && decide (wI (o.What - 1) ≤ 7)) with
 | false => exact ⟨false, rfl, fun h => by cases h⟩
 | true =>
 rw [if_neg (nn (by rfl)), Ky, Option.bind_some]
 cases hA : (decide (0 ≤ o.A) && decide (o.A ≤ 7)) with
 | false => exact ⟨false, rfl, fun h => by cases h⟩
 | true =>
 rw [if_neg (nn (by rfl)), Ky, Option.bind_some]
 cases hB : (decide (0 ≤ o.B) && decide (o.B ≤ 7)) with
 | false => exact ⟨false, rfl, fun h => by cases h⟩
 | true =>
 rw [if_neg (nn (by rfl)), Ky, Option.bind_some]
 cases hN : (decide (0 ≤ o.N) && decide (o.N ≤ 4294967295)) with
 | false => exact ⟨false, rfl, fun h => by cases h⟩
 | true =>
 rw [if_neg (nn (by rfl))]
 simp only [Bool.and_eq_true, decide_eq_true_eq] at hA hB hN
 have hg : Ze o := ⟨hA, hB, hN⟩
 suffices h : ∃ v, E8 o ro () = some v ∧ (v = true → ro = true → o.What ≠ 2 ∧ o.What ≠ 3) by
  obtain ⟨v, hv, hw⟩ := h
  exact ⟨v, hv, fun h => ⟨hg, hw h⟩⟩
 have hk4 : ∀ c, ∃ v, Cy o c = some v := fun c => by
  unfold Cy
  obtain ⟨a, ha⟩ := Abq o.Key
  obtain ⟨b, hb⟩ := Agd o.Rng
  rw [ha, hb, Option.bind_some, Option.bind_some]
  repeat (first | exact ⟨_, rfl⟩ | split)
 have hk3 : ∃ v, Cz o () = some v := by
  unfold Cz
  split
  ·exact hk4 _
  split
  ·exact hk4 _
  ·exact hk4 _
 unfold E8
 obtain ⟨b, hb⟩ := Zq o.Rng
 obtain ⟨f, hf, hf2⟩ : ∃ f, Gg o.What = some f ∧ (f.R2 = false → o.What ≠ 2 ∧ o.What ≠ 3) := ⟨_, Ae6 _, fun h => ⟨fun e => (by rw [e] at h; cases h), fun e => (by rw [e] at h; cases h)⟩⟩
 obtain ⟨k3, hk3⟩ := hk3
 rw [hk3, hf, Option.bind_some, hb, Option.bind_some]
 split
 ·exact ⟨_, rfl, fun h => by cases h⟩
 split
 ·split
  ·exact ⟨_, rfl, fun h => by cases h⟩
  ·rename_i h; exact ⟨_, rfl, fun _ _ => hf2 (by simpa using h)⟩
 ·rename_i h; exact ⟨_, rfl, fun _ h' => absurd h' h⟩
theorem psane_m (p : Co) (h : p.Ops.length ≤ 1000000) : ∃ v, D0 p = some v ∧ (v = true → (∀ o ∈ p.Ops, Ze o) ∧ (p.RO = true → ∀ o ∈ p.Ops, o.What ≠ 2 ∧ o.What ≠ 3)) := by
 unfold D0
 rw [Ao5 p.Ops (fun o => (Ci o p.RO).getD false) false (E5 p) (by omega) (fun i o ho => by
  have hlt := (List.getElem?_eq_some_iff.1 ho).1
  obtain ⟨v, hv, -⟩ := Vi o p.RO
  unfold E5
  rw [if_pos (decide_eq_true (by omega)), Gy, ho, Option.bind_some, hv, Option.bind_some, Dx (by omega) (by omega)]
  cases v <;> rfl) (by
  unfold E5
  rw [if_neg (by rw [decide_eq_true_eq]; omega)])]
 cases ha : p.Ops.all (fun o => (Ci o p.RO).getD false) with
 | false => exact ⟨false, rfl, fun h => by cases h⟩
 | true =>
  have hall : ∀ o ∈ p.Ops, Ze o ∧ (p.RO = true → o.What ≠ 2 ∧ o.What ≠ 3) := fun o ho => by
   have := List.all_eq_true.1 ha o ho
   obtain ⟨v, hv, hg⟩ := Vi o p.RO
   rw [hv] at this
   exact hg this
  exact ⟨decide ((p.Ops.length : Int) ≤ 24), rfl, fun _ => ⟨fun o ho => (hall o ho).1, fun hr o ho => (hall o ho).2 hr⟩⟩
theorem Qr (a : Ev) {j : Int} (v : Int) (h : 0 ≤ j ∧ j ≤ 7) : ∃ b, Ib a j v = some b := by
 unfold Ib
 repeat (first | exact ⟨_, rfl⟩ | split)
 omega
theorem Ab1 (a b c d e f g k : Int) {j : Int} (h : 0 ≤ j ∧ j ≤ 7) : ∃ u, idx [a, b, c, d, e, f, g, k] j = some u := by
 obtain ⟨x, hx, -⟩ := W0 (xs := [a, b, c, d, e, f, g, k]) (j := j) h.1 (by show j < 8; omega)
 exact ⟨x, hx⟩
theorem Amp (o : B5) (s : A6) (hg : Ze o) (h0 : 0 ≤ s.PC) (h1 : s.PC ≤ 1000000) : ∃ t, Kv o s = some t ∧ s.PC < t.PC := by
 obtain ⟨hA, hB, hN⟩ := hg
 obtain ⟨ua, hua⟩ := Ab1 s.Regs.R0 s.Regs.R1 s.Regs.R2 s.Regs.R3 s.Regs.R4 s.Regs.R5 s.Regs.R6 s.Regs.R7 hA
 obtain ⟨ub, hub⟩ := Ab1 s.Regs.R0 s.Regs.R1 s.Regs.R2 s.Regs.R3 s.Regs.R4 s.Regs.R5 s.Regs.R6 s.Regs.R7 hB
 have ha : 0 ≤ o.A ∧ o.A < ((8 : Nat) : Int) := by omega
 have hb : 0 ≤ o.B ∧ o.B < ((8 : Nat) : Int) := by omega
 unfold Kv
 rw [Dx (n := s.PC + 1) (by omega) (by omega), Dx (n := s.PC + 1 + o.N) (by omega) (by omega), if_pos ha, if_pos ha, if_pos ha, hua, Option.bind_some, Option.bind_some, if_pos hb, hub, Option.bind_some]
 unfold Ia
 rw [Option.bind_some, if_pos ha]
 obtain ⟨q, hq⟩ := Qr ⟨s.Regs.R0, s.Regs.R1, s.Regs.R2, s.Regs.R3, s.Regs.R4, s.Regs.R5, s.Regs.R6, s.Regs.R7⟩ o.N hA
 obtain ⟨q', hq'⟩ := Qr ⟨s.Regs.R0, s.Regs.R1, s.Regs.R2, s.Regs.R3, s.Regs.R4, s.Regs.R5, s.Regs.R6, s.Regs.R7⟩ (wI ((BitVec.ofInt 32 (wI (wI (ua + ub) + o.N))).toNat : Int)) hA
 rw [hq, hq', Option.bind_some, Option.bind_some]
 split
 ·exact ⟨_, rfl, by show s.PC < s.PC + 1; omega⟩
 split
 ·exact ⟨_, rfl, by show s.PC < s.PC + 1; omega⟩
 split
 ·split
  ·exact ⟨_, rfl, by show s.PC < s.PC + 1 + o.N; omega⟩
  ·exact ⟨_, rfl, by show s.PC < s.PC + 1; omega⟩
 split
 ·exact ⟨_, rfl, by show s.PC < s.PC + 1; omega⟩
 ·exact ⟨_, rfl, by show s.PC < s.PC + 1; omega⟩
theorem Ae1 (o : B5) (s : A6) (hg : Ze o) (h1 : 1 ≤ o.What) (h4 : o.What ≤ 4) : ∃ q, Ec o s = some q ∧ q.Kind = o.What + 2 ∧ (o.What ≤ 3 → q.Key = o.Key) := by
 obtain ⟨hA, hB, hN⟩ := hg
 obtain ⟨ub, hub⟩ := Ab1 s.Regs.R0 s.Regs.R1 s.Regs.R2 s.Regs.R3 s.Regs.R4 s.Regs.R5 s.Regs.R6 s.Regs.R7 hB
 have hb : 0 ≤ o.B ∧ o.B < ((8 : Nat) : Int) := by omega
 unfold Ec
 rw [if_pos hb, hub, Option.bind_some, val_m, Option.bind_some]
 split
 ·rename_i h; exact ⟨_, rfl, by have := of_decide_eq_true h; show (3 : Int) = _; omega, fun _ => rfl⟩
 split
 ·rename_i h; exact ⟨_, rfl, by have := of_decide_eq_true h; show (4 : Int) = _; omega, fun _ => rfl⟩
 split
 ·rename_i h; exact ⟨_, rfl, by have := of_decide_eq_true h; show (5 : Int) = _; omega, fun _ => rfl⟩
 ·rename_i g1 g2 g3
  rw [decide_eq_true_eq] at g1 g2 g3
  exact ⟨_, rfl, by show (6 : Int) = _; omega, fun h => by omega⟩
def zq : B6 := ⟨0, 0, 0, 0, false, [], [], ⟨[], [], false⟩⟩
theorem next_m (p : Co) (a : A6) (hl : p.Ops.length ≤ 1000) (hs : D0 p = some true) (hg : ∀ o ∈ p.Ops, Ze o) (h0 : 0 ≤ a.PC) :
  (∃ q t u, Fk p a = some (q, t, true) ∧ 0 ≤ t.PC ∧ t.PC < p.Ops.length ∧ a.PC ≤ t.PC ∧ a.Stopped = false ∧ idx p.Ops t.PC = some u ∧ (1 ≤ u.What ∧ u.What ≤ 4) ∧ q.Kind = u.What + 2 ∧ (u.What ≤ 3 → q.Key = u.Key) ∧ t.Stopped = false ∧ Ec u t = some q) ∨
  (∃ t, Fk p a = some (zq, t, false) ∧ 0 ≤ t.PC ∧ t.PC ≤ p.Ops.length ∧ (t.PC = p.Ops.length ∨ t.Stopped = true) ∧ (((p.Ops.length : Int) ≤ a.PC ∨ a.Stopped = true) → a.PC ≤ p.Ops.length → t = a)) := by
 unfold Fk
 rw [hs, Option.bind_some, if_neg (nn (by rfl)), if_neg (by rw [decide_eq_true_eq]; omega)]
 unfold Lb
 show (∃ q t u, Option.bind (Rv (Gh p) fuel (a)) _ = _ ∧ _) ∨ ∃ t, Option.bind (Rv (Gh p) fuel (a)) _ = _ ∧ _
 obtain ⟨v, hv, hr⟩ := Oq (f := Gh p) (P := fun s => 0 ≤ s.PC ∧ a.PC ≤ s.PC ∧ (a.Stopped = true → s.Stopped = true) ∧ (((p.Ops.length : Int) ≤ a.PC ∨ a.Stopped = true) → s = a)) (μ := fun s => (p.Ops.length - s.PC).toNat)
  (R := fun r => match r with
   | .inl (q, t, ok) => ok = true ∧ 0 ≤ t.PC ∧ t.PC < p.Ops.length ∧ a.PC ≤ t.PC ∧ a.Stopped = false ∧ ∃ u, idx p.Ops t.PC = some u ∧ (1 ≤ u.What ∧ u.What ≤ 4) ∧ q.Kind = u.What + 2 ∧ (u.What ≤ 3 → q.Key = u.Key) ∧ t.Stopped = false ∧ Ec u t = some q
   | .inr b => 0 ≤ b.PC ∧ ((p.Ops.length : Int) ≤ b.PC ∨ b.Stopped = true) ∧ (((p.Ops.length : Int) ≤ a.PC ∨ a.Stopped = true) → b = a)) (by
  intro s hP
  obtain ⟨p1, p2, p3, p4⟩ := hP
  unfold Gh
  by_cases hlt : s.PC < p.Ops.length
  ·rw [if_pos (decide_eq_true hlt)]
   cases hst : s.Stopped with
   | true =>
    right; left
    rw [if_neg (by decide)]
    exact ⟨_, rfl, p1, .inr hst, p4⟩
   | false =>
    have hnot : a.Stopped = false := by
     cases hq : a.Stopped with
     | false => rfl
     | true => rw [hst] at p3; exact absurd (p3 hq) (by decide)
    rw [if_pos (show (!false) = true from rfl)]
    unfold Kx
    obtain ⟨u, hu, hu2⟩ := W0 p1 hlt
    have hgu := hg u (List.mem_of_getElem? hu2)
    rw [hu, Option.bind_some, Aew, Option.bind_some]
    cases hask : (decide (1 ≤ u.What) && decide (u.What ≤ 4)) with
    | true =>
     simp only [Bool.and_eq_true, decide_eq_true_eq] at hask
     right; right
     rw [if_pos rfl]
     obtain ⟨q, hq, hqk, hqy⟩ := Ae1 u (s) hgu hask.1 hask.2
     have hq' := hq
     skip
     rw [hq', Option.bind_some]
     exact ⟨_, rfl, rfl, p1, hlt, p2, hnot, u, hu, hask, hqk, hqy, hst, hq⟩
    | false =>
     left
     rw [if_neg (nn (by rfl))]
     obtain ⟨t, ht, hpc⟩ := Amp u (s) hgu p1 (by show s.PC ≤ 1000000; omega)
     have hpc : s.PC < t.PC := hpc
     skip
     rw [ht, Option.bind_some]
     refine ⟨_, rfl, ⟨by omega, by omega, fun h => (by rw [hnot] at h; cases h), fun h => ?_⟩, by omega⟩
     rcases h with h | h
     ·omega
     ·rw [hnot] at h; cases h
  ·right; left
   rw [if_neg (by rw [decide_eq_true_eq]; exact hlt)]
   exact ⟨_, rfl, p1, .inl (by omega), p4⟩) fuel (a) ⟨h0, Int.le_refl _, fun h => h, fun _ => rfl⟩ (Hj (by show ((p.Ops.length : Int) - a.PC).toNat ≤ _; omega))
 rw [hv, Option.bind_some]
 rcases v with ⟨q, t, ok⟩ | b
 ·obtain ⟨rfl, r1, r2, r3, r4, u, r5, r6, r7, r8, r9⟩ := hr
  exact .inl ⟨q, t, u, rfl, r1, r2, r3, r4, r5, r6, r7, r8, r9⟩
 ·obtain ⟨r1, r2, r3⟩ := hr
  right
  refine ⟨_, rfl, ?_, ?_, ?_, ?_⟩
  ·dsimp only
   split <;> omega
  ·dsimp only
   split
   ·omega
   ·rename_i h; omega
  ·dsimp only
   rcases r2 with r2 | r2
   ·left
    split <;> omega
   ·exact .inr r2
  ·intro h1 h2
   have hb := r3 h1
   rw [hb, if_neg (by omega)]
theorem few_m (p : Iz) : ∃ v, L6 p = some v ∧ (v = true → p.Ops.length ≤ 40 ∧ ∀ o ∈ p.Ops, o.Key.length ≤ 50) := by
 unfold L6
 by_cases h1 : (40 : Int) < p.Ops.length
 ·rw [if_pos (decide_eq_true h1)]; exact ⟨_, rfl, fun h => by cases h⟩
 rw [if_neg (by rw [decide_eq_true_eq]; exact h1)]
 have hsh : ∀ r : B7, ∃ v, Jk r = some v := fun r => by
  unfold Jk
  split <;> exact ⟨_, rfl⟩
 rw [Ao5 p.Ops (fun x => !decide (50 < (x.Key.length : Int)) && (Jk x.Rng).getD false) false (J4 p) (by omega) (fun i x hx => by
  have hlt := (List.getElem?_eq_some_iff.1 hx).1
  unfold J4
  obtain ⟨v, hv⟩ := hsh x.Rng
  rw [if_pos (decide_eq_true (by omega)), Gy, hx, Option.bind_some, Option.bind_some, hv, Option.bind_some, Dx (by omega) (by omega)]
  cases decide (50 < (x.Key.length : Int)) <;> cases v <;> rfl) (by
  unfold J4
  rw [if_neg (by rw [decide_eq_true_eq]; omega)])]
 cases ha : p.Ops.all (fun x => !decide (50 < (x.Key.length : Int)) && (Jk x.Rng).getD false) with
 | true => exact ⟨true, rfl, fun _ => ⟨by omega, fun o ho => by
   have := List.all_eq_true.1 ha o ho
   simp only [Bool.and_eq_true, Bool.not_eq_true', decide_eq_false_iff_not] at this
   omega⟩⟩
 | false => exact ⟨false, rfl, fun h => by cases h⟩
theorem next_no (p : Co) (a : A6) (h : D0 p = some false ∨ (D0 p = some true ∧ a.PC < 0)) : Fk p a = some (zq, a, false) := by
 unfold Fk
 rcases h with h | ⟨h, h0⟩
 ·rw [h]; rfl
 ·rw [h, Option.bind_some, if_neg (nn (by rfl)), if_pos (decide_eq_true h0)]
  rfl
theorem Ase (l : List C9) (h : l.length ≤ 1000000000) : ∃ v, Mi l = some v := by
 unfold Mi
 obtain ⟨v, hv, -⟩ := He (f := Jt l) (P := fun s => ∃ i : Nat, i ≤ l.length ∧ s.2 = (i : Int)) (μ := fun s => l.length - s.2.toNat) (R := fun _ => True) (by
  rintro ⟨a, _⟩ ⟨i, hi, rfl⟩
  unfold Jt
  dsimp only
  rcases Nat.lt_or_ge i l.length with hlt | hge
  ·left
   rw [if_pos (decide_eq_true (by omega)), Gy, List.getElem?_eq_getElem hlt, Option.bind_some, Aph, Option.bind_some]
   unfold Ia
   rw [Option.bind_some, Dx (n := (i : Int) + 1) (by omega) (by omega)]
   exact ⟨_, rfl, ⟨i + 1, hlt, rfl⟩, by dsimp only; omega⟩
  ·right
   rw [if_neg (by rw [decide_eq_true_eq]; omega)]
   exact ⟨_, rfl, trivial⟩) fuel (0, 0) ⟨0, Nat.zero_le _, rfl⟩ (Hj (by show l.length - 0 ≤ _; omega))
 rw [hv]
 exact ⟨_, rfl⟩
theorem Acm (p : Co) (t : A6) (rep : Be) (u : B5) (hl : p.Ops.length ≤ 1000) (hs : D0 p = some true) (hg : ∀ o ∈ p.Ops, Ze o) (h0 : 0 ≤ t.PC) (h1 : t.PC < p.Ops.length) (hst : t.Stopped = false) (hu : idx p.Ops t.PC = some u) (hw : 1 ≤ u.What ∧ u.What ≤ 4) (hr : rep.List.length ≤ 1000000000) :
  ∃ t', Di p t rep = some (t', 0) ∧ t'.PC = t.PC + 1 := by
 have hgu := hg u (List.mem_of_getElem? (Tc hu).2)
 obtain ⟨hA, hB, hN⟩ := hgu
 have ha : 0 ≤ u.A ∧ u.A < ((8 : Nat) : Int) := by omega
 have hb : 0 ≤ u.B ∧ u.B < ((8 : Nat) : Int) := by omega
 have hk4 : ∀ x, ∃ t', Gi ⟨wI (t.PC + 1), x, t.Stopped⟩ = some (t', 0) ∧ t'.PC = t.PC + 1 := fun x => ⟨_, rfl, by show wI (t.PC + 1) = _; exact Dx (by omega) (by omega)⟩
 unfold Di
 rw [hs, Option.bind_some, if_neg (nn (by rfl)), Dx (by omega) (by omega), Ky, Option.bind_some, decide_eq_true h0, decide_eq_true (p := t.PC ≤ (p.Ops.length : Int) - 1) (by omega), if_neg (nn (by rfl)), hst, if_neg (nn (by rfl)), hu, Option.bind_some, Aew, Option.bind_some, decide_eq_true hw.1, decide_eq_true hw.2, if_neg (nn (by rfl))]
 unfold K4
 rw [hu, Option.bind_some, if_pos hb]
 split
 ·obtain ⟨q1, e1⟩ := Qr ⟨t.Regs.R0, t.Regs.R1, t.Regs.R2, t.Regs.R3, t.Regs.R4, t.Regs.R5, t.Regs.R6, t.Regs.R7⟩ 0 hB
  rw [e1, Option.bind_some]; try rw [if_pos ha]
  obtain ⟨q2, e2⟩ := Qr ⟨q1.R0, q1.R1, q1.R2, q1.R3, q1.R4, q1.R5, q1.R6, q1.R7⟩ 0 hA
  rw [e2, Option.bind_some]
  split
  ·obtain ⟨q3, e3⟩ := Qr ⟨q2.R0, q2.R1, q2.R2, q2.R3, q2.R4, q2.R5, q2.R6, q2.R7⟩ 1 hB
   try rw [if_pos hb]
   rw [e3, Option.bind_some, Aph, Option.bind_some]; try rw [if_pos ha]
   obtain ⟨q4, e4⟩ := Qr ⟨q3.R0, q3.R1, q3.R2, q3.R3, q3.R4, q3.R5, q3.R6, q3.R7⟩ (Auo rep.Val) hA
   rw [e4, Option.bind_some]
   exact hk4 _
  ·exact hk4 _
 split
 ·obtain ⟨v, hv⟩ := Ase rep.List hr
  rw [hv, Option.bind_some]; try rw [if_pos hb]
  obtain ⟨q1, e1⟩ := Qr ⟨t.Regs.R0, t.Regs.R1, t.Regs.R2, t.Regs.R3, t.Regs.R4, t.Regs.R5, t.Regs.R6, t.Regs.R7⟩ v hB
  rw [e1, Option.bind_some]; try rw [if_pos ha]
  obtain ⟨q2, e2⟩ := Qr ⟨q1.R0, q1.R1, q1.R2, q1.R3, q1.R4, q1.R5, q1.R6, q1.R7⟩ (rep.List.length : Int) hA
  rw [e2, Option.bind_some]
  exact hk4 _
 ·exact hk4 _
theorem saneOp_key (o : B5) (ro : Bool) (h : Ci o ro = some true) (h1 : 1 ≤ o.What) (h3 : o.What ≤ 3) : 1 ≤ o.Key.length ∧ o.Key.length ≤ 16 := by
 have k4 : Cy o true = some true → 1 ≤ o.Key.length ∧ o.Key.length ≤ 16 := fun h => by
  unfold Cy J5 at h
  rw [if_pos rfl] at h
  split at h
  ·rename_i h1
   have h1 := of_decide_eq_true h1
   have h := of_decide_eq_true (Option.some.inj h)
   omega
  ·cases h
 have k3 : Cz o () = some true → 1 ≤ o.Key.length ∧ o.Key.length ≤ 16 := fun h => by
  unfold Cz at h
  split at h
  ·rename_i hw; rw [hw] at h; exact k4 h
  split at h
  ·rename_i hw; rw [hw] at h; exact k4 h
  ·rename_i hw1 hw2
   rw [decide_eq_true_eq] at hw1 hw2
   rw [decide_eq_true (by omega)] at h; exact k4 h
 unfold Ci at h
 obtain ⟨v, -, h⟩ := An h
 split at h
 ·cases h
 obtain ⟨v, -, h⟩ := An h
 split at h
 ·cases h
 obtain ⟨v, -, h⟩ := An h
 split at h
 ·cases h
 obtain ⟨v, -, h⟩ := An h
 split at h
 ·cases h
 unfold E8 at h
 obtain ⟨v, -, h⟩ := An h
 obtain ⟨w, -, h⟩ := An h
 split at h
 ·cases h
 split at h
 ·split at h
  ·cases h
  ·exact k3 h
 ·exact k3 h
theorem psane_ops {p : Co} (hl : p.Ops.length ≤ 1000000) (h : D0 p = some true) : ∀ o ∈ p.Ops, Ci o p.RO = some true := by
 unfold D0 at h
 rw [Ao5 p.Ops (fun o => (Ci o p.RO).getD false) false (E5 p) (by omega) (fun i o ho => by
  have hlt := (List.getElem?_eq_some_iff.1 ho).1
  obtain ⟨v, hv, -⟩ := Vi o p.RO
  unfold E5
  rw [if_pos (decide_eq_true (by omega)), Gy, ho, Option.bind_some, hv, Option.bind_some, Dx (by omega) (by omega)]
  cases v <;> rfl) (by
  unfold E5
  rw [if_neg (by rw [decide_eq_true_eq]; omega)])] at h
 intro o ho
 cases ha : p.Ops.all (fun o => (Ci o p.RO).getD false) with
 | false => rw [ha] at h; cases h
 | true =>
  have := List.all_eq_true.1 ha o ho
  obtain ⟨v, hv, -⟩ := Vi o p.RO
  rw [hv] at this ⊢
  rw [show v = true from this]
theorem take_tot (p : Co) (t : A6) (rep : Be) (hl : p.Ops.length ≤ 1000) (hr : rep.List.length ≤ 1000000000) : ∃ t' e, Di p t rep = some (t', e) := by
 obtain ⟨v, hs, hv⟩ := psane_m p (by omega)
 cases v with
 | false =>
  unfold Di
  rw [hs, Option.bind_some, if_pos (show (!false) = true from rfl)]
  exact ⟨_, _, rfl⟩
 | true =>
  obtain ⟨hg, -⟩ := hv rfl
  by_cases h0 : 0 ≤ t.PC
  ·by_cases h1 : t.PC < p.Ops.length
   ·cases hst : t.Stopped with
    | true =>
     unfold Di
     rw [hs, Option.bind_some, if_neg (nn (by rfl)), Dx (by omega) (by omega), Ky, Option.bind_some, decide_eq_true h0, decide_eq_true (p := t.PC ≤ (p.Ops.length : Int) - 1) (by omega), if_neg (nn (by rfl)), if_pos hst]
     exact ⟨_, _, rfl⟩
    | false =>
     obtain ⟨u, hu, hu2⟩ := W0 h0 h1
     by_cases hw : 1 ≤ u.What ∧ u.What ≤ 4
     ·obtain ⟨t', ht, -⟩ := Acm p t rep u hl hs hg h0 h1 hst hu hw hr
      exact ⟨_, _, ht⟩
     ·unfold Di
      rw [hs, Option.bind_some, if_neg (nn (by rfl)), Dx (by omega) (by omega), Ky, Option.bind_some, decide_eq_true h0, decide_eq_true (p := t.PC ≤ (p.Ops.length : Int) - 1) (by omega), if_neg (nn (by rfl)), hst, if_neg (nn (by rfl)), hu, Option.bind_some, Aew, Option.bind_some, if_pos (by rw [show (decide (1 ≤ u.What) && decide (u.What ≤ 4)) = false from by simp; omega]; rfl)]
      exact ⟨_, _, rfl⟩
   ·unfold Di
    rw [hs, Option.bind_some, if_neg (nn (by rfl)), Dx (by omega) (by omega), Ky, Option.bind_some, decide_eq_false (p := t.PC ≤ (p.Ops.length : Int) - 1) (by omega), Bool.and_false, if_pos (show (!false) = true from rfl)]
    exact ⟨_, _, rfl⟩
  ·unfold Di
   rw [hs, Option.bind_some, if_neg (nn (by rfl)), Dx (by omega) (by omega), Ky, Option.bind_some, decide_eq_false (p := 0 ≤ t.PC) h0, Bool.false_and, if_pos (show (!false) = true from rfl)]
   exact ⟨_, _, rfl⟩
end Go.Proofs.YtbjckaahoacbfaaGreatDoor.Abs.pg
