/- . -/
import Derived.Test.YtbjckaahoacbfaaGreatDoorSP21e
set_option linter.unusedVariables false
set_option linter.unusedSimpArgs false
namespace Go.Proofs.YtbjckaahoacbfaaGreatDoor.Abs.pg
def byt (x : BitVec 64) (i : Nat) : UInt8 := UInt8.ofBitVec ((x >>> (8 * i)).setWidth 8)
def A10 (n : Int) : List UInt8 := [byt (BitVec.ofInt 64 n) 0, byt (BitVec.ofInt 64 n) 1, byt (BitVec.ofInt 64 n) 2, byt (BitVec.ofInt 64 n) 3]
theorem val_m (n : Int) : Ph n = some (A10 n) := by kernel_rfl
def leV (c : List UInt8) : Nat → BitVec 64
 | 0 => 0#64
 | i + 1 => leV c i ||| ((c[i]?.getD 0).toBitVec.setWidth 64 <<< (8 * i))
theorem Ant (c : List UInt8) (i : Nat) : leV c (i + 1) = leV c i ||| ((c[i]?.getD 0).toBitVec.setWidth 64 <<< (8 * i)) := rfl
theorem Azy {c : List UInt8} (h : c.length ≤ 4) : (Ax (c.length : Int) 0 0 c).bind (fun v3 => some (wI (v3.1.toNat : Int))) = some (wI ((leV c c.length).toNat : Int)) := by
 unfold Ax Bo
 rw [Option.bind_some, decide_eq_true rfl, if_neg (nn (by rfl))]
 by_cases h0 : (c.length : Int) < 1
 ·rw [if_pos (decide_eq_true h0)]
  have : c.length = 0 := by omega
  rw [this]
  rfl
 rw [if_neg (by rw [decide_eq_true_eq]; exact h0), if_neg (by rw [decide_eq_true_eq]; omega)]
 unfold D4 Cr D7 Fa F9
 rw [Dl (by omega) (by omega), show (0 : Int) + 0 = 0 from rfl, Qh (by omega) (by omega) (by omega), show List.take ((c.length : Int).toNat - (0 : Int).toNat) (List.drop (0 : Int).toNat c) = c by simp]
 simp only [Option.bind_some]
 rw [if_neg (by rw [decide_eq_true_eq]; omega), if_pos (decide_eq_true (by omega)), Dl (by omega) (by omega), Qh (by omega) (by omega) (by omega), Option.bind_some]
 unfold Dj
 dsimp only
 rw [Qh (by omega) (by omega) (by omega), Option.bind_some, show List.take ((c.length : Int).toNat - (0 : Int).toNat) (List.drop (0 : Int).toNat c) = c by simp, Option.bind_some]
 obtain ⟨v, hv, rfl⟩ := Ft (f := Ex (c, 0, 0 + (c.length : Int))) (P := fun s => ∃ i : Nat, i ≤ c.length ∧ s = (leV c i, (i : Int))) (μ := fun s => c.length - s.2.toNat) (R := fun v => v = leV c c.length) (by
  rintro _ ⟨i, hi, rfl⟩
  unfold Ex
  dsimp only
  rcases Nat.lt_or_ge i c.length with hlt | hge
  ·left
   rw [if_pos (decide_eq_true (by omega)), Ed, List.getElem?_eq_getElem hlt, Option.bind_some, Dl (by omega) (by omega), Dl (by omega) (by omega), if_pos (by omega)]
   refine ⟨_, rfl, ⟨i + 1, hlt, ?_⟩, by dsimp only; omega⟩
   rw [show (8 * (i : Int)).toNat = 8 * i by omega]
   rw [Ant, List.getElem?_eq_getElem hlt]
   rfl
  ·right
   have e : i = c.length := by omega
   subst e
   rw [if_neg (by rw [decide_eq_true_eq]; omega)]
   exact ⟨_, rfl, rfl⟩) fuel (0#64, 0) ⟨0, Nat.zero_le _, rfl⟩ (Gz (by show c.length - 0 ≤ _; omega))
 simp only [Option.bind_some]
 rw [hv]
 rfl
def Ayi (b : List UInt8) : Int := wI ((leV (b.take 4) (b.take 4).length).toNat : Int)
theorem Auq (b : List UInt8) : Ml b = some (Ayi b) := by
 unfold Ml
 have hc : cut b 0 (if 4 < (b.length : Int) then 4 else (b.length : Int)) = some (b.take 4) := by
  by_cases h : 4 < (b.length : Int)
  ·rw [if_pos h, Qh (by omega) (by omega) (by omega)]; rfl
  ·rw [if_neg h, Qh (by omega) (by omega) (by omega)]
   congr 1
   simp
   rw [List.take_of_length_le (by omega)]
 rw [hc, Option.bind_some]
 unfold Ki
 rw [Option.bind_some]
 exact Azy (by rw [List.length_take]; omega)
def Ac4 (o : B9) : Prop := (0 ≤ o.A ∧ o.A ≤ 7) ∧ (0 ≤ o.B ∧ o.B ≤ 7) ∧ 0 ≤ o.N ∧ o.N ≤ 4294967295
theorem Mf (a b : Int) : Fh a b = some (decide (0 ≤ a) && decide (a ≤ b)) := by
 unfold Fh
 cases decide (0 ≤ a) <;> rfl
theorem Aei (k : List UInt8) : ∃ v, La k = some v := by
 unfold La
 repeat (first | exact ⟨_, rfl⟩ | split)
theorem Ajr (w : Int) : G7 w = some (if w = 1 then ⟨true, false, false⟩ else if w = 2 ∨ w = 3 then ⟨true, false, true⟩ else if w = 4 then ⟨false, true, false⟩ else ⟨false, false, false⟩) := by
 unfold G7 Ht
 by_cases h1 : w = 1
 ·simp [h1]
 by_cases h2 : w = 2
 ·simp [h2]
 by_cases h3 : w = 3
 ·simp [h3]
 by_cases h4 : w = 4
 ·simp [h4]
 simp [h1, h2, h3, h4]
theorem Ajd (o : B9) : K7 o = some (decide (1 ≤ o.What) && decide (o.What ≤ 4)) := by
 unfold K7
 rw [Ajr, Option.bind_some]
 generalize o.What = w
 by_cases h1 : w = 1
 ·simp [h1]
 by_cases h2 : w = 2
 ·simp [h2]
 by_cases h3 : w = 3
 ·simp [h3]
 by_cases h4 : w = 4
 ·simp [h4]
 simp [h1, h2, h3, h4]
 omega
theorem Acj (r : B2) : ∃ v, Jd r = some v := by
 unfold Jd
 repeat (first | exact ⟨_, rfl⟩ | split)
theorem Ajp (r : B2) : ∃ v, L2 r = some v := by
 have hk : ∀ c, ∃ v, Ga r c = some v := fun c => by
  unfold Ga
  cases c with
  | true => exact ⟨_, rfl⟩
  | false => exact ⟨_, rfl⟩
 unfold L2
 split
 ·exact ⟨_, rfl⟩
 split
 ·split
  ·rename_i h1 h2
   have h2 := of_decide_eq_true h2
   obtain ⟨x, hx, -⟩ := Y3 (xs := r.Hi) (j := 0) (by decide) (by omega)
   rw [hx, Option.bind_some]
   exact hk _
  ·exact hk _
 ·exact hk _
theorem Aj7 (r : B2) : ∃ v, Eh r = some v := by
 have h1 : ∃ v, G2 r = some v := by
  unfold G2
  repeat (first | exact ⟨_, rfl⟩ | split)
 obtain ⟨v, hv⟩ := h1
 obtain ⟨u, hu⟩ := Ajp r
 unfold Eh
 rw [hv, hu, Option.bind_some, Option.bind_some]
 repeat (first | exact ⟨_, rfl⟩ | split)
theorem X6 (o : B9) (ro : Bool) : ∃ v, Cn o ro = some v ∧ (v = true → Ac4 o ∧ (ro = true → o.What ≠ 2 ∧ o.What ≠ 3)) := by
 unfold Cn
 rw [Mf, Option.bind_some]
 cases hw : (decide (0 ≤ wI (o.What - 1)) && decide (wI (o.What - 1) ≤ 7)) with
 | false => exact ⟨false, rfl, fun h => by cases h⟩
 | true =>
 rw [if_neg (nn (by rfl)), Mf, Option.bind_some]
 cases hA : (decide (0 ≤ o.A) && decide (o.A ≤ 7)) with
 | false => exact ⟨false, rfl, fun h => by cases h⟩
 | true =>
 rw [if_neg (nn (by rfl)), Mf, Option.bind_some]
 cases hB : (decide (0 ≤ o.B) && decide (o.B ≤ 7)) with
 | false => exact ⟨false, rfl, fun h => by cases h⟩
 | true =>
 rw [if_neg (nn (by rfl)), Mf, Option.bind_some]
 cases hN : (decide (0 ≤ o.N) && decide (o.N ≤ 4294967295)) with
 | false => exact ⟨false, rfl, fun h => by cases h⟩
 | true =>
 rw [if_neg (nn (by rfl))]
 simp only [Bool.and_eq_true, decide_eq_true_eq] at hA hB hN
 have hg : Ac4 o := ⟨hA, hB, hN⟩
 suffices h : ∃ v, Fl o ro () = some v ∧ (v = true → ro = true → o.What ≠ 2 ∧ o.What ≠ 3) by
  obtain ⟨v, hv, hw⟩ := h
  exact ⟨v, hv, fun h => ⟨hg, hw h⟩⟩
 have hk4 : ∀ c, ∃ v, C8 o c = some v := fun c => by
  unfold C8
  obtain ⟨a, ha⟩ := Aei o.Key
  obtain ⟨b, hb⟩ := Aj7 o.Rng
  rw [ha, hb, Option.bind_some, Option.bind_some]
  repeat (first | exact ⟨_, rfl⟩ | split)
 have hk3 : ∃ v, C6 o () = some v := by
  unfold C6
  split
  ·exact hk4 _
  split
  ·exact hk4 _
  ·exact hk4 _
 unfold Fl
 obtain ⟨b, hb⟩ := Acj o.Rng
 obtain ⟨f, hf, hf2⟩ : ∃ f, G7 o.What = some f ∧ (f.R2 = false → o.What ≠ 2 ∧ o.What ≠ 3) := ⟨_, Ajr _, fun h => ⟨fun e => (by rw [e] at h; cases h), fun e => (by rw [e] at h; cases h)⟩⟩
 obtain ⟨k3, hk3⟩ := hk3
 rw [hk3, hf, Option.bind_some, hb, Option.bind_some]
 split
 ·exact ⟨_, rfl, fun h => by cases h⟩
 split
 ·split
  ·exact ⟨_, rfl, fun h => by cases h⟩
  ·rename_i h; exact ⟨_, rfl, fun _ _ => hf2 (by simpa using h)⟩
 ·rename_i h; exact ⟨_, rfl, fun _ h' => absurd h' h⟩
theorem psane_m (p : Cv) (h : p.Ops.length ≤ 1000000) : ∃ v, D9 p = some v ∧ (v = true → (∀ o ∈ p.Ops, Ac4 o) ∧ (p.RO = true → ∀ o ∈ p.Ops, o.What ≠ 2 ∧ o.What ≠ 3)) := by
 unfold D9
 rw [Anz p.Ops (fun o => (Cn o p.RO).getD false) false (Fi p) (by omega) (fun i o ho => by
  have hlt := (List.getElem?_eq_some_iff.1 ho).1
  obtain ⟨v, hv, -⟩ := X6 o p.RO
  unfold Fi
  rw [if_pos (decide_eq_true (by omega)), Ed, ho, Option.bind_some, hv, Option.bind_some, Dl (by omega) (by omega)]
  cases v <;> rfl) (by
  unfold Fi
  rw [if_neg (by rw [decide_eq_true_eq]; omega)])]
 cases ha : p.Ops.all (fun o => (Cn o p.RO).getD false) with
 | false => exact ⟨false, rfl, fun h => by cases h⟩
 | true =>
  have hall : ∀ o ∈ p.Ops, Ac4 o ∧ (p.RO = true → o.What ≠ 2 ∧ o.What ≠ 3) := fun o ho => by
   have := List.all_eq_true.1 ha o ho
   obtain ⟨v, hv, hg⟩ := X6 o p.RO
   rw [hv] at this
   exact hg this
  exact ⟨decide ((p.Ops.length : Int) ≤ 24), rfl, fun _ => ⟨fun o ho => (hall o ho).1, fun hr o ho => (hall o ho).2 hr⟩⟩
theorem S4 (a : Ee) {j : Int} (v : Int) (h : 0 ≤ j ∧ j ≤ 7) : ∃ b, I1 a j v = some b := by
 unfold I1
 repeat (first | exact ⟨_, rfl⟩ | split)
 omega
theorem Aea (a b c d e f g k : Int) {j : Int} (h : 0 ≤ j ∧ j ≤ 7) : ∃ u, idx [a, b, c, d, e, f, g, k] j = some u := by
 obtain ⟨x, hx, -⟩ := Y3 (xs := [a, b, c, d, e, f, g, k]) (j := j) h.1 (by show j < 8; omega)
 exact ⟨x, hx⟩
theorem Aq4 (o : B9) (s : A1) (hg : Ac4 o) (h0 : 0 ≤ s.PC) (h1 : s.PC ≤ 1000000) : ∃ t, Lz o s = some t ∧ s.PC < t.PC := by
 obtain ⟨hA, hB, hN⟩ := hg
 obtain ⟨ua, hua⟩ := Aea s.Regs.R0 s.Regs.R1 s.Regs.R2 s.Regs.R3 s.Regs.R4 s.Regs.R5 s.Regs.R6 s.Regs.R7 hA
 obtain ⟨ub, hub⟩ := Aea s.Regs.R0 s.Regs.R1 s.Regs.R2 s.Regs.R3 s.Regs.R4 s.Regs.R5 s.Regs.R6 s.Regs.R7 hB
 have ha : 0 ≤ o.A ∧ o.A < ((8 : Nat) : Int) := by omega
 have hb : 0 ≤ o.B ∧ o.B < ((8 : Nat) : Int) := by omega
 unfold Lz
 rw [Dl (n := s.PC + 1) (by omega) (by omega), Dl (n := s.PC + 1 + o.N) (by omega) (by omega), if_pos ha, if_pos ha, if_pos ha, hua, Option.bind_some, Option.bind_some, if_pos hb, hub, Option.bind_some]
 unfold I0
 rw [Option.bind_some, if_pos ha]
 obtain ⟨q, hq⟩ := S4 ⟨s.Regs.R0, s.Regs.R1, s.Regs.R2, s.Regs.R3, s.Regs.R4, s.Regs.R5, s.Regs.R6, s.Regs.R7⟩ o.N hA
 obtain ⟨q', hq'⟩ := S4 ⟨s.Regs.R0, s.Regs.R1, s.Regs.R2, s.Regs.R3, s.Regs.R4, s.Regs.R5, s.Regs.R6, s.Regs.R7⟩ (wI ((BitVec.ofInt 32 (wI (wI (ua + ub) + o.N))).toNat : Int)) hA
 rw [hq, hq', Option.bind_some, Option.bind_some]
 split
 ·exact ⟨_, rfl, by show s.PC < s.PC + 1; omega⟩
 split
 ·exact ⟨_, rfl, by show s.PC < s.PC + 1; omega⟩
 split
 ·split
  ·exact ⟨_, rfl, by show s.PC < s.PC + 1 + o.N; omega⟩
  ·exact ⟨_, rfl, by show s.PC < s.PC + 1; omega⟩
 split
 ·exact ⟨_, rfl, by show s.PC < s.PC + 1; omega⟩
 ·exact ⟨_, rfl, by show s.PC < s.PC + 1; omega⟩
theorem Ajh (o : B9) (s : A1) (hg : Ac4 o) (h1 : 1 ≤ o.What) (h4 : o.What ≤ 4) : ∃ q, Er o s = some q ∧ q.Kind = o.What + 2 ∧ (o.What ≤ 3 → q.Key = o.Key) := by
 obtain ⟨hA, hB, hN⟩ := hg
 obtain ⟨ub, hub⟩ := Aea s.Regs.R0 s.Regs.R1 s.Regs.R2 s.Regs.R3 s.Regs.R4 s.Regs.R5 s.Regs.R6 s.Regs.R7 hB
 have hb : 0 ≤ o.B ∧ o.B < ((8 : Nat) : Int) := by omega
 unfold Er
 rw [if_pos hb, hub, Option.bind_some, val_m, Option.bind_some]
 split
 ·rename_i h; exact ⟨_, rfl, by have := of_decide_eq_true h; show (3 : Int) = _; omega, fun _ => rfl⟩
 split
 ·rename_i h; exact ⟨_, rfl, by have := of_decide_eq_true h; show (4 : Int) = _; omega, fun _ => rfl⟩
 split
 ·rename_i h; exact ⟨_, rfl, by have := of_decide_eq_true h; show (5 : Int) = _; omega, fun _ => rfl⟩
 ·rename_i g1 g2 g3
  rw [decide_eq_true_eq] at g1 g2 g3
  exact ⟨_, rfl, by show (6 : Int) = _; omega, fun h => by omega⟩
def zq : B7 := ⟨0, 0, 0, 0, false, [], [], ⟨[], [], false⟩⟩
theorem next_m (p : Cv) (a : A1) (hl : p.Ops.length ≤ 1000) (hs : D9 p = some true) (hg : ∀ o ∈ p.Ops, Ac4 o) (h0 : 0 ≤ a.PC) :
  (∃ q t u, F3 p a = some (q, t, true) ∧ 0 ≤ t.PC ∧ t.PC < p.Ops.length ∧ a.PC ≤ t.PC ∧ a.Stopped = false ∧ idx p.Ops t.PC = some u ∧ (1 ≤ u.What ∧ u.What ≤ 4) ∧ q.Kind = u.What + 2 ∧ (u.What ≤ 3 → q.Key = u.Key) ∧ t.Stopped = false ∧ Er u t = some q) ∨
  (∃ t, F3 p a = some (zq, t, false) ∧ 0 ≤ t.PC ∧ t.PC ≤ p.Ops.length ∧ (t.PC = p.Ops.length ∨ t.Stopped = true) ∧ (((p.Ops.length : Int) ≤ a.PC ∨ a.Stopped = true) → a.PC ≤ p.Ops.length → t = a)) := by
 unfold F3
 rw [hs, Option.bind_some, if_neg (nn (by rfl)), if_neg (by rw [decide_eq_true_eq]; omega)]
 unfold Mk
 show (∃ q t u, Option.bind (Qx (G0 p) fuel (a)) _ = _ ∧ _) ∨ ∃ t, Option.bind (Qx (G0 p) fuel (a)) _ = _ ∧ _
 obtain ⟨v, hv, hr⟩ := Rx (f := G0 p) (P := fun s => 0 ≤ s.PC ∧ a.PC ≤ s.PC ∧ (a.Stopped = true → s.Stopped = true) ∧ (((p.Ops.length : Int) ≤ a.PC ∨ a.Stopped = true) → s = a)) (μ := fun s => (p.Ops.length - s.PC).toNat)
  (R := fun r => match r with
   | .inl (q, t, ok) => ok = true ∧ 0 ≤ t.PC ∧ t.PC < p.Ops.length ∧ a.PC ≤ t.PC ∧ a.Stopped = false ∧ ∃ u, idx p.Ops t.PC = some u ∧ (1 ≤ u.What ∧ u.What ≤ 4) ∧ q.Kind = u.What + 2 ∧ (u.What ≤ 3 → q.Key = u.Key) ∧ t.Stopped = false ∧ Er u t = some q
   | .inr b => 0 ≤ b.PC ∧ ((p.Ops.length : Int) ≤ b.PC ∨ b.Stopped = true) ∧ (((p.Ops.length : Int) ≤ a.PC ∨ a.Stopped = true) → b = a)) (by
  intro s hP
  obtain ⟨p1, p2, p3, p4⟩ := hP
  unfold G0
  by_cases hlt : s.PC < p.Ops.length
  ·rw [if_pos (decide_eq_true hlt)]
   cases hst : s.Stopped with
   | true =>
    right; left
    rw [if_neg (by decide)]
    exact ⟨_, rfl, p1, .inr hst, p4⟩
   | false =>
    have hnot : a.Stopped = false := by
     cases hq : a.Stopped with
     | false => rfl
     | true => rw [hst] at p3; exact absurd (p3 hq) (by decide)
    rw [if_pos (show (!false) = true from rfl)]
    unfold Mm
    obtain ⟨u, hu, hu2⟩ := Y3 p1 hlt
    have hgu := hg u (List.mem_of_getElem? hu2)
    rw [hu, Option.bind_some, Ajd, Option.bind_some]
    cases hask : (decide (1 ≤ u.What) && decide (u.What ≤ 4)) with
    | true =>
     simp only [Bool.and_eq_true, decide_eq_true_eq] at hask
     right; right
     rw [if_pos rfl]
     obtain ⟨q, hq, hqk, hqy⟩ := Ajh u (s) hgu hask.1 hask.2
     have hq' := hq
     skip
     rw [hq', Option.bind_some]
     exact ⟨_, rfl, rfl, p1, hlt, p2, hnot, u, hu, hask, hqk, hqy, hst, hq⟩
    | false =>
     left
     rw [if_neg (nn (by rfl))]
     obtain ⟨t, ht, hpc⟩ := Aq4 u (s) hgu p1 (by show s.PC ≤ 1000000; omega)
     have hpc : s.PC < t.PC := hpc
     skip
     rw [ht, Option.bind_some]
     refine ⟨_, rfl, ⟨by omega, by omega, fun h => (by rw [hnot] at h; cases h), fun h => ?_⟩, by omega⟩
     rcases h with h | h
     ·omega
     ·rw [hnot] at h; cases h
  ·right; left
   rw [if_neg (by rw [decide_eq_true_eq]; exact hlt)]
   exact ⟨_, rfl, p1, .inl (by omega), p4⟩) fuel (a) ⟨h0, Int.le_refl _, fun h => h, fun _ => rfl⟩ (Gz (by show ((p.Ops.length : Int) - a.PC).toNat ≤ _; omega))
 rw [hv, Option.bind_some]
 rcases v with ⟨q, t, ok⟩ | b
 ·obtain ⟨rfl, r1, r2, r3, r4, u, r5, r6, r7, r8, r9⟩ := hr
  exact .inl ⟨q, t, u, rfl, r1, r2, r3, r4, r5, r6, r7, r8, r9⟩
 ·obtain ⟨r1, r2, r3⟩ := hr
  right
  refine ⟨_, rfl, ?_, ?_, ?_, ?_⟩
  ·dsimp only
   split <;> omega
  ·dsimp only
   split
   ·omega
   ·rename_i h; omega
  ·dsimp only
   rcases r2 with r2 | r2
   ·left
    split <;> omega
   ·exact .inr r2
  ·intro h1 h2
   have hb := r3 h1
   rw [hb, if_neg (by omega)]
theorem few_m (p : Cp) : ∃ v, M9 p = some v ∧ (v = true → p.Ops.length ≤ 40 ∧ ∀ o ∈ p.Ops, o.Key.length ≤ 50) := by
 unfold M9
 by_cases h1 : (40 : Int) < p.Ops.length
 ·rw [if_pos (decide_eq_true h1)]; exact ⟨_, rfl, fun h => by cases h⟩
 rw [if_neg (by rw [decide_eq_true_eq]; exact h1)]
 have hsh : ∀ r : B2, ∃ v, Ks r = some v := fun r => by
  unfold Ks
  split <;> exact ⟨_, rfl⟩
 rw [Anz p.Ops (fun x => !decide (50 < (x.Key.length : Int)) && (Ks x.Rng).getD false) false (K6 p) (by omega) (fun i x hx => by
  have hlt := (List.getElem?_eq_some_iff.1 hx).1
  unfold K6
  obtain ⟨v, hv⟩ := hsh x.Rng
  rw [if_pos (decide_eq_true (by omega)), Ed, hx, Option.bind_some, Option.bind_some, hv, Option.bind_some, Dl (by omega) (by omega)]
  cases decide (50 < (x.Key.length : Int)) <;> cases v <;> rfl) (by
  unfold K6
  rw [if_neg (by rw [decide_eq_true_eq]; omega)])]
 cases ha : p.Ops.all (fun x => !decide (50 < (x.Key.length : Int)) && (Ks x.Rng).getD false) with
 | true => exact ⟨true, rfl, fun _ => ⟨by omega, fun o ho => by
   have := List.all_eq_true.1 ha o ho
   simp only [Bool.and_eq_true, Bool.not_eq_true', decide_eq_false_iff_not] at this
   omega⟩⟩
 | false => exact ⟨false, rfl, fun h => by cases h⟩
theorem next_no (p : Cv) (a : A1) (h : D9 p = some false ∨ (D9 p = some true ∧ a.PC < 0)) : F3 p a = some (zq, a, false) := by
 unfold F3
 rcases h with h | ⟨h, h0⟩
 ·rw [h]; rfl
 ·rw [h, Option.bind_some, if_neg (nn (by rfl)), if_pos (decide_eq_true h0)]
  rfl
theorem Avo (l : List Dk) (h : l.length ≤ 1000000000) : ∃ v, N1 l = some v := by
 unfold N1
 obtain ⟨v, hv, -⟩ := Ft (f := Kw l) (P := fun s => ∃ i : Nat, i ≤ l.length ∧ s.2 = (i : Int)) (μ := fun s => l.length - s.2.toNat) (R := fun _ => True) (by
  rintro ⟨a, _⟩ ⟨i, hi, rfl⟩
  unfold Kw
  dsimp only
  rcases Nat.lt_or_ge i l.length with hlt | hge
  ·left
   rw [if_pos (decide_eq_true (by omega)), Ed, List.getElem?_eq_getElem hlt, Option.bind_some, Auq, Option.bind_some]
   unfold I0
   rw [Option.bind_some, Dl (n := (i : Int) + 1) (by omega) (by omega)]
   exact ⟨_, rfl, ⟨i + 1, hlt, rfl⟩, by dsimp only; omega⟩
  ·right
   rw [if_neg (by rw [decide_eq_true_eq]; omega)]
   exact ⟨_, rfl, trivial⟩) fuel (0, 0) ⟨0, Nat.zero_le _, rfl⟩ (Gz (by show l.length - 0 ≤ _; omega))
 rw [hv]
 exact ⟨_, rfl⟩
theorem Ags (p : Cv) (t : A1) (rep : Ba) (u : B9) (hl : p.Ops.length ≤ 1000) (hs : D9 p = some true) (hg : ∀ o ∈ p.Ops, Ac4 o) (h0 : 0 ≤ t.PC) (h1 : t.PC < p.Ops.length) (hst : t.Stopped = false) (hu : idx p.Ops t.PC = some u) (hw : 1 ≤ u.What ∧ u.What ≤ 4) (hr : rep.List.length ≤ 1000000000) :
  ∃ t', D2 p t rep = some (t', 0) ∧ t'.PC = t.PC + 1 := by
 have hgu := hg u (List.mem_of_getElem? (Vy hu).2)
 obtain ⟨hA, hB, hN⟩ := hgu
 have ha : 0 ≤ u.A ∧ u.A < ((8 : Nat) : Int) := by omega
 have hb : 0 ≤ u.B ∧ u.B < ((8 : Nat) : Int) := by omega
 have hk4 : ∀ x, ∃ t', G1 ⟨wI (t.PC + 1), x, t.Stopped⟩ = some (t', 0) ∧ t'.PC = t.PC + 1 := fun x => ⟨_, rfl, by show wI (t.PC + 1) = _; exact Dl (by omega) (by omega)⟩
 unfold D2
 rw [hs, Option.bind_some, if_neg (nn (by rfl)), Dl (by omega) (by omega), Mf, Option.bind_some, decide_eq_true h0, decide_eq_true (p := t.PC ≤ (p.Ops.length : Int) - 1) (by omega), if_neg (nn (by rfl)), hst, if_neg (nn (by rfl)), hu, Option.bind_some, Ajd, Option.bind_some, decide_eq_true hw.1, decide_eq_true hw.2, if_neg (nn (by rfl))]
 unfold Mn
 rw [hu, Option.bind_some, if_pos hb]
 split
 ·obtain ⟨q1, e1⟩ := S4 ⟨t.Regs.R0, t.Regs.R1, t.Regs.R2, t.Regs.R3, t.Regs.R4, t.Regs.R5, t.Regs.R6, t.Regs.R7⟩ 0 hB
  rw [e1, Option.bind_some]; try rw [if_pos ha]
  obtain ⟨q2, e2⟩ := S4 ⟨q1.R0, q1.R1, q1.R2, q1.R3, q1.R4, q1.R5, q1.R6, q1.R7⟩ 0 hA
  rw [e2, Option.bind_some]
  split
  ·obtain ⟨q3, e3⟩ := S4 ⟨q2.R0, q2.R1, q2.R2, q2.R3, q2.R4, q2.R5, q2.R6, q2.R7⟩ 1 hB
   try rw [if_pos hb]
   rw [e3, Option.bind_some, Auq, Option.bind_some]; try rw [if_pos ha]
   obtain ⟨q4, e4⟩ := S4 ⟨q3.R0, q3.R1, q3.R2, q3.R3, q3.R4, q3.R5, q3.R6, q3.R7⟩ (Ayi rep.Val) hA
   rw [e4, Option.bind_some]
   exact hk4 _
  ·exact hk4 _
 split
 ·obtain ⟨v, hv⟩ := Avo rep.List hr
  rw [hv, Option.bind_some]; try rw [if_pos hb]
  obtain ⟨q1, e1⟩ := S4 ⟨t.Regs.R0, t.Regs.R1, t.Regs.R2, t.Regs.R3, t.Regs.R4, t.Regs.R5, t.Regs.R6, t.Regs.R7⟩ v hB
  rw [e1, Option.bind_some]; try rw [if_pos ha]
  obtain ⟨q2, e2⟩ := S4 ⟨q1.R0, q1.R1, q1.R2, q1.R3, q1.R4, q1.R5, q1.R6, q1.R7⟩ (rep.List.length : Int) hA
  rw [e2, Option.bind_some]
  exact hk4 _
 ·exact hk4 _
theorem saneOp_key (o : B9) (ro : Bool) (h : Cn o ro = some true) (h1 : 1 ≤ o.What) (h3 : o.What ≤ 3) : 1 ≤ o.Key.length ∧ o.Key.length ≤ 16 := by
 have k4 : C8 o true = some true → 1 ≤ o.Key.length ∧ o.Key.length ≤ 16 := fun h => by
  unfold C8 La at h
  rw [if_pos rfl] at h
  split at h
  ·rename_i h1
   have h1 := of_decide_eq_true h1
   have h := of_decide_eq_true (Option.some.inj h)
   omega
  ·cases h
 have k3 : C6 o () = some true → 1 ≤ o.Key.length ∧ o.Key.length ≤ 16 := fun h => by
  unfold C6 at h
  split at h
  ·rename_i hw; rw [hw] at h; exact k4 h
  split at h
  ·rename_i hw; rw [hw] at h; exact k4 h
  ·rename_i hw1 hw2
   rw [decide_eq_true_eq] at hw1 hw2
   rw [decide_eq_true (by omega)] at h; exact k4 h
 unfold Cn at h
 obtain ⟨v, -, h⟩ := Ag h
 split at h
 ·cases h
 obtain ⟨v, -, h⟩ := Ag h
 split at h
 ·cases h
 obtain ⟨v, -, h⟩ := Ag h
 split at h
 ·cases h
 obtain ⟨v, -, h⟩ := Ag h
 split at h
 ·cases h
 unfold Fl at h
 obtain ⟨v, -, h⟩ := Ag h
 obtain ⟨w, -, h⟩ := Ag h
 split at h
 ·cases h
 split at h
 ·split at h
  ·cases h
  ·exact k3 h
 ·exact k3 h
theorem psane_ops {p : Cv} (hl : p.Ops.length ≤ 1000000) (h : D9 p = some true) : ∀ o ∈ p.Ops, Cn o p.RO = some true := by
 unfold D9 at h
 rw [Anz p.Ops (fun o => (Cn o p.RO).getD false) false (Fi p) (by omega) (fun i o ho => by
  have hlt := (List.getElem?_eq_some_iff.1 ho).1
  obtain ⟨v, hv, -⟩ := X6 o p.RO
  unfold Fi
  rw [if_pos (decide_eq_true (by omega)), Ed, ho, Option.bind_some, hv, Option.bind_some, Dl (by omega) (by omega)]
  cases v <;> rfl) (by
  unfold Fi
  rw [if_neg (by rw [decide_eq_true_eq]; omega)])] at h
 intro o ho
 cases ha : p.Ops.all (fun o => (Cn o p.RO).getD false) with
 | false => rw [ha] at h; cases h
 | true =>
  have := List.all_eq_true.1 ha o ho
  obtain ⟨v, hv, -⟩ := X6 o p.RO
  rw [hv] at this ⊢
  rw [show v = true from this]
theorem take_tot (p : Cv) (t : A1) (rep : Ba) (hl : p.Ops.length ≤ 1000) (hr : rep.List.length ≤ 1000000000) : ∃ t' e, D2 p t rep = some (t', e) := by
 obtain ⟨v, hs, hv⟩ := psane_m p (by omega)
 cases v with
 | false =>
  unfold D2
  rw [hs, Option.bind_some, if_pos (show (!false) = true from rfl)]
  exact ⟨_, _, rfl⟩
 | true =>
  obtain ⟨hg, -⟩ := hv rfl
  by_cases h0 : 0 ≤ t.PC
  ·by_cases h1 : t.PC < p.Ops.length
   ·cases hst : t.Stopped with
    | true =>
     unfold D2
     rw [hs, Option.bind_some, if_neg (nn (by rfl)), Dl (by omega) (by omega), Mf, Option.bind_some, decide_eq_true h0, decide_eq_true (p := t.PC ≤ (p.Ops.length : Int) - 1) (by omega), if_neg (nn (by rfl)), if_pos hst]
     exact ⟨_, _, rfl⟩
    | false =>
     obtain ⟨u, hu, hu2⟩ := Y3 h0 h1
     by_cases hw : 1 ≤ u.What ∧ u.What ≤ 4
     ·obtain ⟨t', ht, -⟩ := Ags p t rep u hl hs hg h0 h1 hst hu hw hr
      exact ⟨_, _, ht⟩
     ·unfold D2
      rw [hs, Option.bind_some, if_neg (nn (by rfl)), Dl (by omega) (by omega), Mf, Option.bind_some, decide_eq_true h0, decide_eq_true (p := t.PC ≤ (p.Ops.length : Int) - 1) (by omega), if_neg (nn (by rfl)), hst, if_neg (nn (by rfl)), hu, Option.bind_some, Ajd, Option.bind_some, if_pos (by rw [show (decide (1 ≤ u.What) && decide (u.What ≤ 4)) = false from by simp; omega]; rfl)]
      exact ⟨_, _, rfl⟩
   ·unfold D2
    rw [hs, Option.bind_some, if_neg (nn (by rfl)), Dl (by omega) (by omega), Mf, Option.bind_some, decide_eq_false (p := t.PC ≤ (p.Ops.length : Int) - 1) (by omega), Bool.and_false, if_pos (show (!false) = true from rfl)]
    exact ⟨_, _, rfl⟩
  ·unfold D2
   rw [hs, Option.bind_some, if_neg (nn (by rfl)), Dl (by omega) (by omega), Mf, Option.bind_some, decide_eq_false (p := 0 ≤ t.PC) h0, Bool.false_and, if_pos (show (!false) = true from rfl)]
   exact ⟨_, _, rfl⟩
end Go.Proofs.YtbjckaahoacbfaaGreatDoor.Abs.pg
