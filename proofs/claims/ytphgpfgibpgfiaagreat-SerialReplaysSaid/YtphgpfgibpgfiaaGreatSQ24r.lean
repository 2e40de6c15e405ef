/-
 What the library's functions compute.
-/
import Derived.Test.YtphgpfgibpgfiaaGreatSP24r
set_option linter.unusedVariables false
set_option linter.unusedSimpArgs false
namespace Go.Proofs.YtphgpfgibpgfiaaGreat.Abs
def byt (x : BitVec 64) (i : Nat) : UInt8 := UInt8.ofBitVec ((x >>> (8 * i)).setWidth 8)
def Aqi (n : Int) : List UInt8 := [byt (BitVec.ofInt 64 n) 0, byt (BitVec.ofInt 64 n) 1, byt (BitVec.ofInt 64 n) 2, byt (BitVec.ofInt 64 n) 3]
theorem Am9 (n : Int) : Ow n = some (Aqi n) := by kernel_rfl
def leV (c : List UInt8) : Nat → BitVec 64
 | 0 => 0#64
 | i + 1 => leV c i ||| ((c[i]?.getD 0).toBitVec.setWidth 64 <<< (8 * i))
theorem Yk (c : List UInt8) (i : Nat) : leV c (i + 1) = leV c i ||| ((c[i]?.getD 0).toBitVec.setWidth 64 <<< (8 * i)) := rfl
theorem Asj {c : List UInt8} (h : c.length ≤ 4) : (Hb (c.length : Int) 0 0 c).bind (fun v3 => some (wI (v3.1.toNat : Int))) = some (wI ((leV c c.length).toNat : Int)) := by
 unfold Hb H5
 rw [Option.bind_some, decide_eq_true rfl, if_neg (nn (by rfl))]
 by_cases h0 : (c.length : Int) < 1
 ·rw [if_pos (decide_eq_true h0)]
  have : c.length = 0 := by omega
  rw [this]
  rfl
 rw [if_neg (by rw [decide_eq_true_eq]; exact h0), if_neg (by rw [decide_eq_true_eq]; omega)]
 unfold Hj Hl Gz Fa Ki
 rw [Ch (by omega) (by omega), show (0 : Int) + 0 = 0 from rfl, Se (by omega) (by omega) (by omega), show List.take ((c.length : Int).toNat - (0 : Int).toNat) (List.drop (0 : Int).toNat c) = c by simp]
 simp only [Option.bind_some]
 rw [if_neg (by rw [decide_eq_true_eq]; omega), if_pos (decide_eq_true (by omega)), Ch (by omega) (by omega), Se (by omega) (by omega) (by omega), Option.bind_some]
 unfold Ec
 dsimp only
 rw [Se (by omega) (by omega) (by omega), Option.bind_some, show List.take ((c.length : Int).toNat - (0 : Int).toNat) (List.drop (0 : Int).toNat c) = c by simp, Option.bind_some]
 obtain ⟨v, hv, rfl⟩ := Eg (f := Fl (c, 0, 0 + (c.length : Int))) (P := fun s => ∃ i : Nat, i ≤ c.length ∧ s = (leV c i, (i : Int))) (μ := fun s => c.length - s.2.toNat) (R := fun v => v = leV c c.length) (by
  rintro _ ⟨i, hi, rfl⟩
  unfold Fl
  dsimp only
  rcases Nat.lt_or_ge i c.length with hlt | hge
  ·left
   rw [if_pos (decide_eq_true (by omega)), Bv, List.getElem?_eq_getElem hlt, Option.bind_some, Ch (by omega) (by omega), Ch (by omega) (by omega), if_pos (by omega)]
   refine ⟨_, rfl, ⟨i + 1, hlt, ?_⟩, by dsimp only; omega⟩
   rw [show (8 * (i : Int)).toNat = 8 * i by omega]
   rw [Yk, List.getElem?_eq_getElem hlt]
   rfl
  ·right
   have e : i = c.length := by omega
   subst e
   rw [if_neg (by rw [decide_eq_true_eq]; omega)]
   exact ⟨_, rfl, rfl⟩) fuel (0#64, 0) ⟨0, Nat.zero_le _, rfl⟩ (Dh (by show c.length - 0 ≤ _; omega))
 simp only [Option.bind_some]
 rw [hv]
 rfl
def Amd (b : List UInt8) : Int := wI ((leV (b.take 4) (b.take 4).length).toNat : Int)
theorem Aic (b : List UInt8) : Lu b = some (Amd b) := by
 unfold Lu
 have hc : cut b 0 (if 4 < (b.length : Int) then 4 else (b.length : Int)) = some (b.take 4) := by
  by_cases h : 4 < (b.length : Int)
  ·rw [if_pos h, Se (by omega) (by omega) (by omega)]; rfl
  ·rw [if_neg h, Se (by omega) (by omega) (by omega)]
   congr 1
   simp
   rw [List.take_of_length_le (by omega)]
 rw [hc, Option.bind_some]
 unfold Ns
 rw [Option.bind_some]
 exact Asj (by rw [List.length_take]; omega)
theorem Ac0 (c : List UInt8) : ∀ i, i ≤ 4 → (leV c i).toNat < 2 ^ (8 * i)
 | 0, _ => by show (0#64).toNat < 2 ^ 0; decide
 | i + 1, h => by
  have ih := Ac0 c i (by omega)
  rw [Yk, BitVec.toNat_or]
  refine Nat.or_lt_two_pow (Nat.lt_of_lt_of_le ih (Nat.pow_le_pow_right (by decide) (by omega))) ?_
  rw [BitVec.toNat_shiftLeft, BitVec.toNat_setWidth]
  have hb : (c[i]?.getD 0).toBitVec.toNat < 256 := (c[i]?.getD 0).toBitVec.isLt
  generalize (c[i]?.getD 0).toBitVec.toNat = b at hb
  rw [Nat.mod_eq_of_lt (a := b) (by omega), Nat.shiftLeft_eq, Nat.mod_eq_of_lt]
  ·calc b * 2 ^ (8 * i) < 256 * 2 ^ (8 * i) := Nat.mul_lt_mul_of_pos_right hb (Nat.two_pow_pos _)
    _ = 2 ^ (8 * (i + 1)) := by rw [Nat.mul_succ, Nat.pow_add, Nat.mul_comm]
  ·have : b * 2 ^ (8 * i) < 256 * 2 ^ (8 * i) := Nat.mul_lt_mul_of_pos_right hb (Nat.two_pow_pos _)
   have h2 : (256 : Nat) * 2 ^ (8 * i) ≤ 256 * 2 ^ 24 := Nat.mul_le_mul_left _ (Nat.pow_le_pow_right (by decide) (by omega))
   omega
def Aaz (o : Cz) : Prop := (0 ≤ o.A ∧ o.A ≤ 7) ∧ (0 ≤ o.B ∧ o.B ≤ 7) ∧ 0 ≤ o.N ∧ o.N ≤ 4294967295
theorem Mk (a b : Int) : D4 a b = some (decide (0 ≤ a) && decide (a ≤ b)) := by
 unfold D4
 cases decide (0 ≤ a) <;> rfl
theorem Acb (k : List UInt8) : ∃ v, Dm k = some v := by
 unfold Dm
 repeat (first | exact ⟨_, rfl⟩ | split)
theorem Ach (w : Int) : Fv w = some (if w = 1 then ⟨true, false, false⟩ else if w = 2 ∨ w = 3 then ⟨true, false, true⟩ else if w = 4 then ⟨false, true, false⟩ else ⟨false, false, false⟩) := by
 unfold Fv Gn
 by_cases h1 : w = 1
 ·simp [h1]
 by_cases h2 : w = 2
 ·simp [h2]
 by_cases h3 : w = 3
 ·simp [h3]
 by_cases h4 : w = 4
 ·simp [h4]
 simp [h1, h2, h3, h4]
theorem Adf (o : Cz) : Ky o = some (decide (1 ≤ o.What) && decide (o.What ≤ 4)) := by
 unfold Ky
 rw [Ach, Option.bind_some]
 generalize o.What = w
 by_cases h1 : w = 1
 ·simp [h1]
 by_cases h2 : w = 2
 ·simp [h2]
 by_cases h3 : w = 3
 ·simp [h3]
 by_cases h4 : w = 4
 ·simp [h4]
 simp [h1, h2, h3, h4]
 omega
theorem Aae (r : Ar) : ∃ v, E7 r = some v := by
 unfold E7
 repeat (first | exact ⟨_, rfl⟩ | split)
theorem Aeu (r : Ar) : ∃ v, Gu r = some v := by
 have hk : ∀ c, ∃ v, Dv r c = some v := fun c => by
  unfold Dv
  cases c with
  | true => exact ⟨_, rfl⟩
  | false => exact ⟨_, rfl⟩
 unfold Gu
 split
 ·exact ⟨_, rfl⟩
 split
 ·split
  ·rename_i h1 h2
   have h2 := of_decide_eq_true h2
   obtain ⟨x, hx, -⟩ := Abh (xs := r.Hi) (j := 0) (by decide) (by omega)
   rw [hx, Option.bind_some]
   exact hk _
  ·exact hk _
 ·exact hk _
theorem Afj (r : Ar) : ∃ v, Et r = some v := by
 have h1 : ∃ v, Cd r = some v := by
  unfold Cd
  repeat (first | exact ⟨_, rfl⟩ | split)
 obtain ⟨v, hv⟩ := h1
 obtain ⟨u, hu⟩ := Aeu r
 unfold Et
 rw [hv, hu, Option.bind_some, Option.bind_some]
 repeat (first | exact ⟨_, rfl⟩ | split)
theorem Ado (o : Cz) (ro : Bool) : ∃ v, Dk o ro = some v ∧ (v = true → Aaz o ∧ (ro = true → o.What ≠ 2 ∧ o.What ≠ 3)) := by
 unfold Dk
 rw [Mk, Option.bind_some]
 cases hw : (decide (0 ≤ wI (o.What - 1)) && decide (wI (o.What - 1) ≤ 7)) with
 | false => exact ⟨false, rfl, fun h => by cases h⟩
 | true =>
 rw [if_neg (nn (by rfl)), Mk, Option.bind_some]
 cases hA : (decide (0 ≤ o.A) && decide (o.A ≤ 7)) with
 | false => exact ⟨false, rfl, fun h => by cases h⟩
 | true =>
 rw [if_neg (nn (by rfl)), Mk, Option.bind_some]
 cases hB : (decide (0 ≤ o.B) && decide (o.B ≤ 7)) with
 | false => exact ⟨false, rfl, fun h => by cases h⟩
 | true =>
 rw [if_neg (nn (by rfl)), Mk, Option.bind_some]
 cases hN : (decide (0 ≤ o.N) && decide (o.N ≤ 4294967295)) with
 | false => exact ⟨false, rfl, fun h => by cases h⟩
 | true =>
 rw [if_neg (nn (by rfl))]
 simp only [Bool.and_eq_true, decide_eq_true_eq] at hA hB hN
 have hg : Aaz o := ⟨hA, hB, hN⟩
 suffices h : ∃ v, Ew o ro () = some v ∧ (v = true → ro = true → o.What ≠ 2 ∧ o.What ≠ 3) by
  obtain ⟨v, hv, hw⟩ := h
  exact ⟨v, hv, fun h => ⟨hg, hw h⟩⟩
 have hk4 : ∀ c, ∃ v, Dy o c = some v := fun c => by
  unfold Dy
  obtain ⟨a, ha⟩ := Acb o.Key
  obtain ⟨b, hb⟩ := Afj o.Rng
  rw [ha, hb, Option.bind_some, Option.bind_some]
  repeat (first | exact ⟨_, rfl⟩ | split)
 have hk3 : ∃ v, En o () = some v := by
  unfold En
  split
  ·exact hk4 _
  split
  ·exact hk4 _
  ·exact hk4 _
 unfold Ew
 obtain ⟨b, hb⟩ := Aae o.Rng
 obtain ⟨f, hf, hf2⟩ : ∃ f, Fv o.What = some f ∧ (f.R2 = false → o.What ≠ 2 ∧ o.What ≠ 3) := ⟨_, Ach _, fun h => ⟨fun e => (by rw [e] at h; cases h), fun e => (by rw [e] at h; cases h)⟩⟩
 obtain ⟨k3, hk3⟩ := hk3
 rw [hk3, hf, Option.bind_some, hb, Option.bind_some]
 split
 ·exact ⟨_, rfl, fun h => by cases h⟩
 split
 ·split
  ·exact ⟨_, rfl, fun h => by cases h⟩
  ·rename_i h; exact ⟨_, rfl, fun _ _ => hf2 (by simpa using h)⟩
 ·rename_i h; exact ⟨_, rfl, fun _ h' => absurd h' h⟩
theorem Ak4 (p : Cn) (h : p.Ops.length ≤ 1000000) : ∃ v, Ev p = some v ∧ (v = true → (∀ o ∈ p.Ops, Aaz o) ∧ (p.RO = true → ∀ o ∈ p.Ops, o.What ≠ 2 ∧ o.What ≠ 3)) := by
 unfold Ev
 rw [Arj p.Ops (fun o => (Dk o p.RO).getD false) false (E5 p) (by omega) (fun i o ho => by
  have hlt := (List.getElem?_eq_some_iff.1 ho).1
  obtain ⟨v, hv, -⟩ := Ado o p.RO
  unfold E5
  rw [if_pos (decide_eq_true (by omega)), Bv, ho, Option.bind_some, hv, Option.bind_some, Ch (by omega) (by omega)]
  cases v <;> rfl) (by
  unfold E5
  rw [if_neg (by rw [decide_eq_true_eq]; omega)])]
 cases ha : p.Ops.all (fun o => (Dk o p.RO).getD false) with
 | false => exact ⟨false, rfl, fun h => by cases h⟩
 | true =>
  have hall : ∀ o ∈ p.Ops, Aaz o ∧ (p.RO = true → o.What ≠ 2 ∧ o.What ≠ 3) := fun o ho => by
   have := List.all_eq_true.1 ha o ho
   obtain ⟨v, hv, hg⟩ := Ado o p.RO
   rw [hv] at this
   exact hg this
  exact ⟨decide ((p.Ops.length : Int) ≤ 24), rfl, fun _ => ⟨fun o ho => (hall o ho).1, fun hr o ho => (hall o ho).2 hr⟩⟩
theorem Q4 (a : C2) {j : Int} (v : Int) (h : 0 ≤ j ∧ j ≤ 7) : ∃ b, Ck a j v = some b := by
 unfold Ck
 repeat (first | exact ⟨_, rfl⟩ | split)
 omega
theorem Acc (a b c d e f g k : Int) {j : Int} (h : 0 ≤ j ∧ j ≤ 7) : ∃ u, idx [a, b, c, d, e, f, g, k] j = some u := by
 obtain ⟨x, hx, -⟩ := Abh (xs := [a, b, c, d, e, f, g, k]) (j := j) h.1 (by show j < 8; omega)
 exact ⟨x, hx⟩
theorem Ako (o : Cz) (s : Bb) (hg : Aaz o) (h0 : 0 ≤ s.PC) (h1 : s.PC ≤ 1000000) : ∃ t, Ju o s = some t ∧ s.PC < t.PC := by
 obtain ⟨hA, hB, hN⟩ := hg
 obtain ⟨ua, hua⟩ := Acc s.Regs.R0 s.Regs.R1 s.Regs.R2 s.Regs.R3 s.Regs.R4 s.Regs.R5 s.Regs.R6 s.Regs.R7 hA
 obtain ⟨ub, hub⟩ := Acc s.Regs.R0 s.Regs.R1 s.Regs.R2 s.Regs.R3 s.Regs.R4 s.Regs.R5 s.Regs.R6 s.Regs.R7 hB
 have ha : 0 ≤ o.A ∧ o.A < ((8 : Nat) : Int) := by omega
 have hb : 0 ≤ o.B ∧ o.B < ((8 : Nat) : Int) := by omega
 unfold Ju
 rw [Ch (n := s.PC + 1) (by omega) (by omega), Ch (n := s.PC + 1 + o.N) (by omega) (by omega), if_pos ha, if_pos ha, if_pos ha, hua, Option.bind_some, Option.bind_some, if_pos hb, hub, Option.bind_some]
 unfold Ff
 rw [Option.bind_some, if_pos ha]
 obtain ⟨q, hq⟩ := Q4 ⟨s.Regs.R0, s.Regs.R1, s.Regs.R2, s.Regs.R3, s.Regs.R4, s.Regs.R5, s.Regs.R6, s.Regs.R7⟩ o.N hA
 obtain ⟨q', hq'⟩ := Q4 ⟨s.Regs.R0, s.Regs.R1, s.Regs.R2, s.Regs.R3, s.Regs.R4, s.Regs.R5, s.Regs.R6, s.Regs.R7⟩ (wI ((BitVec.ofInt 32 (wI (wI (ua + ub) + o.N))).toNat : Int)) hA
 rw [hq, hq', Option.bind_some, Option.bind_some]
 split
 ·exact ⟨_, rfl, by show s.PC < s.PC + 1; omega⟩
 split
 ·exact ⟨_, rfl, by show s.PC < s.PC + 1; omega⟩
 split
 ·split
  ·exact ⟨_, rfl, by show s.PC < s.PC + 1 + o.N; omega⟩
  ·exact ⟨_, rfl, by show s.PC < s.PC + 1; omega⟩
 split
 ·exact ⟨_, rfl, by show s.PC < s.PC + 1; omega⟩
 ·exact ⟨_, rfl, by show s.PC < s.PC + 1; omega⟩
theorem Afe (o : Cz) (s : Bb) (hg : Aaz o) (h1 : 1 ≤ o.What) (h4 : o.What ≤ 4) : ∃ q, C6 o s = some q ∧ q.Kind = o.What + 2 ∧ (o.What ≤ 3 → q.Key = o.Key) := by
 obtain ⟨hA, hB, hN⟩ := hg
 obtain ⟨ub, hub⟩ := Acc s.Regs.R0 s.Regs.R1 s.Regs.R2 s.Regs.R3 s.Regs.R4 s.Regs.R5 s.Regs.R6 s.Regs.R7 hB
 have hb : 0 ≤ o.B ∧ o.B < ((8 : Nat) : Int) := by omega
 unfold C6
 rw [if_pos hb, hub, Option.bind_some, Am9, Option.bind_some]
 split
 ·rename_i h; exact ⟨_, rfl, by have := of_decide_eq_true h; show (3 : Int) = _; omega, fun _ => rfl⟩
 split
 ·rename_i h; exact ⟨_, rfl, by have := of_decide_eq_true h; show (4 : Int) = _; omega, fun _ => rfl⟩
 split
 ·rename_i h; exact ⟨_, rfl, by have := of_decide_eq_true h; show (5 : Int) = _; omega, fun _ => rfl⟩
 ·rename_i g1 g2 g3
  rw [decide_eq_true_eq] at g1 g2 g3
  exact ⟨_, rfl, by show (6 : Int) = _; omega, fun h => by omega⟩
def zq : Hs := ⟨0, 0, 0, 0, false, [], [], ⟨[], [], false⟩⟩
theorem An9 (p : Cn) (a : Bb) (hl : p.Ops.length ≤ 1000) (hs : Ev p = some true) (hg : ∀ o ∈ p.Ops, Aaz o) (h0 : 0 ≤ a.PC) :
  (∃ q t u, Hk p a = some (q, t, true) ∧ 0 ≤ t.PC ∧ t.PC < p.Ops.length ∧ a.PC ≤ t.PC ∧ a.Stopped = false ∧ idx p.Ops t.PC = some u ∧ (1 ≤ u.What ∧ u.What ≤ 4) ∧ q.Kind = u.What + 2 ∧ (u.What ≤ 3 → q.Key = u.Key) ∧ t.Stopped = false ∧ C6 u t = some q) ∨
  (∃ t, Hk p a = some (zq, t, false) ∧ 0 ≤ t.PC ∧ t.PC ≤ p.Ops.length ∧ (t.PC = p.Ops.length ∨ t.Stopped = true) ∧ (((p.Ops.length : Int) ≤ a.PC ∨ a.Stopped = true) → a.PC ≤ p.Ops.length → t = a)) := by
 unfold Hk
 rw [hs, Option.bind_some, if_neg (nn (by rfl)), if_neg (by rw [decide_eq_true_eq]; omega)]
 unfold Ji
 show (∃ q t u, Option.bind (Fc (Ea p) fuel (a)) _ = _ ∧ _) ∨ ∃ t, Option.bind (Fc (Ea p) fuel (a)) _ = _ ∧ _
 obtain ⟨v, hv, hr⟩ := H4 (f := Ea p) (P := fun s => 0 ≤ s.PC ∧ a.PC ≤ s.PC ∧ (a.Stopped = true → s.Stopped = true) ∧ (((p.Ops.length : Int) ≤ a.PC ∨ a.Stopped = true) → s = a)) (μ := fun s => (p.Ops.length - s.PC).toNat)
  (R := fun r => match r with
   | .inl (q, t, ok) => ok = true ∧ 0 ≤ t.PC ∧ t.PC < p.Ops.length ∧ a.PC ≤ t.PC ∧ a.Stopped = false ∧ ∃ u, idx p.Ops t.PC = some u ∧ (1 ≤ u.What ∧ u.What ≤ 4) ∧ q.Kind = u.What + 2 ∧ (u.What ≤ 3 → q.Key = u.Key) ∧ t.Stopped = false ∧ C6 u t = some q
   | .inr b => 0 ≤ b.PC ∧ ((p.Ops.length : Int) ≤ b.PC ∨ b.Stopped = true) ∧ (((p.Ops.length : Int) ≤ a.PC ∨ a.Stopped = true) → b = a)) (by
  intro s hP
  obtain ⟨p1, p2, p3, p4⟩ := hP
  unfold Ea
  by_cases hlt : s.PC < p.Ops.length
  ·rw [if_pos (decide_eq_true hlt)]
   cases hst : s.Stopped with
   | true =>
    right; left
    rw [if_neg (by decide)]
    exact ⟨_, rfl, p1, .inr hst, p4⟩
   | false =>
    have hnot : a.Stopped = false := by
     cases hq : a.Stopped with
     | false => rfl
     | true => rw [hst] at p3; exact absurd (p3 hq) (by decide)
    rw [if_pos (show (!false) = true from rfl)]
    unfold Jf
    obtain ⟨u, hu, hu2⟩ := Abh p1 hlt
    have hgu := hg u (List.mem_of_getElem? hu2)
    rw [hu, Option.bind_some, Adf, Option.bind_some]
    cases hask : (decide (1 ≤ u.What) && decide (u.What ≤ 4)) with
    | true =>
     simp only [Bool.and_eq_true, decide_eq_true_eq] at hask
     right; right
     rw [if_pos rfl]
     obtain ⟨q, hq, hqk, hqy⟩ := Afe u (s) hgu hask.1 hask.2
     have hq' := hq
     skip
     rw [hq', Option.bind_some]
     exact ⟨_, rfl, rfl, p1, hlt, p2, hnot, u, hu, hask, hqk, hqy, hst, hq⟩
    | false =>
     left
     rw [if_neg (nn (by rfl))]
     obtain ⟨t, ht, hpc⟩ := Ako u (s) hgu p1 (by show s.PC ≤ 1000000; omega)
     have hpc : s.PC < t.PC := hpc
     skip
     rw [ht, Option.bind_some]
     refine ⟨_, rfl, ⟨by omega, by omega, fun h => (by rw [hnot] at h; cases h), fun h => ?_⟩, by omega⟩
     rcases h with h | h
     ·omega
     ·rw [hnot] at h; cases h
  ·right; left
   rw [if_neg (by rw [decide_eq_true_eq]; exact hlt)]
   exact ⟨_, rfl, p1, .inl (by omega), p4⟩) fuel (a) ⟨h0, Int.le_refl _, fun h => h, fun _ => rfl⟩ (Dh (by show ((p.Ops.length : Int) - a.PC).toNat ≤ _; omega))
 rw [hv, Option.bind_some]
 rcases v with ⟨q, t, ok⟩ | b
 ·obtain ⟨rfl, r1, r2, r3, r4, u, r5, r6, r7, r8, r9⟩ := hr
  exact .inl ⟨q, t, u, rfl, r1, r2, r3, r4, r5, r6, r7, r8, r9⟩
 ·obtain ⟨r1, r2, r3⟩ := hr
  right
  refine ⟨_, rfl, ?_, ?_, ?_, ?_⟩
  ·dsimp only
   split <;> omega
  ·dsimp only
   split
   ·omega
   ·rename_i h; omega
  ·dsimp only
   rcases r2 with r2 | r2
   ·left
    split <;> omega
   ·exact .inr r2
  ·intro h1 h2
   have hb := r3 h1
   rw [hb, if_neg (by omega)]
theorem Ap7 (p : Cb) : ∃ v, Pl p = some v ∧ (v = true → p.Ops.length ≤ 40 ∧ ∀ o ∈ p.Ops, o.Key.length ≤ 50) := by
 unfold Pl
 by_cases h1 : (40 : Int) < p.Ops.length
 ·rw [if_pos (decide_eq_true h1)]; exact ⟨_, rfl, fun h => by cases h⟩
 rw [if_neg (by rw [decide_eq_true_eq]; exact h1)]
 have hsh : ∀ r : Ar, ∃ v, De r = some v := fun r => by
  unfold De
  split <;> exact ⟨_, rfl⟩
 rw [Arj p.Ops (fun x => !decide (50 < (x.Key.length : Int)) && (De x.Rng).getD false) false (Kq p) (by omega) (fun i x hx => by
  have hlt := (List.getElem?_eq_some_iff.1 hx).1
  unfold Kq
  obtain ⟨v, hv⟩ := hsh x.Rng
  rw [if_pos (decide_eq_true (by omega)), Bv, hx, Option.bind_some, Option.bind_some, hv, Option.bind_some, Ch (by omega) (by omega)]
  cases decide (50 < (x.Key.length : Int)) <;> cases v <;> rfl) (by
  unfold Kq
  rw [if_neg (by rw [decide_eq_true_eq]; omega)])]
 cases ha : p.Ops.all (fun x => !decide (50 < (x.Key.length : Int)) && (De x.Rng).getD false) with
 | true => exact ⟨true, rfl, fun _ => ⟨by omega, fun o ho => by
   have := List.all_eq_true.1 ha o ho
   simp only [Bool.and_eq_true, Bool.not_eq_true', decide_eq_false_iff_not] at this
   omega⟩⟩
 | false => exact ⟨false, rfl, fun h => by cases h⟩
theorem Amj (l : List Aw) (h : l.length ≤ 1000000000) : ∃ v, Kd l = some v := by
 unfold Kd
 obtain ⟨v, hv, -⟩ := Eg (f := Fh l) (P := fun s => ∃ i : Nat, i ≤ l.length ∧ s.2 = (i : Int)) (μ := fun s => l.length - s.2.toNat) (R := fun _ => True) (by
  rintro ⟨a, _⟩ ⟨i, hi, rfl⟩
  unfold Fh
  dsimp only
  rcases Nat.lt_or_ge i l.length with hlt | hge
  ·left
   rw [if_pos (decide_eq_true (by omega)), Bv, List.getElem?_eq_getElem hlt, Option.bind_some, Aic, Option.bind_some]
   unfold Ff
   rw [Option.bind_some, Ch (n := (i : Int) + 1) (by omega) (by omega)]
   exact ⟨_, rfl, ⟨i + 1, hlt, rfl⟩, by dsimp only; omega⟩
  ·right
   rw [if_neg (by rw [decide_eq_true_eq]; omega)]
   exact ⟨_, rfl, trivial⟩) fuel (0, 0) ⟨0, Nat.zero_le _, rfl⟩ (Dh (by show l.length - 0 ≤ _; omega))
 rw [hv]
 exact ⟨_, rfl⟩
theorem Amr (p : Cn) (t : Bb) (rep : Jb) (u : Cz) (hl : p.Ops.length ≤ 1000) (hs : Ev p = some true) (hg : ∀ o ∈ p.Ops, Aaz o) (h0 : 0 ≤ t.PC) (h1 : t.PC < p.Ops.length) (hst : t.Stopped = false) (hu : idx p.Ops t.PC = some u) (hw : 1 ≤ u.What ∧ u.What ≤ 4) (hr : rep.List.length ≤ 1000000000) :
  ∃ t', I6 p t rep = some (t', 0) ∧ t'.PC = t.PC + 1 := by
 have hgu := hg u (List.mem_of_getElem? (Sf hu).2)
 obtain ⟨hA, hB, hN⟩ := hgu
 have ha : 0 ≤ u.A ∧ u.A < ((8 : Nat) : Int) := by omega
 have hb : 0 ≤ u.B ∧ u.B < ((8 : Nat) : Int) := by omega
 have hk4 : ∀ x, ∃ t', D8 ⟨wI (t.PC + 1), x, t.Stopped⟩ = some (t', 0) ∧ t'.PC = t.PC + 1 := fun x => ⟨_, rfl, by show wI (t.PC + 1) = _; exact Ch (by omega) (by omega)⟩
 unfold I6
 rw [hs, Option.bind_some, if_neg (nn (by rfl)), Ch (by omega) (by omega), Mk, Option.bind_some, decide_eq_true h0, decide_eq_true (p := t.PC ≤ (p.Ops.length : Int) - 1) (by omega), if_neg (nn (by rfl)), hst, if_neg (nn (by rfl)), hu, Option.bind_some, Adf, Option.bind_some, decide_eq_true hw.1, decide_eq_true hw.2, if_neg (nn (by rfl))]
 unfold Je
 rw [hu, Option.bind_some, if_pos hb]
 split
 ·obtain ⟨q1, e1⟩ := Q4 ⟨t.Regs.R0, t.Regs.R1, t.Regs.R2, t.Regs.R3, t.Regs.R4, t.Regs.R5, t.Regs.R6, t.Regs.R7⟩ 0 hB
  rw [e1, Option.bind_some]; try rw [if_pos ha]
  obtain ⟨q2, e2⟩ := Q4 ⟨q1.R0, q1.R1, q1.R2, q1.R3, q1.R4, q1.R5, q1.R6, q1.R7⟩ 0 hA
  rw [e2, Option.bind_some]
  split
  ·obtain ⟨q3, e3⟩ := Q4 ⟨q2.R0, q2.R1, q2.R2, q2.R3, q2.R4, q2.R5, q2.R6, q2.R7⟩ 1 hB
   try rw [if_pos hb]
   rw [e3, Option.bind_some, Aic, Option.bind_some]; try rw [if_pos ha]
   obtain ⟨q4, e4⟩ := Q4 ⟨q3.R0, q3.R1, q3.R2, q3.R3, q3.R4, q3.R5, q3.R6, q3.R7⟩ (Amd rep.Val) hA
   rw [e4, Option.bind_some]
   exact hk4 _
  ·exact hk4 _
 split
 ·obtain ⟨v, hv⟩ := Amj rep.List hr
  rw [hv, Option.bind_some]; try rw [if_pos hb]
  obtain ⟨q1, e1⟩ := Q4 ⟨t.Regs.R0, t.Regs.R1, t.Regs.R2, t.Regs.R3, t.Regs.R4, t.Regs.R5, t.Regs.R6, t.Regs.R7⟩ v hB
  rw [e1, Option.bind_some]; try rw [if_pos ha]
  obtain ⟨q2, e2⟩ := Q4 ⟨q1.R0, q1.R1, q1.R2, q1.R3, q1.R4, q1.R5, q1.R6, q1.R7⟩ (rep.List.length : Int) hA
  rw [e2, Option.bind_some]
  exact hk4 _
 ·exact hk4 _
end Go.Proofs.YtphgpfgibpgfiaaGreat.Abs
