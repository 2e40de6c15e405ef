/-
 Which operations may be, on both sides.
-/
import Derived.Test.YtphgpfgibpgfiaaGreatSH24r
set_option linter.unusedVariables false
set_option linter.unusedSimpArgs false
namespace Go.Proofs.YtphgpfgibpgfiaaGreat.Abs
def oO (o : Na) : Cz := ⟨o.What, o.A, o.B, o.N, o.Key, o.Rng⟩
def oG (p : Cb) : Cn := ⟨p.RO, p.Ops.map oO⟩
def oS (s : A7) : Bb := ⟨s.PC, s.Regs, s.Stopped⟩
def oQ (q : Ej) : Hs := ⟨q.Kind, q.Seq, q.Token, q.Attempt, q.RO, q.Key, q.Val, q.Rng⟩
theorem Ah5 (r : Ar) (h : r.Hi.length ≤ 1000) : K7 r = some (Sg r) := by
 unfold K7 Sg
 cases r.Open with
 | true => rfl
 | false =>
  rw [if_pos (by rfl), X1 _ _ (by omega), Option.bind_some]
  by_cases hc : Dq r.Hi r.Lo ≤ 0
  ·rw [if_pos (decide_eq_true hc), decide_eq_true hc]; simp
  ·rw [if_neg (by rw [decide_eq_true_eq]; exact hc), decide_eq_false hc]
   cases hL : r.Lo with
   | cons a t =>
    rw [if_neg (by rw [decide_eq_true_eq]; simp; omega)]
    simp
   | nil =>
    rw [if_pos (by rfl)]
    rcases hH : r.Hi with _ | ⟨a, _ | ⟨b, t⟩⟩
    ·rfl
    ·rw [if_pos (by rfl)]
     show (some a).bind _ = _
     rw [Option.bind_some]
     simp only [Bool.not_false, Bool.true_and, decide_true, Bool.or_false]
     congr 1
     rw [Bool.eq_iff_iff, decide_eq_true_eq, decide_eq_true_eq]
     constructor
     ·intro h
      have : a = 0 := by
       apply UInt8.toNat_inj.1
       show a.toBitVec.toNat = 0
       omega
      rw [this]
     ·intro h
      cases h
      rfl
    ·rw [if_neg (by rw [decide_eq_true_eq]; simp; omega)]
     simp
theorem Agu (k : List UInt8) : ∃ s : Bool, Dm k = some s ∧ I1 k = some s ∧ (s = true → decide (0 < (k.length : Int)) = true) := by
 unfold Dm I1
 by_cases h : (1 : Int) ≤ k.length
 ·exact ⟨decide ((k.length : Int) ≤ 16), by rw [if_pos (decide_eq_true h)], by rw [if_pos (decide_eq_true h)], fun _ => decide_eq_true (by omega)⟩
 ·exact ⟨false, by rw [if_neg (by rw [decide_eq_true_eq]; exact h)], by rw [if_neg (by rw [decide_eq_true_eq]; exact h)], fun h => by cases h⟩
theorem Ad0 (r : Ar) : E7 r = some (decide (0 < (r.Lo.length : Int)) || (decide (0 < (r.Hi.length : Int)) || r.Open)) := by
 unfold E7
 cases decide (0 < (r.Lo.length : Int)) <;> cases decide (0 < (r.Hi.length : Int)) <;> rfl
theorem Ah8 (r : Ar) (h : (decide (0 < (r.Lo.length : Int)) || (decide (0 < (r.Hi.length : Int)) || r.Open)) = false) : Sg r = true := by
 simp only [Bool.or_eq_false_iff, decide_eq_false_iff_not] at h
 have h1 : r.Lo = [] := List.eq_nil_of_length_eq_zero (by omega)
 have h2 : r.Hi = [] := List.eq_nil_of_length_eq_zero (by omega)
 unfold Sg
 rw [h1, h2, h.2.2]
 rfl
theorem Ai1 (r : Ar) : Et r = some (rsV r && (decide ((r.Lo.length : Int) ≤ 16) && (decide ((r.Hi.length : Int) ≤ 16) && !Sg r))) := by
 unfold Et
 rw [Apw, Option.bind_some, Ak6]
 cases rsV r <;> cases decide ((r.Lo.length : Int) ≤ 16) <;> cases decide ((r.Hi.length : Int) ≤ 16) <;> rfl
theorem Aoy (o : Na) : B5 o () = some (if o.What = 4 then (rsV o.Rng && (decide ((o.Rng.Lo.length : Int) ≤ 16) && (decide ((o.Rng.Hi.length : Int) ≤ 16) && !Sg o.Rng))) else !(decide (0 < (o.Rng.Lo.length : Int)) || (decide (0 < (o.Rng.Hi.length : Int)) || o.Rng.Open))) := by
 unfold B5
 by_cases h4 : o.What = 4
 ·rw [if_pos (decide_eq_true h4), if_pos h4]
  by_cases h1 : (o.Rng.Lo.length : Int) ≤ 16
  ·rw [if_pos (decide_eq_true h1), decide_eq_true h1]
   by_cases h2 : (o.Rng.Hi.length : Int) ≤ 16
   ·rw [if_pos (decide_eq_true h2), decide_eq_true h2, Amv, Option.bind_some, Ah5 _ (by omega)]
    cases rsV o.Rng <;> rfl
   ·rw [if_neg (by rw [decide_eq_true_eq]; exact h2), decide_eq_false h2]; simp
  ·rw [if_neg (by rw [decide_eq_true_eq]; exact h1), decide_eq_false h1]; simp
 ·rw [if_neg (by rw [decide_eq_true_eq]; exact h4), if_neg h4]
  have e1 : decide ((o.Rng.Lo.length : Int) = 0) = !decide (0 < (o.Rng.Lo.length : Int)) := by rw [Bool.eq_iff_iff]; simp
  have e2 : decide ((o.Rng.Hi.length : Int) = 0) = !decide (0 < (o.Rng.Hi.length : Int)) := by rw [Bool.eq_iff_iff]; simp
  rw [e1, e2]
  cases decide (0 < (o.Rng.Lo.length : Int)) <;> cases decide (0 < (o.Rng.Hi.length : Int)) <;> rfl
theorem An7 (o : Na) (ro : Bool) (h1 : -9223372036854775808 ≤ o.What) (h2 : o.What ≤ 9223372036854775807) : Dk (oO o) ro = N7 o ro := by
 have hw : (decide (0 ≤ wI (o.What - 1)) && decide (wI (o.What - 1) ≤ 7)) = (!decide (o.What < 1) && !decide (8 < o.What)) := by
  rw [Bool.eq_iff_iff]
  simp only [Bool.and_eq_true, Bool.not_eq_true', decide_eq_false_iff_not, decide_eq_true_eq]
  by_cases h : o.What = -9223372036854775808
  ·rw [h]; decide
  ·rw [Ch (by omega) (by omega)]; omega
 have hb : ∀ a m : Int, (decide (0 ≤ a) && decide (a ≤ m)) = (!decide (a < 0) && !decide (m < a)) := fun a m => by
  rw [Bool.eq_iff_iff]
  simp only [Bool.and_eq_true, Bool.not_eq_true', decide_eq_false_iff_not, decide_eq_true_eq]
  omega
 have hN : (decide (0 ≤ o.N) && decide (o.N ≤ 4294967295)) = (!decide (o.N < 0) && !decide (4294967296 ≤ o.N)) := by
  rw [Bool.eq_iff_iff]
  simp only [Bool.and_eq_true, Bool.not_eq_true', decide_eq_false_iff_not, decide_eq_true_eq]
  omega
 have hk1 : 1 ≤ o.What → o.What ≤ 8 → Ew (oO o) ro () = K5 o ro () := fun w1 w8 => by
  obtain ⟨ks, k1, k2, k3⟩ := Agu o.Key
  unfold Ew K5
  rw [Aoy, k2, Ach, Option.bind_some, Ad0, Option.bind_some]
  have hsr : (rsV o.Rng && (decide ((o.Rng.Lo.length : Int) ≤ 16) && (decide ((o.Rng.Hi.length : Int) ≤ 16) && !Sg o.Rng))) = true → (decide (0 < (o.Rng.Lo.length : Int)) || (decide (0 < (o.Rng.Hi.length : Int)) || o.Rng.Open)) = true := fun h => by
   cases hr : (decide (0 < (o.Rng.Lo.length : Int)) || (decide (0 < (o.Rng.Hi.length : Int)) || o.Rng.Open)) with
   | true => rfl
   | false => rw [Ah8 o.Rng hr] at h; simp at h
  have h24 : decide (o.N ≤ 24) = !decide (24 < o.N) := by
   rw [Bool.eq_iff_iff]; simp
  unfold En Dy
  rw [show (oO o).Rng = o.Rng from rfl, show (oO o).Key = o.Key from rfl, show (oO o).What = o.What from rfl, show (oO o).N = o.N from rfl, Ai1, k1, h24]
  generalize (decide (0 < (o.Rng.Lo.length : Int)) || (decide (0 < (o.Rng.Hi.length : Int)) || o.Rng.Open)) = hr at *
  generalize decide (0 < (o.Key.length : Int)) = kp at *
  generalize (rsV o.Rng && (decide ((o.Rng.Lo.length : Int) ≤ 16) && (decide ((o.Rng.Hi.length : Int) ≤ 16) && !Sg o.Rng))) = sr at *
  generalize decide (24 < o.N) = n24 at *
  generalize o.What = W at *
  clear hw hb hN h24 k1 k2
  rcases (by omega : W = 1 ∨ W = 2 ∨ W = 3 ∨ W = 4 ∨ W = 5 ∨ W = 6 ∨ W = 7 ∨ W = 8) with rfl | rfl | rfl | rfl | rfl | rfl | rfl | rfl
  all_goals cases ro <;> cases kp <;> cases hr <;> cases ks <;> cases sr <;> cases n24
  all_goals first | rfl | exact absurd (k3 rfl) (by decide) | exact absurd (hsr rfl) (by decide)
 have hw0 : o.What < 1 ∨ 8 < o.What → Dk (oO o) ro = some false := fun h => by
  unfold Dk
  have : (decide (0 ≤ wI (o.What - 1)) && decide (wI (o.What - 1) ≤ 7)) = false := by
   rw [hw]
   rcases h with h | h <;> simp [h]
  rw [Mk, show (oO o).What = o.What from rfl, this]; rfl
 unfold N7
 by_cases c1 : o.What < 1
 ·rw [if_pos (decide_eq_true c1), hw0 (.inl c1)]
 rw [if_neg (by rw [decide_eq_true_eq]; exact c1)]
 by_cases c2 : 8 < o.What
 ·rw [if_pos (decide_eq_true c2), hw0 (.inr c2)]
 rw [if_neg (by rw [decide_eq_true_eq]; exact c2)]
 unfold Dk
 rw [Mk, show (oO o).What = o.What from rfl, hw, decide_eq_false c1, decide_eq_false c2, Mk, show (oO o).A = o.A from rfl, hb, Mk, show (oO o).B = o.B from rfl, hb, Mk, show (oO o).N = o.N from rfl, hN, hk1 (by omega) (by omega)]
 cases decide (o.A < 0) <;> cases decide (7 < o.A) <;> cases decide (o.B < 0) <;> cases decide (7 < o.B) <;> cases decide (o.N < 0) <;> cases decide (4294967296 ≤ o.N) <;> rfl
end Go.Proofs.YtphgpfgibpgfiaaGreat.Abs
