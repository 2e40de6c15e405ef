/-
 Programs, on both sides: numbers, which may be, what is next.
-/
import Derived.Test.YtphgpfgibpgfiaaGreatSG24r
import Derived.Test.YtphgpfgibpgfiaaGreatSQ24r
set_option linter.unusedVariables false
set_option linter.unusedSimpArgs false
namespace Go.Proofs.YtphgpfgibpgfiaaGreat.Abs
theorem Aes (n : Int) : ∃ k : Int, wI n = n + 18446744073709551616 * k := by
 unfold wI IntKind.wrap
 simp [IntKind.bits, IntKind.signed]
 refine ⟨-((n + 9223372036854775808) / 18446744073709551616), ?_⟩
 omega
theorem Ajj (n : Int) : -9223372036854775808 ≤ wI n ∧ wI n ≤ 9223372036854775807 := by
 unfold wI IntKind.wrap
 simp [IntKind.bits, IntKind.signed]
 omega
theorem Aly {a b : Int} (h : ∃ k : Int, a = b + 18446744073709551616 * k) : wI a = wI b := by
 obtain ⟨k, h⟩ := h
 obtain ⟨x, hx⟩ := Aes a
 obtain ⟨y, hy⟩ := Aes b
 have := Ajj a
 have := Ajj b
 omega
theorem Ajg (a b : Int) : wI (wI a + b) = wI (a + b) := by
 obtain ⟨x, hx⟩ := Aes a
 exact Aly ⟨x, by omega⟩
theorem Ang (n : Int) : Oe n = some (Aqi n) := by
 unfold Oe Aqi byt
 have h : ∀ (x : BitVec 64) (i : Nat), i < 4 → ((x % 4294967296#64) / (BitVec.ofNat 64 (2 ^ (8 * i)))).setWidth 8 = (x >>> (8 * i)).setWidth 8 := fun x i hi => by
  apply BitVec.eq_of_toNat_eq
  rcases (by omega : i = 0 ∨ i = 1 ∨ i = 2 ∨ i = 3) with rfl | rfl | rfl | rfl <;> simp [BitVec.toNat_setWidth, Nat.shiftRight_eq_div_pow] <;> omega
 have h0 := h (BitVec.ofInt 64 n) 0 (by decide)
 have h1 := h (BitVec.ofInt 64 n) 1 (by decide)
 have h2 := h (BitVec.ofInt 64 n) 2 (by decide)
 have h3 := h (BitVec.ofInt 64 n) 3 (by decide)
 rw [← h0, ← h1, ← h2, ← h3]
 have e0 : ((BitVec.ofInt 64 n) % 4294967296#64) / (BitVec.ofNat 64 (2 ^ (8 * 0))) = (BitVec.ofInt 64 n) % 4294967296#64 := by
  apply BitVec.eq_of_toNat_eq; simp
 rw [e0]
theorem Zv (n : Int) : I9 n = Ff n := by
 unfold I9 Ff
 congr 2
 simp [BitVec.toNat_ofInt]
 omega
theorem Aka (b : List UInt8) : M3 b = some (Amd b) := by
 have h4 : (b.take 4).length ≤ 4 := by rw [List.length_take]; omega
 have hstep : ∀ i (hi : i < (b.take 4).length), (leV (b.take 4) (i + 1)).toNat = (leV (b.take 4) i).toNat + (b.take 4)[i].toNat * 256 ^ i := fun i hi => by
  rw [Yk, List.getElem?_eq_getElem hi, Option.getD_some, BitVec.toNat_or, BitVec.toNat_shiftLeft, BitVec.toNat_setWidth]
  have h1 := Ac0 (b.take 4) i (by omega)
  have hb : (b.take 4)[i].toBitVec.toNat < 256 := (b.take 4)[i].toBitVec.isLt
  have hp : 2 ^ (8 * i) ≤ 2 ^ 24 := Nat.pow_le_pow_right (by decide) (by omega)
  have hlt : (b.take 4)[i].toBitVec.toNat * 2 ^ (8 * i) < 2 ^ 64 := Nat.lt_of_le_of_lt (Nat.mul_le_mul (Nat.le_of_lt hb) hp) (by decide)
  rw [Nat.mod_eq_of_lt (a := (b.take 4)[i].toBitVec.toNat) (by omega), Nat.shiftLeft_eq, Nat.mod_eq_of_lt hlt, Nat.or_comm, ← Nat.shiftLeft_eq, ← Nat.shiftLeft_add_eq_or_of_lt h1, Nat.shiftLeft_eq, Nat.add_comm, Nat.pow_mul]
  rfl
 unfold M3
 obtain ⟨v, hv, hr⟩ := Eg (f := K9 b) (P := fun s => ∃ i : Nat, i ≤ (b.take 4).length ∧ s = (((leV (b.take 4) i).toNat : Int), (256 : Int) ^ i, (i : Int))) (μ := fun s => 4 - s.2.2.toNat)
  (R := fun v => v = Amd b) (by
   rintro _ ⟨i, hi, rfl⟩
   unfold K9
   dsimp only
   have hl : (b.take 4).length = min 4 b.length := List.length_take
   by_cases hlt : i < (b.take 4).length
   ·left
    have hib : i < b.length := by omega
    have hg : (b.take 4)[i] = b[i] := List.getElem_take
    have hst := hstep i hlt
    rw [hg] at hst
    have hp : (256 : Int) ^ i = ((256 ^ i : Nat) : Int) := (Int.natCast_pow 256 i).symm
    have hpl : 256 ^ i ≤ 256 ^ 3 := Nat.pow_le_pow_right (by decide) (by omega)
    have hpl' : 256 ^ 3 = 16777216 := by decide
    have hbl : b[i].toNat < 256 := b[i].toBitVec.isLt
    have hml : b[i].toNat * 256 ^ i ≤ 255 * 16777216 := Nat.mul_le_mul (by omega) (by omega)
    have h1 := Ac0 (b.take 4) i (by omega)
    have h1' : 2 ^ (8 * i) ≤ 2 ^ 24 := Nat.pow_le_pow_right (by decide) (by omega)
    have h24 : (2 : Nat) ^ 24 = 16777216 := by decide
    rw [if_pos (decide_eq_true (by omega)), if_pos (decide_eq_true (by omega))]
    unfold M5
    dsimp only
    rw [Bv, List.getElem?_eq_getElem hib, Option.bind_some]
    have e0 : (b[i].toBitVec.toNat : Int) = (b[i].toNat : Int) := rfl
    rw [e0, Ch (n := (b[i].toNat : Int)) (by omega) (by omega), hp]
    have e1 : (b[i].toNat : Int) * ((256 ^ i : Nat) : Int) = ((b[i].toNat * 256 ^ i : Nat) : Int) := (Int.natCast_mul _ _).symm
    rw [e1, Ch (n := ((b[i].toNat * 256 ^ i : Nat) : Int)) (by omega) (by omega), Ch (n := ((leV (b.take 4) i).toNat : Int) + ((b[i].toNat * 256 ^ i : Nat) : Int)) (by omega) (by omega)]
    have e2 : ((256 ^ i : Nat) : Int) * 256 = ((256 ^ (i + 1) : Nat) : Int) := by rw [Nat.pow_succ, Int.natCast_mul]; rfl
    have hpl2 : 256 ^ (i + 1) ≤ 256 ^ 4 := Nat.pow_le_pow_right (by decide) (by omega)
    have hpl4 : 256 ^ 4 = 4294967296 := by decide
    have e3 : wI ((256 ^ (i + 1) : Nat) : Int) = ((256 ^ (i + 1) : Nat) : Int) := by
     generalize 256 ^ (i + 1) = q at hpl2
     exact Ch (by omega) (by omega)
    rw [e2, e3, Ch (by omega) (by omega)]
    refine ⟨_, rfl, ⟨i + 1, hlt, ?_⟩, by dsimp only; omega⟩
    rw [hst, Int.natCast_add, show (256 : Int) ^ (i + 1) = ((256 ^ (i + 1) : Nat) : Int) from (Int.natCast_pow 256 (i + 1)).symm]
    rfl
   ·right
    have e : i = (b.take 4).length := by omega
    have hlv : (leV (b.take 4) i).toNat < 2 ^ 32 := Nat.lt_of_lt_of_le (Ac0 (b.take 4) i (by omega)) (Nat.pow_le_pow_right (by decide) (by omega))
    have hfin : ((leV (b.take 4) i).toNat : Int) = Amd b := by
     unfold Amd
     rw [← e, Ch (by omega) (by have h32 : (2 : Nat) ^ 32 = 4294967296 := rfl; omega)]
    by_cases h2 : (i : Int) < (b.length : Int)
    ·rw [if_pos (decide_eq_true h2), if_neg (by rw [decide_eq_true_eq]; omega)]
     exact ⟨_, rfl, hfin⟩
    ·rw [if_neg (by rw [decide_eq_true_eq]; exact h2)]
     exact ⟨_, rfl, hfin⟩) fuel (0, 1, 0) ⟨0, Nat.zero_le _, rfl⟩ (Dh (by show 4 - 0 ≤ _; omega))
 rw [hv, hr]
 rfl
end Go.Proofs.YtphgpfgibpgfiaaGreat.Abs
