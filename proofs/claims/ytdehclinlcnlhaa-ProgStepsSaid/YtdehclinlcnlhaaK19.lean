/-
  Numbers as values.
-/
import Derived.Test.YtdehclinlcnlhaaT19
import Derived.Test.YtdehclinlcnlhaaAbsC
namespace Go.Proofs.Ytdehclinlcnlhaa.Abs

theorem awake19 : m9_l19_awake = some true := by decide +kernel

def byt (x : BitVec 64) (i : Nat) : UInt8 := UInt8.ofBitVec ((x >>> (8 * i)).setWidth 8)
def valV (n : Int) : List UInt8 := [byt (BitVec.ofInt 64 n) 0, byt (BitVec.ofInt 64 n) 1, byt (BitVec.ofInt 64 n) 2, byt (BitVec.ofInt 64 n) 3]
theorem val_m (n : Int) : m22_prog_Val n = some (valV n) := by kernel_rfl

def leV (c : List UInt8) : Nat → BitVec 64
  | 0 => 0#64
  | i + 1 => leV c i ||| ((c[i]?.getD 0).toBitVec.setWidth 64 <<< (8 * i))
theorem leV_succ (c : List UInt8) (i : Nat) : leV c (i + 1) = leV c i ||| ((c[i]?.getD 0).toBitVec.setWidth 64 <<< (8 * i)) := rfl
theorem us_m {c : List UInt8} (h : c.length ≤ 4) : (m41_enc_Reader_Us (c.length : Int) 0 0 c).bind (fun v3 => some (wI (v3.1.toNat : Int))) = some (wI ((leV c c.length).toNat : Int)) := by
  unfold m41_enc_Reader_Us m54_enc_Reader_Errs
  rw [Option.bind_some, decide_eq_true rfl, if_neg (nn (by rfl))]
  by_cases h0 : (c.length : Int) < 1
  · rw [if_pos (decide_eq_true h0)]
    have : c.length = 0 := by omega
    rw [this]
    rfl
  rw [if_neg (by rw [decide_eq_true_eq]; exact h0), if_neg (by rw [decide_eq_true_eq]; omega)]
  unfold m41_enc_Reader_Us_k2 m56_enc_Reader_takes m69_enc_Reader_places m69_enc_Reader_places_k1 m53_enc_New_1s
  rw [wI_id (by omega) (by omega), show (0 : Int) + 0 = 0 from rfl, cut_of (by omega) (by omega) (by omega), show List.take ((c.length : Int).toNat - (0 : Int).toNat) (List.drop (0 : Int).toNat c) = c by simp]
  simp only [Option.bind_some]
  rw [if_neg (by rw [decide_eq_true_eq]; omega), if_pos (decide_eq_true (by omega)), wI_id (by omega) (by omega), cut_of (by omega) (by omega) (by omega), Option.bind_some]
  unfold m56_enc_Reader_takes_k3
  dsimp only
  rw [cut_of (by omega) (by omega) (by omega), Option.bind_some, show List.take ((c.length : Int).toNat - (0 : Int).toNat) (List.drop (0 : Int).toNat c) = c by simp, Option.bind_some]
  obtain ⟨v, hv, rfl⟩ := iterB_inv (f := m41_enc_Reader_Us_s5 (c, 0, 0 + (c.length : Int))) (P := fun s => ∃ i : Nat, i ≤ c.length ∧ s = (leV c i, (i : Int))) (μ := fun s => c.length - s.2.toNat) (R := fun v => v = leV c c.length) (by
    rintro _ ⟨i, hi, rfl⟩
    unfold m41_enc_Reader_Us_s5
    dsimp only
    rcases Nat.lt_or_ge i c.length with hlt | hge
    · left
      rw [if_pos (decide_eq_true (by omega)), idx_nat, List.getElem?_eq_getElem hlt, Option.bind_some, wI_id (by omega) (by omega), wI_id (by omega) (by omega), if_pos (by omega)]
      refine ⟨_, rfl, ⟨i + 1, hlt, ?_⟩, by dsimp only; omega⟩
      rw [show (8 * (i : Int)).toNat = 8 * i by omega]
      rw [leV_succ, List.getElem?_eq_getElem hlt]
      rfl
    · right
      have e : i = c.length := by omega
      subst e
      rw [if_neg (by rw [decide_eq_true_eq]; omega)]
      exact ⟨_, rfl, rfl⟩) fuel (0#64, 0) ⟨0, Nat.zero_le _, rfl⟩ (lt_fuel (by show c.length - 0 ≤ _; omega))
  simp only [Option.bind_some]
  rw [hv]
  rfl
def numV (b : List UInt8) : Int := wI ((leV (b.take 4) (b.take 4).length).toNat : Int)
theorem num_m (b : List UInt8) : m23_prog_Num b = some (numV b) := by
  unfold m23_prog_Num
  have hc : cut b 0 (if 4 < (b.length : Int) then 4 else (b.length : Int)) = some (b.take 4) := by
    by_cases h : 4 < (b.length : Int)
    · rw [if_pos h, cut_of (by omega) (by omega) (by omega)]; rfl
    · rw [if_neg h, cut_of (by omega) (by omega) (by omega)]
      congr 1
      simp
      rw [List.take_of_length_le (by omega)]
  rw [hc, Option.bind_some]
  unfold m40_enc_News
  rw [Option.bind_some]
  exact us_m (by rw [List.length_take]; omega)
theorem leV_lt (c : List UInt8) : ∀ i, i ≤ 4 → (leV c i).toNat < 2 ^ (8 * i)
  | 0, _ => by show (0#64).toNat < 2 ^ 0; decide
  | i + 1, h => by
    have ih := leV_lt c i (by omega)
    rw [leV_succ, BitVec.toNat_or]
    refine Nat.or_lt_two_pow (Nat.lt_of_lt_of_le ih (Nat.pow_le_pow_right (by decide) (by omega))) ?_
    rw [BitVec.toNat_shiftLeft, BitVec.toNat_setWidth]
    have hb : (c[i]?.getD 0).toBitVec.toNat < 256 := (c[i]?.getD 0).toBitVec.isLt
    generalize (c[i]?.getD 0).toBitVec.toNat = b at hb
    rw [Nat.mod_eq_of_lt (a := b) (by omega), Nat.shiftLeft_eq, Nat.mod_eq_of_lt]
    · calc b * 2 ^ (8 * i) < 256 * 2 ^ (8 * i) := Nat.mul_lt_mul_of_pos_right hb (Nat.two_pow_pos _)
        _ = 2 ^ (8 * (i + 1)) := by rw [Nat.mul_succ, Nat.pow_add, Nat.mul_comm]
    · have : b * 2 ^ (8 * i) < 256 * 2 ^ (8 * i) := Nat.mul_lt_mul_of_pos_right hb (Nat.two_pow_pos _)
      have h2 : (256 : Nat) * 2 ^ (8 * i) ≤ 256 * 2 ^ 24 := Nat.mul_le_mul_left _ (Nat.pow_le_pow_right (by decide) (by omega))
      omega
theorem numV_range (b : List UInt8) : 0 ≤ numV b ∧ numV b ≤ 4294967295 := by
  unfold numV
  have hl : (b.take 4).length ≤ 4 := by rw [List.length_take]; omega
  have h := leV_lt (b.take 4) (b.take 4).length hl
  have h2 : 2 ^ (8 * (b.take 4).length) ≤ 2 ^ 32 := Nat.pow_le_pow_right (by decide) (by omega)
  rw [wI_id (by omega) (by omega)]
  omega
theorem le_val (n : Int) : leV (valV n) 4 = BitVec.ofInt 64 n &&& BitVec.ofInt 64 4294967295 := by
  show (((0#64 ||| ((byt (BitVec.ofInt 64 n) 0).toBitVec.setWidth 64 <<< 0)) ||| ((byt (BitVec.ofInt 64 n) 1).toBitVec.setWidth 64 <<< 8)) ||| ((byt (BitVec.ofInt 64 n) 2).toBitVec.setWidth 64 <<< 16)) ||| ((byt (BitVec.ofInt 64 n) 3).toBitVec.setWidth 64 <<< 24) = _
  generalize BitVec.ofInt 64 n = x
  rw [show BitVec.ofInt 64 4294967295 = (BitVec.allOnes 32).setWidth 64 by decide]
  unfold byt
  apply BitVec.eq_of_getLsbD_eq
  intro i hi
  simp only [BitVec.getLsbD_or, BitVec.getLsbD_shiftLeft, BitVec.getLsbD_setWidth, BitVec.getLsbD_ushiftRight, BitVec.getLsbD_and, BitVec.getLsbD_allOnes, BitVec.getLsbD_zero, Bool.false_or]
  by_cases h1 : i < 8
  · simp [h1, show i < 16 by omega, show i < 24 by omega, show i < 32 by omega, hi]
  · by_cases h2 : i < 16
    · simp [h1, h2, show i < 24 by omega, show i < 32 by omega, show i - 8 < 8 by omega, show 8 + (i - 8) = i by omega, hi, show i - 8 < 64 by omega]
    · by_cases h3 : i < 24
      · simp [h1, h2, h3, show i < 32 by omega, show ¬ i - 8 < 8 by omega, show i - 16 < 8 by omega, show 16 + (i - 16) = i by omega, hi, show i - 16 < 64 by omega]
      · by_cases h4 : i < 32
        · simp [h1, h2, h3, h4, show ¬ i - 8 < 8 by omega, show ¬ i - 16 < 8 by omega, show i - 24 < 8 by omega, show 24 + (i - 24) = i by omega, hi, show i - 24 < 64 by omega]
        · simp [h1, h2, h3, h4, show ¬ i - 8 < 8 by omega, show ¬ i - 16 < 8 by omega, show ¬ i - 24 < 8 by omega]

end Go.Proofs.Ytdehclinlcnlhaa.Abs
