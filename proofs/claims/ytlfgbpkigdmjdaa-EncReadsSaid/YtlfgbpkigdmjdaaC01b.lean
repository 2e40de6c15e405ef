/-
  How they are read again.
-/
import Derived.Test.YtlfgbpkigdmjdaaC01
namespace Go.Proofs.Ytlfgbpkigdmjdaa.Abs

def vn (l : List UInt8) : Nat → BitVec 64
  | 0 => 0#64
  | i + 1 => vn l i ||| ((l.getD i 0).toBitVec.setWidth 64 <<< (8 * i))
def ns (l : List UInt8) : Nat → Nat
  | 0 => 0
  | i + 1 => ns l i + (l.getD i 0).toNat * 2 ^ (8 * i)
theorem ns_lt (l : List UInt8) : ∀ i, ns l i < 2 ^ (8 * i)
  | 0 => by simp [ns]
  | i + 1 => by
    have := ns_lt l i
    have hb : (l.getD i 0).toNat < 256 := UInt8.toNat_lt _
    rw [ns, show 8 * (i + 1) = 8 * i + 8 from by omega, Nat.pow_add]
    have h2 : (l.getD i 0).toNat * 2 ^ (8 * i) ≤ 255 * 2 ^ (8 * i) := Nat.mul_le_mul_right _ (by omega)
    have : (2 : Nat) ^ 8 = 256 := rfl
    omega
theorem vn_ns (l : List UInt8) : ∀ i, i ≤ 8 → (vn l i).toNat = ns l i
  | 0, _ => rfl
  | i + 1, h => by
    have ih := vn_ns l i (by omega)
    have hlt := ns_lt l i
    have hlt1 := ns_lt l (i + 1)
    have hb : (l.getD i 0).toNat < 256 := UInt8.toNat_lt _
    rw [vn, BitVec.toNat_or, ih, BitVec.toNat_shiftLeft, BitVec.toNat_setWidth]
    have e1 : (l.getD i 0).toBitVec.toNat % 2 ^ 64 = (l.getD i 0).toNat := Nat.mod_eq_of_lt (Nat.lt_trans (show (l.getD i 0).toBitVec.toNat < 256 from hb) (by decide))
    rw [e1, Nat.shiftLeft_eq]
    have hp : (2 : Nat) ^ (8 * (i + 1)) ≤ 2 ^ 64 := Nat.pow_le_pow_right (by decide) (by omega)
    rw [ns] at hlt1
    rw [Nat.mod_eq_of_lt (by omega), ← Nat.shiftLeft_eq, Nat.or_comm, ← Nat.shiftLeft_add_eq_or_of_lt hlt, ns, Nat.shiftLeft_eq, Nat.add_comm]

theorem place_m (p : Nat) (d : List UInt8) (h : p ≤ d.length) (hd : d.length ≤ 100000000) : m30_enc_New_1s 0 p d = some ((p : Int), d.drop p, (p : Int)) := by
  unfold m30_enc_New_1s
  rw [Int.add_zero, wI_id (by omega) (by omega), cut_of (by omega) (by omega) (Int.le_refl _)]
  simp only [Option.bind_some]
  rw [Int.toNat_natCast, Int.toNat_natCast, List.take_of_length_le (by rw [List.length_drop]; exact Nat.le_refl _)]
theorem step_m (n p : Nat) (d : List UInt8) (h : p + n ≤ d.length) (hd : d.length ≤ 100000000) : m30_enc_New_1s n p d = some (((p + n : Nat) : Int), d.drop (p + n), ((p + n : Nat) : Int)) := by
  unfold m30_enc_New_1s
  rw [wI_id (by omega) (by omega), show (p : Int) + n = ((p + n : Nat) : Int) from by omega, cut_of (by omega) (by omega) (Int.le_refl _)]
  simp only [Option.bind_some]
  rw [Int.toNat_natCast, Int.toNat_natCast, List.take_of_length_le (by rw [List.length_drop]; exact Nat.le_refl _)]
theorem places_m (e : Int) (p : Nat) (d : List UInt8) (h : p ≤ d.length) (hd : d.length ≤ 100000000) : m34_enc_Reader_places e p d = some ((p : Int), d.drop p, (p : Int)) := by
  unfold m34_enc_Reader_places m34_enc_Reader_places_k1
  rw [place_m p d h hd]
  rfl
theorem take_m (n p : Nat) (d : List UInt8) (h : p + n ≤ d.length) (hd : d.length ≤ 100000000) : m31_enc_Reader_takes n 0 p d = some ((d.drop p).take n, 0, ((p + n : Nat) : Int)) := by
  unfold m31_enc_Reader_takes
  rw [places_m 0 p d (by omega) hd]
  simp only [Option.bind_some]
  rw [if_neg (by rw [decide_eq_true_eq, List.length_drop]; omega)]
  have hk : ∀ x : Int, m31_enc_Reader_takes_k3 (n : Int) 0 ((p : Int), d.drop p, (p : Int)) x = some ((d.drop p).take n, 0, x) := fun x => by
    unfold m31_enc_Reader_takes_k3
    rw [cut_of (Int.le_refl _) (by omega) (by rw [List.length_drop]; omega)]
    simp
  by_cases hn : 0 < n
  · rw [if_pos (decide_eq_true (by omega)), step_m n p d h hd]
    simp only [Option.bind_some]
    rw [hk]
  · have e : n = 0 := by omega
    rw [if_neg (by rw [decide_eq_true_eq]; omega), hk, e, Nat.add_zero]
theorem U_read (n p : Nat) (d : List UInt8) (h1 : 1 ≤ n) (h8 : n ≤ 8) (h : p + n ≤ d.length) (hd : d.length ≤ 100000000) : m16_enc_Reader_Us n 0 p d = some (vn ((d.drop p).take n) n, 0, ((p + n : Nat) : Int)) := by
  unfold m16_enc_Reader_Us m24_enc_Reader_Errs
  simp only [Option.bind_some]
  rw [if_neg (by simp), if_neg (by rw [decide_eq_true_eq]; omega), if_neg (by rw [decide_eq_true_eq]; omega)]
  unfold m16_enc_Reader_Us_k2
  rw [take_m n p d h hd]
  simp only [Option.bind_some]
  have hl : ((d.drop p).take n).length = n := by rw [List.length_take, List.length_drop]; omega
  generalize (d.drop p).take n = l at hl
  obtain ⟨b, hb, rfl⟩ := iterB_inv (f := m16_enc_Reader_Us_s5 (l, 0, ((p + n : Nat) : Int))) (P := fun s => ∃ i : Nat, i ≤ n ∧ s = (vn l i, (i : Int))) (μ := fun s => 8 - s.2.toNat) (R := fun b => b = vn l n) (by
    rintro _ ⟨i, hi, rfl⟩
    unfold m16_enc_Reader_Us_s5
    dsimp only
    rw [hl]
    rcases Nat.lt_or_ge i n with hlt | hge
    · left
      refine ⟨(vn l (i + 1), ((i + 1 : Nat) : Int)), ?_, ⟨i + 1, hlt, rfl⟩, by simp only [Int.toNat_natCast]; omega⟩
      have e := List.getElem?_eq_getElem (show i < l.length by omega)
      rw [if_pos (decide_eq_true (by omega)), idx_nat, e, Option.bind_some, wI_id (n := 8 * (i : Int)) (by omega) (by omega), if_pos (by omega), wI_id (by omega) (by omega), show (8 * (i : Int)).toNat = 8 * i from by omega, vn, List.getD_eq_getElem?_getD, e]
      rfl
    · right
      have e : i = n := by omega
      subst e
      rw [if_neg (by rw [decide_eq_true_eq]; exact Int.lt_irrefl _)]
      exact ⟨_, rfl, rfl⟩) fuel (0#64, 0) ⟨0, Nat.zero_le _, rfl⟩ (lt_fuel (by show 8 - 0 ≤ _; omega))
  rw [hb]
  rfl
theorem at_m (p : Nat) (d : List UInt8) (h : p ≤ d.length) (hd : d.length ≤ 100000000) : m25_enc_Reader_Ats 0 p d = some ((p : Int), (p : Int)) := by
  unfold m25_enc_Reader_Ats
  rw [places_m 0 p d h hd]
  rfl

theorem encSplit_true (a0 : List UInt8) : m8_l01_EncSplit a0 = some true := by
  unfold m8_l01_EncSplit
  rw [awake01]
  simp only [Option.bind_some]
  by_cases h1 : (100 : Int) < a0.length
  · rw [if_pos (decide_eq_true h1)]
  rw [if_neg (by rw [decide_eq_true_eq]; exact h1)]
  by_cases h2 : (a0.length : Int) < 4
  · rw [if_pos (decide_eq_true h2)]
  rw [if_neg (by rw [decide_eq_true_eq]; exact h2)]
  rcases a0 with _ | ⟨x0, _ | ⟨x1, _ | ⟨x2, _ | ⟨x3, r⟩⟩⟩⟩
  · simp at h2
  · simp at h2
  · simp at h2
  · simp at h2
  have hl : (x0 :: x1 :: x2 :: x3 :: r).length ≤ 100000000 := by omega
  have hl4 : 4 ≤ (x0 :: x1 :: x2 :: x3 :: r).length := by simp
  generalize hd : x0 :: x1 :: x2 :: x3 :: r = d at hl hl4
  unfold m8_l01_EncSplit_k2 m14_enc_News
  simp only [Option.bind_some]
  have u10 := U_read 1 0 d (by decide) (by decide) (by omega) hl
  have u11 := U_read 1 1 d (by decide) (by decide) (by omega) hl
  have u12 := U_read 1 2 d (by decide) (by decide) (by omega) hl
  have u13 := U_read 1 3 d (by decide) (by decide) (by omega) hl
  have u20 := U_read 2 0 d (by decide) (by decide) (by omega) hl
  have u22 := U_read 2 2 d (by decide) (by decide) (by omega) hl
  have u40 := U_read 4 0 d (by decide) (by decide) (by omega) hl
  have a4 := at_m 4 d hl4 hl
  simp only [Nat.reduceAdd, Int.cast_ofNat_Int] at u10 u11 u12 u13 u20 u22 u40 a4
  simp only [u10, u11, u12, u13, u20, u22, u40, a4, Option.bind_some]
  have b0 : x0.toNat < 256 := UInt8.toNat_lt _
  have b1 : x1.toNat < 256 := UInt8.toNat_lt _
  have b2 : x2.toNat < 256 := UInt8.toNat_lt _
  have b3 : x3.toNat < 256 := UInt8.toNat_lt _
  have q1 : (vn (List.take 2 (List.drop 0 d)) 2).toNat = (vn (List.take 1 (List.drop 0 d)) 1 + vn (List.take 1 (List.drop 1 d)) 1 * 256#64).toNat := by
    subst hd
    rw [BitVec.toNat_add, BitVec.toNat_mul, vn_ns _ 2 (by decide), vn_ns _ 1 (by decide), vn_ns _ 1 (by decide)]
    simp [ns]
    omega
  have q2 : (vn (List.take 2 (List.drop 2 d)) 2).toNat = (vn (List.take 1 (List.drop 2 d)) 1 + vn (List.take 1 (List.drop 3 d)) 1 * 256#64).toNat := by
    subst hd
    rw [BitVec.toNat_add, BitVec.toNat_mul, vn_ns _ 2 (by decide), vn_ns _ 1 (by decide), vn_ns _ 1 (by decide)]
    simp [ns]
    omega
  have q3 : (vn (List.take 4 (List.drop 0 d)) 4).toNat = (vn (List.take 2 (List.drop 0 d)) 2 + vn (List.take 2 (List.drop 2 d)) 2 * 65536#64).toNat := by
    subst hd
    rw [BitVec.toNat_add, BitVec.toNat_mul, vn_ns _ 4 (by decide), vn_ns _ 2 (by decide), vn_ns _ 2 (by decide)]
    simp [ns]
    omega
  rw [q1, q2, q3]
  simp
end Go.Proofs.Ytlfgbpkigdmjdaa.Abs
