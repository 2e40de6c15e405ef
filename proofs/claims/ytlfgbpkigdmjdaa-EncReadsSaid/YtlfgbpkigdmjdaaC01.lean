/-
  How numbers and rows are laid out in bytes.
-/
import Derived.Test.YtlfgbpkigdmjdaaS01
namespace Go.Proofs.Ytlfgbpkigdmjdaa.Abs

theorem awake01 : m9_l01_awake = some true := by decide +kernel

def le8 (v : BitVec 64) (n : Nat) : List UInt8 := (List.range n).map fun i => UInt8.ofBitVec ((v >>> (8 * i)).setWidth 8)
theorem le8_len (v : BitVec 64) (n : Nat) : (le8 v n).length = n := by simp [le8]
theorem le8_succ (v : BitVec 64) (n : Nat) : le8 v (n + 1) = le8 v n ++ [UInt8.ofBitVec ((v >>> (8 * n)).setWidth 8)] := by
  simp [le8, List.range_succ]
abbrev w8 (n : Int) : Int := if (if 8 < n then 8 else n) > 0 then (if 8 < n then 8 else n) else 0
theorem w8_le (n : Int) : 0 ≤ w8 n ∧ w8 n ≤ 8 := by
  unfold w8
  split <;> split <;> omega

theorem U_m (a : List UInt8) (v : BitVec 64) (k : Int) (h : a.length ≤ 1000000) : m10_enc_U a v k = some (a ++ le8 v (w8 k).toNat) := by
  have hw := w8_le k
  generalize hn : w8 k = n at hw
  unfold m10_enc_U
  have hn' : (if (if 8 < k then 8 else k) > 0 then (if 8 < k then 8 else k) else 0) = n := hn
  rw [hn', if_pos ⟨hw.1, Int.le_refl _, by omega⟩]
  obtain ⟨b, hb, rfl⟩ := iterB_inv (f := m10_enc_U_s4 v k) (P := fun s => ∃ i : Nat, i ≤ n.toNat ∧ s = ((i : Int), le8 v i ++ List.replicate (n.toNat - i) 0)) (μ := fun s => 8 - s.1.toNat) (R := fun b => b = le8 v n.toNat) (by
    rintro _ ⟨i, hi, rfl⟩
    unfold m10_enc_U_s4
    rw [hn', List.length_replicate]
    rcases Nat.lt_or_ge i n.toNat with hlt | hge
    · left
      refine ⟨(((i + 1 : Nat) : Int), le8 v (i + 1) ++ List.replicate (n.toNat - (i + 1)) 0), ?_, ⟨i + 1, hlt, rfl⟩, by simp only [Int.toNat_natCast]; omega⟩
      rw [if_pos (decide_eq_true (by show (i : Int) < (n.toNat : Int); omega))]
      dsimp only
      rw [wI_id (n := 8 * (i : Int)) (by omega) (by omega), if_pos (by omega), wI_id (by omega) (by omega), idx_nat, List.getElem?_append_right (by rw [le8_len]; exact Nat.le_refl _), le8_len, Nat.sub_self]
      rw [show n.toNat - i = (n.toNat - (i + 1)) + 1 from by omega, List.replicate_succ, List.getElem?_cons_zero, Option.bind_some]
      rw [show (8 * (i : Int)).toNat = 8 * i from by omega, Int.toNat_natCast, List.set_append_right _ _ (by rw [le8_len]; exact Nat.le_refl _), le8_len, Nat.sub_self, List.set_cons_zero, le8_succ, List.append_assoc]
      rfl
    · right
      have e : i = n.toNat := by omega
      subst e
      rw [if_neg (by rw [decide_eq_true_eq]; exact Int.lt_irrefl _)]
      exact ⟨_, rfl, by rw [Nat.sub_self]; simp⟩) fuel (0, List.replicate n.toNat (0 : UInt8)) ⟨0, Nat.zero_le _, by simp [le8]⟩ (lt_fuel (by show 8 - 0 ≤ _; omega))
  rw [hb, Option.bind_some]
  unfold m10_enc_U_k2
  rw [m29_slices_Concato_m _ (by simp [le8_len]; omega) (by simp)]
  simp

theorem shr8 (v : BitVec 64) (i : Nat) : v >>> (8 * i) / 256#64 = v >>> (8 * (i + 1)) := by
  apply BitVec.eq_of_toNat_eq
  rw [BitVec.toNat_udiv, BitVec.toNat_ushiftRight, BitVec.toNat_ushiftRight, Nat.shiftRight_eq_div_pow, Nat.shiftRight_eq_div_pow, Nat.div_div_eq_div_mul, show 8 * (i + 1) = 8 * i + 8 from by omega, Nat.pow_add]
  rfl
theorem mod8 (v : BitVec 64) : (v % 256#64).setWidth 8 = v.setWidth 8 := by
  apply BitVec.eq_of_toNat_eq
  rw [BitVec.toNat_setWidth, BitVec.toNat_setWidth, BitVec.toNat_umod]
  show v.toNat % 256 % 256 = v.toNat % 256
  omega
theorem rU_loop (a : List UInt8) (v : BitVec 64) (k : Int) (h : a.length ≤ 1000000) (f : (BitVec 64) × Int × (List UInt8) → Option (LB ((BitVec 64) × Int × (List UInt8)) (List UInt8)))
    (hf : ∀ s, f s = if (decide (s.2.1 < k)) then (if (decide (s.2.1 < 8)) then (if (s.2.2.length + [(UInt8.ofBitVec ((s.1 % (256#64)).setWidth 8))].length) * 1 ≤ 140737488355328 then (some (.cont ((s.1 / (256#64)), (wI (s.2.1 + 1)), (s.2.2 ++ [(UInt8.ofBitVec ((s.1 % (256#64)).setWidth 8))])))) else none) else (some (.brk s.2.2))) else (some (.brk s.2.2))) :
    iterB f fuel (v, 0, ([] ++ a)) = some (a ++ le8 v (w8 k).toNat) := by
  have hw : w8 k = if 8 < k then 8 else if k > 0 then k else 0 := by unfold w8; split <;> split <;> omega
  obtain ⟨b, hb, rfl⟩ := iterB_inv (f := f) (P := fun s => ∃ i : Nat, (i : Int) ≤ w8 k ∧ s = (v >>> (8 * i), (i : Int), a ++ le8 v i)) (μ := fun s => 8 - s.2.1.toNat) (R := fun b => b = a ++ le8 v (w8 k).toNat) (by
    rintro _ ⟨i, hi, rfl⟩
    rw [hf]
    dsimp only
    by_cases h1 : (i : Int) < k
    · rw [if_pos (decide_eq_true h1)]
      by_cases h2 : (i : Int) < 8
      · left
        rw [if_pos (decide_eq_true h2), if_pos (by simp [le8_len]; omega), shr8, mod8, wI_id (by omega) (by omega)]
        refine ⟨_, rfl, ⟨i + 1, ?_, ?_⟩, ?_⟩
        · rw [hw]; split <;> (try split) <;> omega
        · rw [le8_succ, List.append_assoc]; rfl
        · show 8 - ((i : Int) + 1).toNat < 8 - (i : Int).toNat; omega
      · right
        rw [if_neg (by rw [decide_eq_true_eq]; exact h2)]
        refine ⟨_, rfl, ?_⟩
        have : (w8 k).toNat = i := by
          rw [hw] at hi ⊢
          split at hi <;> split <;> (try split) <;> omega
        rw [this]
    · right
      rw [if_neg (by rw [decide_eq_true_eq]; exact h1)]
      refine ⟨_, rfl, ?_⟩
      have : (w8 k).toNat = i := by
        rw [hw] at hi ⊢
        split at hi
        · omega
        · split at hi <;> omega
      rw [this]) fuel (v, 0, ([] ++ a)) ⟨0, (w8_le k).1, by simp [le8]⟩ (lt_fuel (by show 8 - 0 ≤ _; omega))
  exact hb
theorem rU_m (a : List UInt8) (v : BitVec 64) (k : Int) (h : a.length ≤ 1000000) : m11_r01_U a v k = some (a ++ le8 v (w8 k).toNat) := by
  unfold m11_r01_U
  rw [if_pos (by simp; omega), rU_loop a v k h _ (fun s => by unfold m11_r01_U_s3 m11_r01_U_k4; rfl)]
  rfl
theorem rUo_m (a : List UInt8) (v : BitVec 64) (k : Int) (h : a.length ≤ 1000000) : m11_r01_Uo a v k = some (a ++ le8 v (w8 k).toNat) := by
  unfold m11_r01_Uo
  rw [if_pos (by simp; omega), rU_loop a v k h _ (fun s => by unfold m11_r01_Uo_s3 m11_r01_Uo_k4; rfl)]
  rfl

theorem List_m (a x : List UInt8) (h : a.length ≤ 500000) : m12_enc_List a x = some (a ++ le8 (BitVec.ofNat 64 (min 65535 x.length)) 2 ++ x.take (min 65535 x.length)) := by
  unfold m12_enc_List
  have e : (if 65535 < (x.length : Int) then 65535 else (x.length : Int)) = ((min 65535 x.length : Nat) : Int) := by
    split <;> omega
  rw [e, cut_of (Int.le_refl _) (by omega) (by omega)]
  simp only [Option.bind_some]
  have e2 : (x.drop (0 : Int).toNat).take (((min 65535 x.length : Nat) : Int).toNat - (0 : Int).toNat) = x.take (min 65535 x.length) := by
    simp
  rw [e2, List.length_take, show min (min 65535 x.length) x.length = min 65535 x.length from by omega, U_m _ _ _ (by omega)]
  simp only [Option.bind_some]
  rw [m29_slices_Concato_m _ (by simp [le8_len, w8]; omega) (by simp)]
  simp only [Option.bind_some]
  rw [show (w8 2).toNat = 2 from rfl, BitVec.ofInt_natCast]
  simp
theorem rList_m (a x : List UInt8) (h : a.length ≤ 500000) : m13_r01_List a x = some (a ++ le8 (BitVec.ofNat 64 (min 65535 x.length)) 2 ++ x.take (min 65535 x.length)) := by
  unfold m13_r01_List
  have e : (if 65535 < (x.length : Int) then 65535 else (x.length : Int)) = ((min 65535 x.length : Nat) : Int) := by
    split <;> omega
  rw [e, rUo_m _ _ _ (by omega), cut_of (Int.le_refl _) (by omega) (by omega)]
  simp only [Option.bind_some]
  have e2 : (x.drop (0 : Int).toNat).take (((min 65535 x.length : Nat) : Int).toNat - (0 : Int).toNat) = x.take (min 65535 x.length) := by
    simp
  rw [e2, show (w8 2).toNat = 2 from rfl, BitVec.ofInt_natCast, if_pos (by simp [le8_len]; omega)]

theorem encLays_true (a0 : List UInt8) (a1 : BitVec 64) (a2 : Int) (a3 : List UInt8) : m3_l01_EncLays a0 a1 a2 a3 = some true := by
  unfold m3_l01_EncLays
  rw [awake01]
  simp only [Option.bind_some]
  by_cases h1 : (500 : Int) < a0.length
  · rw [if_pos (decide_eq_true h1)]
  rw [if_neg (by rw [decide_eq_true_eq]; exact h1)]
  by_cases h2 : (70000 : Int) < a3.length
  · rw [if_pos (decide_eq_true h2)]
  rw [if_neg (by rw [decide_eq_true_eq]; exact h2)]
  unfold m3_l01_EncLays_k2
  rw [U_m _ _ _ (by omega), rU_m _ _ _ (by omega), List_m _ _ (by omega), rList_m _ _ (by omega)]
  simp
theorem encLens_true (a0 : List UInt8) (a1 : BitVec 64) (a2 : Int) (a3 : List UInt8) : m7_l01_EncLens a0 a1 a2 a3 = some true := by
  unfold m7_l01_EncLens
  rw [awake01]
  simp only [Option.bind_some]
  by_cases h1 : (500 : Int) < a0.length
  · rw [if_pos (decide_eq_true h1)]
  rw [if_neg (by rw [decide_eq_true_eq]; exact h1)]
  by_cases h2 : (500 : Int) < a3.length
  · rw [if_pos (decide_eq_true h2)]
  rw [if_neg (by rw [decide_eq_true_eq]; exact h2)]
  unfold m7_l01_EncLens_k2
  rw [U_m _ _ _ (by omega), List_m _ _ (by omega)]
  simp only [Option.bind_some]
  have hw := w8_le a2
  have hn' : (if (if 8 < a2 then 8 else a2) > 0 then (if 8 < a2 then 8 else a2) else 0) = w8 a2 := rfl
  have hmin : min 65535 a3.length = a3.length := by omega
  rw [if_pos trivial, hn', hmin, List.take_length]
  rw [wI_id (by omega) (by omega), if_pos (decide_eq_true (by simp only [List.length_append, le8_len]; omega))]
  rw [wI_id (n := (a0.length : Int) + 2) (by omega) (by omega), wI_id (by omega) (by omega), if_pos (decide_eq_true (by simp only [List.length_append, le8_len]; omega))]
  rw [cut_of (Int.le_refl _) (by omega) (by simp only [List.length_append, le8_len]; omega), cut_of (Int.le_refl _) (by omega) (by simp only [List.length_append, le8_len]; omega), cut_of (by omega) (by simp only [List.length_append, le8_len]; omega) (Int.le_refl _)]
  simp only [Option.bind_some]
  rw [if_pos (by simp), if_pos (by simp [List.append_assoc])]
  have e : ((a0 ++ le8 (BitVec.ofNat 64 a3.length) 2) ++ a3).drop ((a0.length : Int) + 2).toNat = a3 := by
    rw [show ((a0.length : Int) + 2).toNat = (a0 ++ le8 (BitVec.ofNat 64 a3.length) 2).length from by rw [List.length_append, le8_len]; omega]
    exact List.drop_left
  rw [e, List.take_of_length_le (by simp only [List.length_append, le8_len]; omega)]
  simp
end Go.Proofs.Ytlfgbpkigdmjdaa.Abs
