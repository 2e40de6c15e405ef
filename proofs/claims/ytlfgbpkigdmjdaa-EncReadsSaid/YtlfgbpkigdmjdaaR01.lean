/-
  The document's reader is the program's.
-/
import Derived.Test.YtlfgbpkigdmjdaaC01c
namespace Go.Proofs.Ytlfgbpkigdmjdaa.Abs

theorem rtake_m (n p : Nat) (d : List UInt8) (e : Int) (h : p ≤ d.length) (hd : d.length ≤ 100000000) (hn : n ≤ 100000000) :
    m32_r01_Reader_takes n d p e = some (if e ≠ 0 then ([], (p : Int), e) else if p + n ≤ d.length then ((d.drop p).take n, ((p + n : Nat) : Int), 0) else ([], (p : Int), 2)) := by
  unfold m32_r01_Reader_takes
  by_cases he : e = 0
  · subst he
    rw [if_pos (by decide), wI_id (by omega) (by omega)]
    by_cases hl : p + n ≤ d.length
    · rw [if_neg (by rw [decide_eq_true_eq]; omega), if_neg (by simp), if_pos hl]
      unfold m32_r01_Reader_takes_k1
      rw [if_neg (by simp), wI_id (n := (p : Int) + n) (by omega) (by omega), show (p : Int) + n - n = p from by omega, wI_id (by omega) (by omega), cut_of (by omega) (by omega) (by omega)]
      simp only [Option.bind_some]
      rw [show (((p : Int) + n).toNat - (p : Int).toNat) = n from by omega, Int.toNat_natCast, if_pos (by rw [List.length_take]; omega)]
      rfl
    · rw [if_pos (by rw [decide_eq_true_eq]; omega), if_neg (by simp), if_neg hl]
      rfl
  · rw [if_neg (by rw [decide_eq_true_eq]; exact he), if_pos he]
    unfold m32_r01_Reader_takes_k1
    rw [if_pos (by simp [he])]

def hv (l : List UInt8) : BitVec 64 := l.foldr (fun u acc => acc * 256#64 + u.toBitVec.setWidth 64) 0#64
theorem hv_loop (v2 : (List UInt8) × Int × Int) (hl : v2.1.length ≤ 1000) : iterB (m17_r01_Reader_Us_s4 v2) fuel (0#64, (wI ((v2.1.length : Int) - 1))) = some (hv v2.1) := by
  obtain ⟨b, hb, rfl⟩ := iterB_inv (f := m17_r01_Reader_Us_s4 v2) (P := fun s => ∃ i : Nat, i ≤ v2.1.length ∧ s = (hv (v2.1.drop i), (i : Int) - 1)) (μ := fun s => (s.2 + 1).toNat) (R := fun b => b = hv v2.1)
    (fun s hs => by
      obtain ⟨i, hi, rfl⟩ := hs
      unfold m17_r01_Reader_Us_s4
      by_cases h0 : i = 0
      · subst h0
        exact .inr ⟨_, by rw [if_neg (by rw [decide_eq_true_eq]; simp)], by simp⟩
      · obtain ⟨j, rfl⟩ : ∃ j, i = j + 1 := ⟨i - 1, by omega⟩
        have hj : v2.1[j]? = some v2.1[j] := List.getElem?_eq_getElem (by omega)
        refine .inl ⟨(hv (v2.1.drop j), (j : Int) - 1), ?_, ⟨j, by omega, rfl⟩, by simp only; omega⟩
        rw [if_pos (by rw [decide_eq_true_eq]; simp only; omega)]
        simp only
        rw [show (((j + 1 : Nat) : Int) - 1) = (j : Int) from by omega, idx_nat, hj]
        simp only [Option.bind_some]
        rw [wI_id (by omega) (by omega)]
        have : v2.1.drop j = v2.1[j] :: v2.1.drop (j + 1) := List.drop_eq_getElem_cons (by omega)
        rw [this]
        rfl) fuel (0#64, wI ((v2.1.length : Int) - 1)) ⟨v2.1.length, Nat.le_refl _, by rw [wI_id (by omega) (by omega), List.drop_length]; rfl⟩ (by
      rw [wI_id (by omega) (by omega)]
      exact lt_fuel (by simp only; omega))
  exact hb

theorem ns_cons (u : UInt8) (l : List UInt8) : ∀ n, ns (u :: l) (n + 1) = u.toNat + 256 * ns l n
  | 0 => by simp [ns]
  | n + 1 => by
    rw [ns, ns_cons u l n, ns]
    have e : (u :: l).getD (n + 1) 0 = l.getD n 0 := rfl
    rw [e, show 8 * (n + 1) = 8 * n + 8 from by omega, Nat.pow_add, Nat.mul_add]
    have : (2 : Nat) ^ 8 = 256 := rfl
    rw [this, Nat.add_assoc]
    congr 2
    rw [← Nat.mul_assoc, Nat.mul_comm 256]
theorem hv_ns : ∀ (l : List UInt8), l.length ≤ 8 → (hv l).toNat = ns l l.length
  | [], _ => rfl
  | u :: l, h => by
    have ih := hv_ns l (by simp at h; omega)
    have hlt := ns_lt l l.length
    have hb : u.toNat < 256 := UInt8.toNat_lt _
    have hle : (2 : Nat) ^ (8 * l.length) ≤ 2 ^ 56 := Nat.pow_le_pow_right (by decide) (by simp at h; omega)
    have hc : hv (u :: l) = hv l * 256#64 + u.toBitVec.setWidth 64 := rfl
    rw [hc, List.length_cons, ns_cons, BitVec.toNat_add, BitVec.toNat_mul, ih, BitVec.toNat_setWidth]
    have e1 : u.toBitVec.toNat = u.toNat := rfl
    have e2 : (256#64).toNat = 256 := rfl
    have h56 : (2 : Nat) ^ 56 = 72057594037927936 := by decide
    have h64 : (2 : Nat) ^ 64 = 18446744073709551616 := by decide
    rw [e1, e2, h64, Nat.mod_eq_of_lt (a := u.toNat) (by omega), Nat.mod_eq_of_lt (a := ns l l.length * 256) (by omega), Nat.mod_eq_of_lt (by omega)]
    omega
theorem hv_vn (l : List UInt8) (h : l.length ≤ 8) : hv l = vn l l.length := by
  apply BitVec.eq_of_toNat_eq
  rw [hv_ns l h, vn_ns _ _ h]

theorem rU_eq {n : Nat} (h1 : 1 ≤ n) (h8 : n ≤ 8) (e : Int) (p : Nat) (d : List UInt8) (h : p ≤ d.length) (hd : d.length ≤ 100000000) :
    m17_r01_Reader_Us n d p e = (m16_enc_Reader_Us n e p d).bind fun x => some (x.1, x.2.2, x.2.1) := by
  unfold m17_r01_Reader_Us
  rw [if_neg (by rw [decide_eq_true_eq]; omega), if_neg (by rw [decide_eq_true_eq]; omega)]
  unfold m17_r01_Reader_Us_k1 m17_r01_Reader_Us_k3
  rw [rtake_m n p d e h hd (by omega)]
  simp only [Option.bind_some]
  by_cases he : e = 0
  · subst he
    rw [if_neg (by simp)]
    by_cases hl : p + n ≤ d.length
    · rw [if_pos hl, U_read n p d h1 h8 hl hd]
      have hlen : ((d.drop p).take n).length = n := by rw [List.length_take, List.length_drop]; omega
      rw [hv_loop _ (by rw [hlen]; omega), hv_vn _ (by rw [hlen]; exact h8)]
      simp only [Option.bind_some, hlen]
    · rw [if_neg hl, hv_loop _ (by simp)]
      unfold m16_enc_Reader_Us m24_enc_Reader_Errs
      simp only [Option.bind_some]
      rw [if_neg (by simp), if_neg (by rw [decide_eq_true_eq]; omega), if_neg (by rw [decide_eq_true_eq]; omega)]
      unfold m16_enc_Reader_Us_k2
      rw [take_short _ _ _ h (by omega) hd]
      rfl
  · rw [if_pos he, hv_loop _ (by simp)]
    unfold m16_enc_Reader_Us m24_enc_Reader_Errs
    simp only [Option.bind_some]
    rw [if_pos (by simp [he])]
    rfl
theorem rF_eq (e : Int) (p : Nat) (d : List UInt8) (h : p ≤ d.length) (hd : d.length ≤ 100000000) :
    m21_r01_Reader_Flags d p e = (m20_enc_Reader_Flags e p d).bind fun x => some (x.1, x.2.2, x.2.1) := by
  obtain ⟨v, e1, p1, hu, hp, hk, hlt, hz⟩ := U_any 1 e p d h hd
  have hr := rU_eq (n := 1) (by decide) (by decide) e p d h hd
  rw [show ((1 : Nat) : Int) = 1 from rfl, hu] at hr
  unfold m21_r01_Reader_Flags m20_enc_Reader_Flags m20_enc_Reader_Flags_k2 m22_enc_Reader_Fails m23_r01_Reader_Fails m21_r01_Reader_Flags_k2
  rw [hr, hu]
  simp only [Option.bind_some]
  by_cases hx : (1 : Int) < (v.toNat : Int)
  · have hne : ¬ ((v.toNat : Int) = 1) := by omega
    simp only [decide_eq_true hx, decide_eq_false hne, if_true, Bool.false_eq_true, if_false]
    by_cases h0 : e1 = 0
    · simp only [decide_eq_true h0, if_true, Option.bind_some]
    · simp only [decide_eq_false h0, Bool.false_eq_true, if_false, Option.bind_some]
  · simp only [decide_eq_false hx, Bool.false_eq_true, if_false]
    by_cases h1 : (v.toNat : Int) = 1
    · have h0 : e1 = 0 := by
        by_cases h0 : e1 = 0
        · exact h0
        · rw [hz h0] at h1; exact absurd h1 (by decide)
      simp only [decide_eq_true h1, decide_eq_true h0, if_true, Option.bind_some]
    · simp only [decide_eq_false h1, Bool.false_eq_true, if_false, Option.bind_some]
theorem rL_eq (n e : Int) (p : Nat) (d : List UInt8) (h : p ≤ d.length) (hd : d.length ≤ 100000000) :
    m19_r01_Reader_Lists n d p e = (m18_enc_Reader_Lists n e p d).bind fun x => some (x.1, x.2.2, x.2.1) := by
  obtain ⟨v, e1, p1, hu, hp, hk, hlt, hz⟩ := U_any 2 e p d h hd
  have hr := rU_eq (n := 2) (by decide) (by decide) e p d h hd
  rw [show ((2 : Nat) : Int) = 2 from rfl, hu] at hr
  have hv16 : v.toNat < 65536 := hlt
  unfold m19_r01_Reader_Lists m18_enc_Reader_Lists m24_enc_Reader_Errs m22_enc_Reader_Fails m23_r01_Reader_Fails m19_r01_Reader_Lists_k2
  rw [hr, hu]
  simp only [Option.bind_some]
  rw [wI_id (by omega) (by omega)]
  by_cases h0 : e1 = 0
  · subst h0
    rw [if_neg (by simp : ¬ (!decide ((0 : Int) = 0)) = true)]
    by_cases h5 : (n : Int) < (v.toNat : Int)
    · rw [if_pos (decide_eq_true h5), if_pos (decide_eq_true h5)]
      simp only [decide_true, if_true, Option.bind_some]
      rw [rtake_m _ _ _ _ hp hd (by omega), if_pos (by decide)]
      rfl
    · rw [if_neg (by rw [decide_eq_true_eq]; exact h5), if_neg (by rw [decide_eq_true_eq]; exact h5), rtake_m _ _ _ _ hp hd (by omega), if_neg (by simp)]
      by_cases hl : p1 + v.toNat ≤ d.length
      · rw [if_pos hl, take_m _ _ _ hl hd]
        simp only [Option.bind_some]
        rw [m33_slices_Cloneo_m _ (by rw [List.length_take, List.length_drop]; omega)]
        rfl
      · rw [if_neg hl, take_short _ _ _ hp (by omega) hd]
        simp only [Option.bind_some]
        rw [m33_slices_Cloneo_m _ (by simp)]
        rfl
  · have hv0 := hz h0
    subst hv0
    have ht : m32_r01_Reader_takes ((0#64).toNat : Int) d (p1 : Int) e1 = some ([], (p1 : Int), e1) := by
      rw [rtake_m _ _ _ _ hp hd (by simp), if_pos h0]
    rw [if_pos (show (!decide (e1 = 0)) = true by simp [h0])]
    by_cases h5 : (n : Int) < ((0#64).toNat : Int)
    · rw [if_pos (decide_eq_true h5), if_neg (show ¬ decide (e1 = 0) = true by simp [h0])]
      simp only [Option.bind_some]
      rw [ht]
      rfl
    · rw [if_neg (show ¬ decide ((n : Int) < ((0#64).toNat : Int)) = true by rw [decide_eq_true_eq]; exact h5), ht]
      rfl
end Go.Proofs.Ytlfgbpkigdmjdaa.Abs
