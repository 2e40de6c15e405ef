/-
  What the library's functions compute.
-/
import Derived.Test.YtlnpkincpgbmcaaDoorS17
namespace Go.Proofs.YtlnpkincpgbmcaaDoor.Abs



def le8 (v : BitVec 64) (n : Nat) : List UInt8 := (List.range n).map fun i => UInt8.ofBitVec ((v >>> (8 * i)).setWidth 8)
theorem le8_len (v : BitVec 64) (n : Nat) : (le8 v n).length = n := by simp [le8]
theorem le8_succ (v : BitVec 64) (n : Nat) : le8 v (n + 1) = le8 v n ++ [UInt8.ofBitVec ((v >>> (8 * n)).setWidth 8)] := by
  simp [le8, List.range_succ]
abbrev w8 (n : Int) : Int := if (if 8 < n then 8 else n) > 0 then (if 8 < n then 8 else n) else 0
theorem w8_le (n : Int) : 0 ≤ w8 n ∧ w8 n ≤ 8 := by
  unfold w8
  split <;> split <;> omega

theorem U_m (a : List UInt8) (v : BitVec 64) (k : Int) (h : a.length ≤ 1000000) : m75_enc_U a v k = some (a ++ le8 v (w8 k).toNat) := by
  have hw := w8_le k
  generalize hn : w8 k = n at hw
  unfold m75_enc_U
  have hn' : (if (if 8 < k then 8 else k) > 0 then (if 8 < k then 8 else k) else 0) = n := hn
  rw [hn', if_pos ⟨hw.1, Int.le_refl _, by omega⟩]
  obtain ⟨b, hb, rfl⟩ := iterB_inv (f := m75_enc_U_s4 v k) (P := fun s => ∃ i : Nat, i ≤ n.toNat ∧ s = ((i : Int), le8 v i ++ List.replicate (n.toNat - i) 0)) (μ := fun s => 8 - s.1.toNat) (R := fun b => b = le8 v n.toNat) (by
    rintro _ ⟨i, hi, rfl⟩
    unfold m75_enc_U_s4
    rw [hn', List.length_replicate]
    rcases Nat.lt_or_ge i n.toNat with hlt | hge
    · left
      refine ⟨(((i + 1 : Nat) : Int), le8 v (i + 1) ++ List.replicate (n.toNat - (i + 1)) 0), ?_, ⟨i + 1, hlt, rfl⟩, by simp only [Int.toNat_natCast]; omega⟩
      rw [if_pos (decide_eq_true (by show (i : Int) < (n.toNat : Int); omega))]
      dsimp only
      rw [wI_id (n := 8 * (i : Int)) (by omega) (by omega), if_pos (by omega), wI_id (by omega) (by omega), idx_nat, List.getElem?_append_right (by rw [le8_len]; exact Nat.le_refl _), le8_len, Nat.sub_self]
      rw [show n.toNat - i = (n.toNat - (i + 1)) + 1 from by omega, List.replicate_succ, List.getElem?_cons_zero, Option.bind_some]
      rw [show (8 * (i : Int)).toNat = 8 * i from by omega, Int.toNat_natCast, List.set_append_right _ _ (by rw [le8_len]; exact Nat.le_refl _), le8_len, Nat.sub_self, List.set_cons_zero, le8_succ, List.append_assoc]
      rfl
    · right
      have e : i = n.toNat := by omega
      subst e
      rw [if_neg (by rw [decide_eq_true_eq]; exact Int.lt_irrefl _)]
      exact ⟨_, rfl, by rw [Nat.sub_self]; simp⟩) fuel (0, List.replicate n.toNat (0 : UInt8)) ⟨0, Nat.zero_le _, by simp [le8]⟩ (lt_fuel (by show 8 - 0 ≤ _; omega))
  rw [hb, Option.bind_some]
  unfold m75_enc_U_k2
  rw [m79_slices_Concato_m _ (by simp [le8_len]; omega) (by simp)]
  simp

theorem shr8 (v : BitVec 64) (i : Nat) : v >>> (8 * i) / 256#64 = v >>> (8 * (i + 1)) := by
  apply BitVec.eq_of_toNat_eq
  rw [BitVec.toNat_udiv, BitVec.toNat_ushiftRight, BitVec.toNat_ushiftRight, Nat.shiftRight_eq_div_pow, Nat.shiftRight_eq_div_pow, Nat.div_div_eq_div_mul, show 8 * (i + 1) = 8 * i + 8 from by omega, Nat.pow_add]
  rfl
theorem mod8 (v : BitVec 64) : (v % 256#64).setWidth 8 = v.setWidth 8 := by
  apply BitVec.eq_of_toNat_eq
  rw [BitVec.toNat_setWidth, BitVec.toNat_setWidth, BitVec.toNat_umod]
  show v.toNat % 256 % 256 = v.toNat % 256
  omega
theorem rU_loop (a : List UInt8) (v : BitVec 64) (k : Int) (h : a.length ≤ 1000000) (f : (BitVec 64) × Int × (List UInt8) → Option (LB ((BitVec 64) × Int × (List UInt8)) (List UInt8)))
    (hf : ∀ s, f s = if (decide (s.2.1 < k)) then (if (decide (s.2.1 < 8)) then (if (s.2.2.length + [(UInt8.ofBitVec ((s.1 % (256#64)).setWidth 8))].length) * 1 ≤ 140737488355328 then (some (.cont ((s.1 / (256#64)), (wI (s.2.1 + 1)), (s.2.2 ++ [(UInt8.ofBitVec ((s.1 % (256#64)).setWidth 8))])))) else none) else (some (.brk s.2.2))) else (some (.brk s.2.2))) :
    iterB f fuel (v, 0, ([] ++ a)) = some (a ++ le8 v (w8 k).toNat) := by
  have hw : w8 k = if 8 < k then 8 else if k > 0 then k else 0 := by unfold w8; split <;> split <;> omega
  obtain ⟨b, hb, rfl⟩ := iterB_inv (f := f) (P := fun s => ∃ i : Nat, (i : Int) ≤ w8 k ∧ s = (v >>> (8 * i), (i : Int), a ++ le8 v i)) (μ := fun s => 8 - s.2.1.toNat) (R := fun b => b = a ++ le8 v (w8 k).toNat) (by
    rintro _ ⟨i, hi, rfl⟩
    rw [hf]
    dsimp only
    by_cases h1 : (i : Int) < k
    · rw [if_pos (decide_eq_true h1)]
      by_cases h2 : (i : Int) < 8
      · left
        rw [if_pos (decide_eq_true h2), if_pos (by simp [le8_len]; omega), shr8, mod8, wI_id (by omega) (by omega)]
        refine ⟨_, rfl, ⟨i + 1, ?_, ?_⟩, ?_⟩
        · rw [hw]; split <;> (try split) <;> omega
        · rw [le8_succ, List.append_assoc]; rfl
        · show 8 - ((i : Int) + 1).toNat < 8 - (i : Int).toNat; omega
      · right
        rw [if_neg (by rw [decide_eq_true_eq]; exact h2)]
        refine ⟨_, rfl, ?_⟩
        have : (w8 k).toNat = i := by
          rw [hw] at hi ⊢
          split at hi <;> split <;> (try split) <;> omega
        rw [this]
    · right
      rw [if_neg (by rw [decide_eq_true_eq]; exact h1)]
      refine ⟨_, rfl, ?_⟩
      have : (w8 k).toNat = i := by
        rw [hw] at hi ⊢
        split at hi
        · omega
        · split at hi <;> omega
      rw [this]) fuel (v, 0, ([] ++ a)) ⟨0, (w8_le k).1, by simp [le8]⟩ (lt_fuel (by show 8 - 0 ≤ _; omega))
  exact hb


def vn (l : List UInt8) : Nat → BitVec 64
  | 0 => 0#64
  | i + 1 => vn l i ||| ((l.getD i 0).toBitVec.setWidth 64 <<< (8 * i))
def ns (l : List UInt8) : Nat → Nat
  | 0 => 0
  | i + 1 => ns l i + (l.getD i 0).toNat * 2 ^ (8 * i)
theorem ns_lt (l : List UInt8) : ∀ i, ns l i < 2 ^ (8 * i)
  | 0 => by simp [ns]
  | i + 1 => by
    have := ns_lt l i
    have hb : (l.getD i 0).toNat < 256 := UInt8.toNat_lt _
    rw [ns, show 8 * (i + 1) = 8 * i + 8 from by omega, Nat.pow_add]
    have h2 : (l.getD i 0).toNat * 2 ^ (8 * i) ≤ 255 * 2 ^ (8 * i) := Nat.mul_le_mul_right _ (by omega)
    have : (2 : Nat) ^ 8 = 256 := rfl
    omega
theorem vn_ns (l : List UInt8) : ∀ i, i ≤ 8 → (vn l i).toNat = ns l i
  | 0, _ => rfl
  | i + 1, h => by
    have ih := vn_ns l i (by omega)
    have hlt := ns_lt l i
    have hlt1 := ns_lt l (i + 1)
    have hb : (l.getD i 0).toNat < 256 := UInt8.toNat_lt _
    rw [vn, BitVec.toNat_or, ih, BitVec.toNat_shiftLeft, BitVec.toNat_setWidth]
    have e1 : (l.getD i 0).toBitVec.toNat % 2 ^ 64 = (l.getD i 0).toNat := Nat.mod_eq_of_lt (Nat.lt_trans (show (l.getD i 0).toBitVec.toNat < 256 from hb) (by decide))
    rw [e1, Nat.shiftLeft_eq]
    have hp : (2 : Nat) ^ (8 * (i + 1)) ≤ 2 ^ 64 := Nat.pow_le_pow_right (by decide) (by omega)
    rw [ns] at hlt1
    rw [Nat.mod_eq_of_lt (by omega), ← Nat.shiftLeft_eq, Nat.or_comm, ← Nat.shiftLeft_add_eq_or_of_lt hlt, ns, Nat.shiftLeft_eq, Nat.add_comm]

theorem place_m (p : Nat) (d : List UInt8) (h : p ≤ d.length) (hd : d.length ≤ 100000000) : m72_enc_New_1s 0 p d = some ((p : Int), d.drop p, (p : Int)) := by
  unfold m72_enc_New_1s
  rw [Int.add_zero, wI_id (by omega) (by omega), cut_of (by omega) (by omega) (Int.le_refl _)]
  simp only [Option.bind_some]
  rw [Int.toNat_natCast, Int.toNat_natCast, List.take_of_length_le (by rw [List.length_drop]; exact Nat.le_refl _)]
theorem step_m (n p : Nat) (d : List UInt8) (h : p + n ≤ d.length) (hd : d.length ≤ 100000000) : m72_enc_New_1s n p d = some (((p + n : Nat) : Int), d.drop (p + n), ((p + n : Nat) : Int)) := by
  unfold m72_enc_New_1s
  rw [wI_id (by omega) (by omega), show (p : Int) + n = ((p + n : Nat) : Int) from by omega, cut_of (by omega) (by omega) (Int.le_refl _)]
  simp only [Option.bind_some]
  rw [Int.toNat_natCast, Int.toNat_natCast, List.take_of_length_le (by rw [List.length_drop]; exact Nat.le_refl _)]
theorem places_m (e : Int) (p : Nat) (d : List UInt8) (h : p ≤ d.length) (hd : d.length ≤ 100000000) : m78_enc_Reader_places e p d = some ((p : Int), d.drop p, (p : Int)) := by
  unfold m78_enc_Reader_places m78_enc_Reader_places_k1
  rw [place_m p d h hd]
  rfl
theorem take_m (n p : Nat) (d : List UInt8) (h : p + n ≤ d.length) (hd : d.length ≤ 100000000) : m74_enc_Reader_takes n 0 p d = some ((d.drop p).take n, 0, ((p + n : Nat) : Int)) := by
  unfold m74_enc_Reader_takes
  rw [places_m 0 p d (by omega) hd]
  simp only [Option.bind_some]
  rw [if_neg (by rw [decide_eq_true_eq, List.length_drop]; omega)]
  have hk : ∀ x : Int, m74_enc_Reader_takes_k3 (n : Int) 0 ((p : Int), d.drop p, (p : Int)) x = some ((d.drop p).take n, 0, x) := fun x => by
    unfold m74_enc_Reader_takes_k3
    rw [cut_of (Int.le_refl _) (by omega) (by rw [List.length_drop]; omega)]
    simp
  by_cases hn : 0 < n
  · rw [if_pos (decide_eq_true (by omega)), step_m n p d h hd]
    simp only [Option.bind_some]
    rw [hk]
  · have e : n = 0 := by omega
    rw [if_neg (by rw [decide_eq_true_eq]; omega), hk, e, Nat.add_zero]
theorem U_read (n p : Nat) (d : List UInt8) (h1 : 1 ≤ n) (h8 : n ≤ 8) (h : p + n ≤ d.length) (hd : d.length ≤ 100000000) : m61_enc_Reader_Us n 0 p d = some (vn ((d.drop p).take n) n, 0, ((p + n : Nat) : Int)) := by
  unfold m61_enc_Reader_Us m62_enc_Reader_Errs
  simp only [Option.bind_some]
  rw [if_neg (by simp), if_neg (by rw [decide_eq_true_eq]; omega), if_neg (by rw [decide_eq_true_eq]; omega)]
  unfold m61_enc_Reader_Us_k2
  rw [take_m n p d h hd]
  simp only [Option.bind_some]
  have hl : ((d.drop p).take n).length = n := by rw [List.length_take, List.length_drop]; omega
  generalize (d.drop p).take n = l at hl
  obtain ⟨b, hb, rfl⟩ := iterB_inv (f := m61_enc_Reader_Us_s5 (l, 0, ((p + n : Nat) : Int))) (P := fun s => ∃ i : Nat, i ≤ n ∧ s = (vn l i, (i : Int))) (μ := fun s => 8 - s.2.toNat) (R := fun b => b = vn l n) (by
    rintro _ ⟨i, hi, rfl⟩
    unfold m61_enc_Reader_Us_s5
    dsimp only
    rw [hl]
    rcases Nat.lt_or_ge i n with hlt | hge
    · left
      refine ⟨(vn l (i + 1), ((i + 1 : Nat) : Int)), ?_, ⟨i + 1, hlt, rfl⟩, by simp only [Int.toNat_natCast]; omega⟩
      have e := List.getElem?_eq_getElem (show i < l.length by omega)
      rw [if_pos (decide_eq_true (by omega)), idx_nat, e, Option.bind_some, wI_id (n := 8 * (i : Int)) (by omega) (by omega), if_pos (by omega), wI_id (by omega) (by omega), show (8 * (i : Int)).toNat = 8 * i from by omega, vn, List.getD_eq_getElem?_getD, e]
      rfl
    · right
      have e : i = n := by omega
      subst e
      rw [if_neg (by rw [decide_eq_true_eq]; exact Int.lt_irrefl _)]
      exact ⟨_, rfl, rfl⟩) fuel (0#64, 0) ⟨0, Nat.zero_le _, rfl⟩ (lt_fuel (by show 8 - 0 ≤ _; omega))
  rw [hb]
  rfl


theorem take_short (n : Int) (p : Nat) (d : List UInt8) (h : p ≤ d.length) (hs : (d.length : Int) < p + n) (hd : d.length ≤ 100000000) : m74_enc_Reader_takes n 0 p d = some ([], 2, (p : Int)) := by
  unfold m74_enc_Reader_takes m73_enc_Reader_Fails
  rw [places_m 0 p d h hd]
  simp only [Option.bind_some]
  rw [if_pos (by rw [decide_eq_true_eq, List.length_drop]; omega), if_pos (by decide)]
  rfl
theorem U_any (n e : Int) (p : Nat) (d : List UInt8) (h : p ≤ d.length) (hd : d.length ≤ 100000000) :
    ∃ v e' p', m61_enc_Reader_Us n e p d = some (v, e', ((p' : Nat) : Int)) ∧ p' ≤ d.length ∧ (e ≠ 0 → v = 0#64 ∧ e' = e ∧ p' = p) ∧ v.toNat < 2 ^ (8 * n.toNat) ∧ (e' ≠ 0 → v = 0#64) := by
  by_cases he : e = 0
  · subst he
    by_cases h1 : n < 1
    · refine ⟨0#64, 1, p, ?_, h, fun h => absurd rfl h, Nat.pow_pos (by decide), fun _ => rfl⟩
      unfold m61_enc_Reader_Us m62_enc_Reader_Errs m73_enc_Reader_Fails
      simp only [Option.bind_some]
      rw [if_neg (by simp), if_pos (decide_eq_true h1), if_pos (by decide)]
      rfl
    · by_cases h8 : 8 < n
      · refine ⟨0#64, 1, p, ?_, h, fun h => absurd rfl h, Nat.pow_pos (by decide), fun _ => rfl⟩
        unfold m61_enc_Reader_Us m62_enc_Reader_Errs m73_enc_Reader_Fails
        simp only [Option.bind_some]
        rw [if_neg (by simp), if_neg (by rw [decide_eq_true_eq]; exact h1), if_pos (decide_eq_true h8), if_pos (by decide)]
        rfl
      · obtain ⟨m, rfl⟩ : ∃ m : Nat, n = m := ⟨n.toNat, by omega⟩
        by_cases hl : p + m ≤ d.length
        · refine ⟨_, _, p + m, U_read m p d (by omega) (by omega) hl hd, hl, fun h => absurd rfl h, ?_, fun h => absurd rfl h⟩
          rw [vn_ns _ _ (by omega), Int.toNat_natCast]
          exact ns_lt _ _
        · refine ⟨0#64, 2, p, ?_, h, fun h => absurd rfl h, Nat.pow_pos (by decide), fun _ => rfl⟩
          unfold m61_enc_Reader_Us m62_enc_Reader_Errs
          simp only [Option.bind_some]
          rw [if_neg (by simp), if_neg (by rw [decide_eq_true_eq]; exact h1), if_neg (by rw [decide_eq_true_eq]; exact h8)]
          unfold m61_enc_Reader_Us_k2
          rw [take_short _ _ _ h (by omega) hd]
          rfl
  · refine ⟨0#64, e, p, ?_, h, fun _ => ⟨rfl, rfl, rfl⟩, Nat.pow_pos (by decide), fun _ => rfl⟩
    unfold m61_enc_Reader_Us m62_enc_Reader_Errs
    simp only [Option.bind_some]
    rw [if_pos (by simp [he])]


theorem ns_le8 (v : BitVec 64) (W : Nat) : ∀ i, i ≤ W → ns (le8 v W) i = v.toNat % 2 ^ (8 * i)
  | 0, _ => by simp [ns, Nat.mod_one]
  | i + 1, h => by
    rw [ns, ns_le8 v W i (by omega)]
    have e : (le8 v W).getD i 0 = UInt8.ofBitVec ((v >>> (8 * i)).setWidth 8) := by
      rw [List.getD_eq_getElem?_getD, List.getElem?_eq_getElem (by rw [le8_len]; omega)]
      simp [le8]
    rw [e]
    have e2 : (UInt8.ofBitVec ((v >>> (8 * i)).setWidth 8)).toNat = v.toNat / 2 ^ (8 * i) % 256 := by
      show ((v >>> (8 * i)).setWidth 8).toNat = _
      rw [BitVec.toNat_setWidth, BitVec.toNat_ushiftRight, Nat.shiftRight_eq_div_pow]
    rw [e2, show 8 * (i + 1) = 8 * i + 8 from by omega, Nat.pow_add, Nat.mod_mul, Nat.mul_comm (v.toNat / 2 ^ (8 * i) % 256)]
theorem vn_le8 (v : BitVec 64) (W : Nat) (h : W ≤ 8) : (vn (le8 v W) W).toNat = v.toNat % 2 ^ (8 * W) := by
  rw [vn_ns _ _ h, ns_le8 v W W (Nat.le_refl _)]

def en1 (W : Nat) (xs : List (BitVec 64)) : List UInt8 := xs.flatMap fun v => le8 v W
def ls2 (u : List UInt8) : List UInt8 := le8 (BitVec.ofNat 64 u.length) 2 ++ u
def en2 (xs : List (List UInt8)) : List UInt8 := xs.flatMap ls2
theorem en1_len (W : Nat) (xs : List (BitVec 64)) : (en1 W xs).length = xs.length * W := by
  induction xs with
  | nil => simp [en1]
  | cons x r ih => rw [show en1 W (x :: r) = le8 x W ++ en1 W r from rfl, List.length_append, le8_len, ih, List.length_cons, Nat.add_mul]; omega
theorem en1_take (W : Nat) (xs : List (BitVec 64)) {i : Nat} (hi : i < xs.length) : en1 W (xs.take (i + 1)) = en1 W (xs.take i) ++ le8 xs[i] W := by
  unfold en1
  rw [List.take_succ_eq_append_getElem hi, List.flatMap_append]
  simp
theorem en2_take (xs : List (List UInt8)) {i : Nat} (hi : i < xs.length) : en2 (xs.take (i + 1)) = en2 (xs.take i) ++ ls2 xs[i] := by
  unfold en2
  rw [List.take_succ_eq_append_getElem hi, List.flatMap_append]
  simp
/-- What stands at a place. -/
theorem mid {a b c d : List UInt8} (h : d = a ++ b ++ c) : (d.drop a.length).take b.length = b := by
  rw [h, List.append_assoc, List.drop_left, List.take_left]
theorem en1_pre (W : Nat) (xs : List (BitVec 64)) (i : Nat) : en1 W xs = en1 W (xs.take i) ++ en1 W (xs.drop i) := by
  unfold en1
  rw [← List.flatMap_append, List.take_append_drop]
theorem en2_pre (xs : List (List UInt8)) (i : Nat) : en2 xs = en2 (xs.take i) ++ en2 (xs.drop i) := by
  unfold en2
  rw [← List.flatMap_append, List.take_append_drop]
theorem en1_at (W : Nat) (xs : List (BitVec 64)) (r : List UInt8) {i : Nat} (hi : i < xs.length) : en1 W xs ++ r = en1 W (xs.take i) ++ le8 xs[i] W ++ (en1 W (xs.drop (i + 1)) ++ r) := by
  rw [en1_pre W xs (i + 1), en1_take W xs hi]
  simp
theorem en2_at (xs : List (List UInt8)) (r : List UInt8) {i : Nat} (hi : i < xs.length) : r ++ en2 xs = (r ++ en2 (xs.take i)) ++ ls2 xs[i] ++ en2 (xs.drop (i + 1)) := by
  rw [en2_pre xs (i + 1), en2_take xs hi]
  simp
theorem take_mid {d : List UInt8} {p n m : Nat} (h : p + n ≤ m) : ((d.take m).drop p).take n = (d.drop p).take n := by
  rw [List.drop_take, List.take_take, Nat.min_eq_left (by omega)]



/-- On a row that was cut short a reader is where it should be, or has found the end. -/
theorem U_cut {W p : Nat} {d : List UInt8} (h1 : 1 ≤ W) (h8 : W ≤ 8) (hd : d.length ≤ 100000000) (e : Int) (q : Nat) (hq : q ≤ d.length) (hs : (e = 0 ∧ q = p) ∨ e = 2) :
    ∃ v e' q', m61_enc_Reader_Us W e q d = some (v, e', ((q' : Nat) : Int)) ∧ q' ≤ d.length ∧ ((e' = 0 ∧ q' = p + W) ∨ e' = 2) := by
  rcases hs with ⟨rfl, rfl⟩ | rfl
  · by_cases hl : q + W ≤ d.length
    · exact ⟨_, _, _, U_read W q d h1 h8 hl hd, hl, .inl ⟨rfl, rfl⟩⟩
    · refine ⟨0#64, 2, q, ?_, hq, .inr rfl⟩
      unfold m61_enc_Reader_Us m62_enc_Reader_Errs
      simp only [Option.bind_some]
      rw [if_neg (by simp), if_neg (by rw [decide_eq_true_eq]; omega), if_neg (by rw [decide_eq_true_eq]; omega)]
      unfold m61_enc_Reader_Us_k2
      rw [take_short _ _ _ hq (by omega) hd]
      rfl
  · obtain ⟨v, e', q', hu, hq', hk, _⟩ := U_any W 2 q d hq hd
    obtain ⟨_, he, _⟩ := hk (by decide)
    exact ⟨v, e', q', hu, hq', .inr he⟩
theorem mask_m (v : BitVec 64) (n : Nat) (hn : n < 64) : (v &&& ((1#64 <<< n) - 1#64)).toNat = v.toNat % 2 ^ n := by
  have hp : (2 : Nat) ^ n < 2 ^ 64 := Nat.pow_lt_pow_right (by decide) hn
  have hpos : 0 < (2 : Nat) ^ n := Nat.pow_pos (by decide)
  have e : ((1#64 <<< n) - 1#64).toNat = 2 ^ n - 1 := by
    rw [BitVec.toNat_sub, BitVec.toNat_shiftLeft, Nat.shiftLeft_eq]
    show (2 ^ 64 - 1 + (1 * 2 ^ n) % 2 ^ 64) % 2 ^ 64 = 2 ^ n - 1
    rw [Nat.one_mul, Nat.mod_eq_of_lt hp]
    omega
  rw [BitVec.toNat_and, e, Nat.and_two_pow_sub_one_eq_mod]
theorem w_m (a : Int) : ∃ W : Nat, 1 ≤ W ∧ W ≤ 8 ∧ wI (1 + wI ((BitVec.ofInt 64 a &&& BitVec.ofInt 64 7).toNat : Int)) = (W : Int) := by
  have h : (BitVec.ofInt 64 a &&& BitVec.ofInt 64 7).toNat ≤ 7 := by
    rw [BitVec.toNat_and]
    exact Nat.le_trans Nat.and_le_right (by decide)
  refine ⟨1 + (BitVec.ofInt 64 a &&& BitVec.ofInt 64 7).toNat, by omega, by omega, ?_⟩
  rw [wI_id (n := ((BitVec.ofInt 64 a &&& BitVec.ofInt 64 7).toNat : Int)) (by omega) (by omega), wI_id (by omega) (by omega)]
  omega

end Go.Proofs.YtlnpkincpgbmcaaDoor.Abs
