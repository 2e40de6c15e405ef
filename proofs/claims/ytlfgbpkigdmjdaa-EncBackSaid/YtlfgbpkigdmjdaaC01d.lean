/-
  What was laid out is read again.
-/
import Derived.Test.YtlfgbpkigdmjdaaC01c
namespace Go.Proofs.Ytlfgbpkigdmjdaa.Abs

theorem ns_le8 (v : BitVec 64) (W : Nat) : ∀ i, i ≤ W → ns (le8 v W) i = v.toNat % 2 ^ (8 * i)
  | 0, _ => by simp [ns, Nat.mod_one]
  | i + 1, h => by
    rw [ns, ns_le8 v W i (by omega)]
    have e : (le8 v W).getD i 0 = UInt8.ofBitVec ((v >>> (8 * i)).setWidth 8) := by
      rw [List.getD_eq_getElem?_getD, List.getElem?_eq_getElem (by rw [le8_len]; omega)]
      simp [le8]
    rw [e]
    have e2 : (UInt8.ofBitVec ((v >>> (8 * i)).setWidth 8)).toNat = v.toNat / 2 ^ (8 * i) % 256 := by
      show ((v >>> (8 * i)).setWidth 8).toNat = _
      rw [BitVec.toNat_setWidth, BitVec.toNat_ushiftRight, Nat.shiftRight_eq_div_pow]
    rw [e2, show 8 * (i + 1) = 8 * i + 8 from by omega, Nat.pow_add, Nat.mod_mul, Nat.mul_comm (v.toNat / 2 ^ (8 * i) % 256)]
theorem vn_le8 (v : BitVec 64) (W : Nat) (h : W ≤ 8) : (vn (le8 v W) W).toNat = v.toNat % 2 ^ (8 * W) := by
  rw [vn_ns _ _ h, ns_le8 v W W (Nat.le_refl _)]

def en1 (W : Nat) (xs : List (BitVec 64)) : List UInt8 := xs.flatMap fun v => le8 v W
def ls2 (u : List UInt8) : List UInt8 := le8 (BitVec.ofNat 64 u.length) 2 ++ u
def en2 (xs : List (List UInt8)) : List UInt8 := xs.flatMap ls2
theorem en1_len (W : Nat) (xs : List (BitVec 64)) : (en1 W xs).length = xs.length * W := by
  induction xs with
  | nil => simp [en1]
  | cons x r ih => rw [show en1 W (x :: r) = le8 x W ++ en1 W r from rfl, List.length_append, le8_len, ih, List.length_cons, Nat.add_mul]; omega
theorem en1_take (W : Nat) (xs : List (BitVec 64)) {i : Nat} (hi : i < xs.length) : en1 W (xs.take (i + 1)) = en1 W (xs.take i) ++ le8 xs[i] W := by
  unfold en1
  rw [List.take_succ_eq_append_getElem hi, List.flatMap_append]
  simp
theorem en2_take (xs : List (List UInt8)) {i : Nat} (hi : i < xs.length) : en2 (xs.take (i + 1)) = en2 (xs.take i) ++ ls2 xs[i] := by
  unfold en2
  rw [List.take_succ_eq_append_getElem hi, List.flatMap_append]
  simp
/-- What stands at a place. -/
theorem mid {a b c d : List UInt8} (h : d = a ++ b ++ c) : (d.drop a.length).take b.length = b := by
  rw [h, List.append_assoc, List.drop_left, List.take_left]
theorem en1_pre (W : Nat) (xs : List (BitVec 64)) (i : Nat) : en1 W xs = en1 W (xs.take i) ++ en1 W (xs.drop i) := by
  unfold en1
  rw [← List.flatMap_append, List.take_append_drop]
theorem en2_pre (xs : List (List UInt8)) (i : Nat) : en2 xs = en2 (xs.take i) ++ en2 (xs.drop i) := by
  unfold en2
  rw [← List.flatMap_append, List.take_append_drop]
theorem en1_at (W : Nat) (xs : List (BitVec 64)) (r : List UInt8) {i : Nat} (hi : i < xs.length) : en1 W xs ++ r = en1 W (xs.take i) ++ le8 xs[i] W ++ (en1 W (xs.drop (i + 1)) ++ r) := by
  rw [en1_pre W xs (i + 1), en1_take W xs hi]
  simp
theorem en2_at (xs : List (List UInt8)) (r : List UInt8) {i : Nat} (hi : i < xs.length) : r ++ en2 xs = (r ++ en2 (xs.take i)) ++ ls2 xs[i] ++ en2 (xs.drop (i + 1)) := by
  rw [en2_pre xs (i + 1), en2_take xs hi]
  simp
theorem take_mid {d : List UInt8} {p n m : Nat} (h : p + n ≤ m) : ((d.take m).drop p).take n = (d.drop p).take n := by
  rw [List.drop_take, List.take_take, Nat.min_eq_left (by omega)]

theorem List_read {u : List UInt8} {p : Nat} {d c : List UInt8} (hu : u.length ≤ 300) (hd : d = c ++ ls2 u ++ d.drop (p + (ls2 u).length)) (hp : c.length = p) (hl : d.length ≤ 100000000) :
    m18_enc_Reader_Lists 300 0 p d = some (u, 0, ((p + (ls2 u).length : Nat) : Int)) := by
  have hll : (ls2 u).length = 2 + u.length := by simp [ls2, le8_len]
  have hdl : p + (2 + u.length) ≤ d.length := by
    have := congrArg List.length hd
    rw [List.length_append, List.length_append, hll, hp] at this
    omega
  have h1 : (d.drop p).take 2 = le8 (BitVec.ofNat 64 u.length) 2 := by
    have := mid (a := c) (b := le8 (BitVec.ofNat 64 u.length) 2) (c := u ++ d.drop (p + (ls2 u).length)) (d := d) (hd.trans (by simp [ls2]))
    rwa [hp, le8_len] at this
  have h2 : (d.drop (p + 2)).take u.length = u := by
    have := mid (a := c ++ le8 (BitVec.ofNat 64 u.length) 2) (b := u) (c := d.drop (p + (ls2 u).length)) (d := d) (hd.trans (by simp [ls2]))
    rwa [List.length_append, hp, le8_len] at this
  unfold m18_enc_Reader_Lists m24_enc_Reader_Errs
  rw [show (2 : Int) = ((2 : Nat) : Int) from rfl, U_read 2 p d (by decide) (by decide) (by omega) hl, h1]
  simp only [Option.bind_some]
  have hv : (vn (le8 (BitVec.ofNat 64 u.length) 2) 2).toNat = u.length := by
    rw [vn_le8 _ _ (by decide), BitVec.toNat_ofNat, Nat.mod_eq_of_lt (show u.length < 2 ^ 64 by omega)]
    exact Nat.mod_eq_of_lt (by show u.length < 65536; omega)
  rw [if_neg (by simp), hv, wI_id (by omega) (by omega), if_neg (by rw [decide_eq_true_eq]; omega), take_m u.length (p + 2) d (by omega) hl, h2]
  simp only [Option.bind_some]
  rw [m33_slices_Cloneo_m _ (by omega), hll, show p + (2 + u.length) = p + 2 + u.length from by omega]
  rfl
end Go.Proofs.Ytlfgbpkigdmjdaa.Abs
