/- . -/
import Derived.Test.YtbjckaahoacbfaaGreatDoorSS21
set_option linter.unusedVariables false
set_option linter.unusedSimpArgs false
namespace Go.Proofs.YtbjckaahoacbfaaGreatDoor.Abs
def le8 (v : BitVec 64) (n : Nat) : List UInt8 := (List.range n).map fun i => UInt8.ofBitVec ((v >>> (8 * i)).setWidth 8)
theorem Gb (v : BitVec 64) (n : Nat) : (le8 v n).length = n := by simp [le8]
theorem Ani (v : BitVec 64) (n : Nat) : le8 v (n + 1) = le8 v n ++ [UInt8.ofBitVec ((v >>> (8 * n)).setWidth 8)] := by
 simp [le8, List.range_succ]
abbrev w8 (n : Int) : Int := if (if 8 < n then 8 else n) > 0 then (if 8 < n then 8 else n) else 0
theorem Avz (n : Int) : 0 ≤ w8 n ∧ w8 n ≤ 8 := by
 unfold w8
 split <;> split <;> omega
theorem U_m (a : List UInt8) (v : BitVec 64) (k : Int) (h : a.length ≤ 1000000) : Et a v k = some (a ++ le8 v (w8 k).toNat) := by
 have hw := Avz k
 generalize hn : w8 k = n at hw
 unfold Et
 have hn' : (if (if 8 < k then 8 else k) > 0 then (if 8 < k then 8 else k) else 0) = n := hn
 rw [hn', if_pos ⟨hw.1, Int.le_refl _, by omega⟩]
 obtain ⟨b, hb, rfl⟩ := Ft (f := Ow v k) (P := fun s => ∃ i : Nat, i ≤ n.toNat ∧ s = ((i : Int), le8 v i ++ List.replicate (n.toNat - i) 0)) (μ := fun s => 8 - s.1.toNat) (R := fun b => b = le8 v n.toNat) (by
  rintro _ ⟨i, hi, rfl⟩
  unfold Ow
  rw [hn', List.length_replicate]
  rcases Nat.lt_or_ge i n.toNat with hlt | hge
  ·left
   refine ⟨(((i + 1 : Nat) : Int), le8 v (i + 1) ++ List.replicate (n.toNat - (i + 1)) 0), ?_, ⟨i + 1, hlt, rfl⟩, by simp only [Int.toNat_natCast]; omega⟩
   rw [if_pos (decide_eq_true (by show (i : Int) < (n.toNat : Int); omega))]
   dsimp only
   rw [Dl (n := 8 * (i : Int)) (by omega) (by omega), if_pos (by omega), Dl (by omega) (by omega), Ed, List.getElem?_append_right (by rw [Gb]; exact Nat.le_refl _), Gb, Nat.sub_self]
   rw [show n.toNat - i = (n.toNat - (i + 1)) + 1 from by omega, List.replicate_succ, List.getElem?_cons_zero, Option.bind_some]
   rw [show (8 * (i : Int)).toNat = 8 * i from by omega, Int.toNat_natCast, List.set_append_right _ _ (by rw [Gb]; exact Nat.le_refl _), Gb, Nat.sub_self, List.set_cons_zero, Ani, List.append_assoc]
   rfl
  ·right
   have e : i = n.toNat := by omega
   subst e
   rw [if_neg (by rw [decide_eq_true_eq]; exact Int.lt_irrefl _)]
   exact ⟨_, rfl, by rw [Nat.sub_self]; simp⟩) fuel (0, List.replicate n.toNat (0 : UInt8)) ⟨0, Nat.zero_le _, by simp [le8]⟩ (Gz (by show 8 - 0 ≤ _; omega))
 rw [hb, Option.bind_some]
 unfold Qp
 rw [Jp _ (by simp [Gb]; omega) (by simp)]
 simp
theorem Asi (a x : List UInt8) (h : a.length ≤ 500000) : Gk a x = some (a ++ le8 (BitVec.ofNat 64 (min 65535 x.length)) 2 ++ x.take (min 65535 x.length)) := by
 unfold Gk
 have e : (if 65535 < (x.length : Int) then 65535 else (x.length : Int)) = ((min 65535 x.length : Nat) : Int) := by
  split <;> omega
 rw [e, Qh (Int.le_refl _) (by omega) (by omega)]
 simp only [Option.bind_some]
 have e2 : (x.drop (0 : Int).toNat).take (((min 65535 x.length : Nat) : Int).toNat - (0 : Int).toNat) = x.take (min 65535 x.length) := by
  simp
 rw [e2, List.length_take, show min (min 65535 x.length) x.length = min 65535 x.length from by omega, U_m _ _ _ (by omega)]
 simp only [Option.bind_some]
 rw [Jp _ (by simp [Gb, w8]; omega) (by simp)]
 simp only [Option.bind_some]
 rw [show (w8 2).toNat = 2 from rfl, BitVec.ofInt_natCast]
 simp
def vn (l : List UInt8) : Nat → BitVec 64
 | 0 => 0#64
 | i + 1 => vn l i ||| ((l.getD i 0).toBitVec.setWidth 64 <<< (8 * i))
def ns (l : List UInt8) : Nat → Nat
 | 0 => 0
 | i + 1 => ns l i + (l.getD i 0).toNat * 2 ^ (8 * i)
theorem Ab5 (l : List UInt8) : ∀ i, ns l i < 2 ^ (8 * i)
 | 0 => by simp [ns]
 | i + 1 => by
  have := Ab5 l i
  have hb : (l.getD i 0).toNat < 256 := UInt8.toNat_lt _
  rw [ns, show 8 * (i + 1) = 8 * i + 8 from by omega, Nat.pow_add]
  have h2 : (l.getD i 0).toNat * 2 ^ (8 * i) ≤ 255 * 2 ^ (8 * i) := Nat.mul_le_mul_right _ (by omega)
  have : (2 : Nat) ^ 8 = 256 := rfl
  omega
theorem Acl (l : List UInt8) : ∀ i, i ≤ 8 → (vn l i).toNat = ns l i
 | 0, _ => rfl
 | i + 1, h => by
  have ih := Acl l i (by omega)
  have hlt := Ab5 l i
  have hlt1 := Ab5 l (i + 1)
  have hb : (l.getD i 0).toNat < 256 := UInt8.toNat_lt _
  rw [vn, BitVec.toNat_or, ih, BitVec.toNat_shiftLeft, BitVec.toNat_setWidth]
  have e1 : (l.getD i 0).toBitVec.toNat % 2 ^ 64 = (l.getD i 0).toNat := Nat.mod_eq_of_lt (Nat.lt_trans (show (l.getD i 0).toBitVec.toNat < 256 from hb) (by decide))
  rw [e1, Nat.shiftLeft_eq]
  have hp : (2 : Nat) ^ (8 * (i + 1)) ≤ 2 ^ 64 := Nat.pow_le_pow_right (by decide) (by omega)
  rw [ns] at hlt1
  rw [Nat.mod_eq_of_lt (by omega), ← Nat.shiftLeft_eq, Nat.or_comm, ← Nat.shiftLeft_add_eq_or_of_lt hlt, ns, Nat.shiftLeft_eq, Nat.add_comm]
theorem Apw (p : Nat) (d : List UInt8) (h : p ≤ d.length) (hd : d.length ≤ 100000000) : F9 0 p d = some ((p : Int), d.drop p, (p : Int)) := by
 unfold F9
 rw [Int.add_zero, Dl (by omega) (by omega), Qh (by omega) (by omega) (Int.le_refl _)]
 simp only [Option.bind_some]
 rw [Int.toNat_natCast, Int.toNat_natCast, List.take_of_length_le (by rw [List.length_drop]; exact Nat.le_refl _)]
theorem Ato (n p : Nat) (d : List UInt8) (h : p + n ≤ d.length) (hd : d.length ≤ 100000000) : F9 n p d = some (((p + n : Nat) : Int), d.drop (p + n), ((p + n : Nat) : Int)) := by
 unfold F9
 rw [Dl (by omega) (by omega), show (p : Int) + n = ((p + n : Nat) : Int) from by omega, Qh (by omega) (by omega) (Int.le_refl _)]
 simp only [Option.bind_some]
 rw [Int.toNat_natCast, Int.toNat_natCast, List.take_of_length_le (by rw [List.length_drop]; exact Nat.le_refl _)]
theorem Abc (e : Int) (p : Nat) (d : List UInt8) (h : p ≤ d.length) (hd : d.length ≤ 100000000) : D7 e p d = some ((p : Int), d.drop p, (p : Int)) := by
 unfold D7 Fa
 rw [Apw p d h hd]
 rfl
theorem Ags (n p : Nat) (d : List UInt8) (h : p + n ≤ d.length) (hd : d.length ≤ 100000000) : Cr n 0 p d = some ((d.drop p).take n, 0, ((p + n : Nat) : Int)) := by
 unfold Cr
 rw [Abc 0 p d (by omega) hd]
 simp only [Option.bind_some]
 rw [if_neg (by rw [decide_eq_true_eq, List.length_drop]; omega)]
 have hk : ∀ x : Int, Dj (n : Int) 0 ((p : Int), d.drop p, (p : Int)) x = some ((d.drop p).take n, 0, x) := fun x => by
  unfold Dj
  rw [Qh (Int.le_refl _) (by omega) (by rw [List.length_drop]; omega)]
  simp
 by_cases hn : 0 < n
 ·rw [if_pos (decide_eq_true (by omega)), Ato n p d h hd]
  simp only [Option.bind_some]
  rw [hk]
 ·have e : n = 0 := by omega
  rw [if_neg (by rw [decide_eq_true_eq]; omega), hk, e, Nat.add_zero]
theorem Af6 (n p : Nat) (d : List UInt8) (h1 : 1 ≤ n) (h8 : n ≤ 8) (h : p + n ≤ d.length) (hd : d.length ≤ 100000000) : Ax n 0 p d = some (vn ((d.drop p).take n) n, 0, ((p + n : Nat) : Int)) := by
 unfold Ax Bo
 simp only [Option.bind_some]
 rw [if_neg (by simp), if_neg (by rw [decide_eq_true_eq]; omega), if_neg (by rw [decide_eq_true_eq]; omega)]
 unfold D4
 rw [Ags n p d h hd]
 simp only [Option.bind_some]
 have hl : ((d.drop p).take n).length = n := by rw [List.length_take, List.length_drop]; omega
 generalize (d.drop p).take n = l at hl
 obtain ⟨b, hb, rfl⟩ := Ft (f := Ex (l, 0, ((p + n : Nat) : Int))) (P := fun s => ∃ i : Nat, i ≤ n ∧ s = (vn l i, (i : Int))) (μ := fun s => 8 - s.2.toNat) (R := fun b => b = vn l n) (by
  rintro _ ⟨i, hi, rfl⟩
  unfold Ex
  dsimp only
  rw [hl]
  rcases Nat.lt_or_ge i n with hlt | hge
  ·left
   refine ⟨(vn l (i + 1), ((i + 1 : Nat) : Int)), ?_, ⟨i + 1, hlt, rfl⟩, by simp only [Int.toNat_natCast]; omega⟩
   have e := List.getElem?_eq_getElem (show i < l.length by omega)
   rw [if_pos (decide_eq_true (by omega)), Ed, e, Option.bind_some, Dl (n := 8 * (i : Int)) (by omega) (by omega), if_pos (by omega), Dl (by omega) (by omega), show (8 * (i : Int)).toNat = 8 * i from by omega, vn, List.getD_eq_getElem?_getD, e]
   rfl
  ·right
   have e : i = n := by omega
   subst e
   rw [if_neg (by rw [decide_eq_true_eq]; exact Int.lt_irrefl _)]
   exact ⟨_, rfl, rfl⟩) fuel (0#64, 0) ⟨0, Nat.zero_le _, rfl⟩ (Gz (by show 8 - 0 ≤ _; omega))
 rw [hb]
 rfl
theorem Tz (n : Int) (p : Nat) (d : List UInt8) (h : p ≤ d.length) (hs : (d.length : Int) < p + n) (hd : d.length ≤ 100000000) : Cr n 0 p d = some ([], 2, (p : Int)) := by
 unfold Cr B0
 rw [Abc 0 p d h hd]
 simp only [Option.bind_some]
 rw [if_pos (by rw [decide_eq_true_eq, List.length_drop]; omega), if_pos (by decide)]
 rfl
theorem Avm (n e : Int) (p : Nat) (d : List UInt8) (h : p ≤ d.length) (hd : d.length ≤ 100000000) :
  ∃ v e' p', Ax n e p d = some (v, e', ((p' : Nat) : Int)) ∧ p' ≤ d.length ∧ (e ≠ 0 → v = 0#64 ∧ e' = e ∧ p' = p) ∧ v.toNat < 2 ^ (8 * n.toNat) ∧ (e' ≠ 0 → v = 0#64) := by
 by_cases he : e = 0
 ·subst he
  by_cases h1 : n < 1
  ·refine ⟨0#64, 1, p, ?_, h, fun h => absurd rfl h, Nat.pow_pos (by decide), fun _ => rfl⟩
   unfold Ax Bo B0
   simp only [Option.bind_some]
   rw [if_neg (by simp), if_pos (decide_eq_true h1), if_pos (by decide)]
   rfl
  ·by_cases h8 : 8 < n
   ·refine ⟨0#64, 1, p, ?_, h, fun h => absurd rfl h, Nat.pow_pos (by decide), fun _ => rfl⟩
    unfold Ax Bo B0
    simp only [Option.bind_some]
    rw [if_neg (by simp), if_neg (by rw [decide_eq_true_eq]; exact h1), if_pos (decide_eq_true h8), if_pos (by decide)]
    rfl
   ·obtain ⟨m, rfl⟩ : ∃ m : Nat, n = m := ⟨n.toNat, by omega⟩
    by_cases hl : p + m ≤ d.length
    ·refine ⟨_, _, p + m, Af6 m p d (by omega) (by omega) hl hd, hl, fun h => absurd rfl h, ?_, fun h => absurd rfl h⟩
     rw [Acl _ _ (by omega), Int.toNat_natCast]
     exact Ab5 _ _
    ·refine ⟨0#64, 2, p, ?_, h, fun h => absurd rfl h, Nat.pow_pos (by decide), fun _ => rfl⟩
     unfold Ax Bo
     simp only [Option.bind_some]
     rw [if_neg (by simp), if_neg (by rw [decide_eq_true_eq]; exact h1), if_neg (by rw [decide_eq_true_eq]; exact h8)]
     unfold D4
     rw [Tz _ _ _ h (by omega) hd]
     rfl
 ·refine ⟨0#64, e, p, ?_, h, fun _ => ⟨rfl, rfl, rfl⟩, Nat.pow_pos (by decide), fun _ => rfl⟩
  unfold Ax Bo
  simp only [Option.bind_some]
  rw [if_pos (by simp [he])]
theorem Ao0 (v : BitVec 64) (W : Nat) : ∀ i, i ≤ W → ns (le8 v W) i = v.toNat % 2 ^ (8 * i)
 | 0, _ => by simp [ns, Nat.mod_one]
 | i + 1, h => by
  rw [ns, Ao0 v W i (by omega)]
  have e : (le8 v W).getD i 0 = UInt8.ofBitVec ((v >>> (8 * i)).setWidth 8) := by
   rw [List.getD_eq_getElem?_getD, List.getElem?_eq_getElem (by rw [Gb]; omega)]
   simp [le8]
  rw [e]
  have e2 : (UInt8.ofBitVec ((v >>> (8 * i)).setWidth 8)).toNat = v.toNat / 2 ^ (8 * i) % 256 := by
   show ((v >>> (8 * i)).setWidth 8).toNat = _
   rw [BitVec.toNat_setWidth, BitVec.toNat_ushiftRight, Nat.shiftRight_eq_div_pow]
  rw [e2, show 8 * (i + 1) = 8 * i + 8 from by omega, Nat.pow_add, Nat.mod_mul, Nat.mul_comm (v.toNat / 2 ^ (8 * i) % 256)]
theorem Ak7 (v : BitVec 64) (W : Nat) (h : W ≤ 8) : (vn (le8 v W) W).toNat = v.toNat % 2 ^ (8 * W) := by
 rw [Acl _ _ h, Ao0 v W W (Nat.le_refl _)]
def ls2 (u : List UInt8) : List UInt8 := le8 (BitVec.ofNat 64 u.length) 2 ++ u
end Go.Proofs.YtbjckaahoacbfaaGreatDoor.Abs
