/- . -/
import Derived.Test.YtbjckaahoacbfaaGreatDoorSP21e
set_option linter.unusedVariables false
set_option linter.unusedSimpArgs false
namespace Go.Proofs.YtbjckaahoacbfaaGreatDoor.Abs.Crc
abbrev W32 := BitVec 32
def pol : W32 := 3988292384#32
def stp (v : W32) : W32 := (v >>> 1) ^^^ (if v.getLsbD 0 then pol else 0#32)
def Alx : Nat → W32 → W32
 | 0, v => v
 | n + 1, v => Alx n (stp v)
def e8 (v : W32) : W32 := Alx 8 v
def fb (v : W32) (x : UInt8) : W32 := e8 (v ^^^ x.toBitVec.setWidth 32)
def fold8 (v : W32) (b : List UInt8) : W32 := b.foldl fb v
theorem A1v (a b c d : W32) : a ^^^ b ^^^ (c ^^^ d) = (a ^^^ c) ^^^ (b ^^^ d) := by
 rw [BitVec.xor_assoc, BitVec.xor_assoc]; congr 1
 rw [← BitVec.xor_assoc, ← BitVec.xor_assoc, BitVec.xor_comm b c]
theorem Ari (a b : W32) : stp (a ^^^ b) = stp a ^^^ stp b := by
 unfold stp
 rw [BitVec.ushiftRight_xor_distrib, BitVec.getLsbD_xor, A1v]
 congr 1
 cases a.getLsbD 0 <;> cases b.getLsbD 0 <;> simp
theorem Agt : ∀ (n : Nat) (a b : W32), Alx n (a ^^^ b) = Alx n a ^^^ Alx n b
 | 0, _, _ => rfl
 | n + 1, a, b => by rw [Alx, Ari, Agt n]; rfl
theorem As9 (a b : W32) : e8 (a ^^^ b) = e8 a ^^^ e8 b := Agt 8 a b
theorem Agf : ∀ (n : Nat) (v : W32), (∀ i, i < n → v.getLsbD i = false) → Alx n v = v >>> n
 | 0, v, _ => by simp [Alx]
 | n + 1, v, h => by
  have h1 : stp v = v >>> 1 := by unfold stp; rw [h 0 (by omega)]; simp
  rw [Alx, h1, Agf n _ (fun i hi => by rw [BitVec.getLsbD_ushiftRight]; exact h (1 + i) (by omega)), ← BitVec.shiftRight_add, Nat.add_comm]
def lo8 (v : W32) : W32 := (v.setWidth 8).setWidth 32
theorem Alp (v : W32) (i : Nat) : (lo8 v).getLsbD i = (decide (i < 8) && v.getLsbD i) := by
 unfold lo8
 rw [BitVec.getLsbD_setWidth, BitVec.getLsbD_setWidth]
 by_cases h : i < 8
 ·have : i < 32 := by omega
  simp [h, this]
 ·simp [h]
theorem Aiy (v : W32) : lo8 v >>> 8 = 0#32 := by
 apply BitVec.eq_of_getLsbD_eq
 intro i hi
 rw [BitVec.getLsbD_ushiftRight, Alp]
 simp; omega
theorem Ang (v : W32) : e8 v = (v >>> 8) ^^^ e8 (lo8 v) := by
 have h1 : v = (v ^^^ lo8 v) ^^^ lo8 v := by rw [BitVec.xor_assoc, BitVec.xor_self, BitVec.xor_zero]
 conv => lhs; rw [h1]
 rw [As9]
 congr 1
 show Alx 8 _ = _
 rw [Agf 8 _ (fun i hi => by rw [BitVec.getLsbD_xor, Alp]; simp [hi]), BitVec.ushiftRight_xor_distrib, Aiy, BitVec.xor_zero]
def tab : List W32 := (List.range 256).map fun i => e8 (BitVec.ofNat 32 i)
theorem Aps : Oq = some tab := by decide +kernel
theorem Apr : tab.length = 256 := by simp [tab]
theorem Aqh {i : Nat} (h : i < 256) : tab[i]? = some (e8 (BitVec.ofNat 32 i)) := by
 unfold tab
 rw [List.getElem?_map, List.getElem?_range h]; rfl
theorem Aq0 (x : BitVec 8) : idx tab (x.toNat : Int) = some (e8 (x.setWidth 32)) := by
 rw [Ed, Aqh (by have := x.isLt; omega)]
 congr 2
 apply BitVec.eq_of_toNat_eq
 rw [BitVec.toNat_ofNat, BitVec.toNat_setWidth]
theorem Arv (v : W32) (x : UInt8) : (v.setWidth 8 ^^^ x.toBitVec).setWidth 32 = lo8 (v ^^^ x.toBitVec.setWidth 32) := by
 unfold lo8
 congr 1
 rw [BitVec.setWidth_xor]
 congr 1
 simp
theorem Asy (v : W32) (x : UInt8) : (v ^^^ x.toBitVec.setWidth 32) >>> 8 = v >>> 8 := by
 rw [BitVec.ushiftRight_xor_distrib]
 have : (x.toBitVec.setWidth 32 : W32) >>> 8 = 0#32 := by
  apply BitVec.eq_of_getLsbD_eq
  intro i hi
  rw [BitVec.getLsbD_ushiftRight, BitVec.getLsbD_setWidth, BitVec.getLsbD_of_ge x.toBitVec (8 + i) (by omega)]
  simp
 rw [this, BitVec.xor_zero]
theorem Aut (v : W32) (x : UInt8) : (v >>> 8) ^^^ e8 ((v.setWidth 8 ^^^ x.toBitVec).setWidth 32) = fb v x := by
 unfold fb
 rw [Ang (v ^^^ _), Asy, Arv]
theorem more_m (s : W32) (b : List UInt8) (hb : b.length ≤ 100000) : Nl s b = some (~~~ fold8 (~~~ s) b) := by
 unfold Nl
 rw [Aps]
 simp only [Option.bind_some]
 rw [if_pos List.length_replicate, if_pos Apr]
 have := Ahy (f := J6 b tab) (fun (acc : W32) (i : Nat) => (acc, (i : Int))) b fb id (by omega) (fun acc i x hx => by
  have hi := (List.getElem?_eq_some_iff.1 hx).1
  unfold J6
  simp only
  have hlt := (acc.setWidth 8 ^^^ x.toBitVec).isLt
  rw [if_pos (decide_eq_true (by omega)), Ed, hx]
  simp only [Option.bind_some]
  rw [if_pos ⟨by omega, by omega⟩, Aq0]
  simp only [Option.bind_some]
  rw [Dl (by omega) (by omega)]
  rw [show (8 : Int).toNat = 8 from rfl, Aut]
  rfl) (fun acc => by
  unfold J6
  simp) (~~~ s)
 rw [show ((~~~ s, 0) : W32 × Int) = (~~~ s, ((0 : Nat) : Int)) from rfl, this]
 rfl
theorem of_m (b : List UInt8) (hb : b.length ≤ 100000) : Re b = some (~~~ fold8 (~~~ 0#32) b) := by
 unfold Re
 rw [more_m _ b hb]
 rfl
end Go.Proofs.YtbjckaahoacbfaaGreatDoor.Abs.Crc
