/- . -/
import Derived.Test.YtbjckaahoacbfaaGreatDoorSP21f
set_option linter.unusedVariables false
set_option linter.unusedSimpArgs false
namespace Go.Proofs.YtbjckaahoacbfaaGreatDoor.Abs.mg
theorem Atq (l : List UInt8) : ∀ (n j : Nat), j < n → ns l n / 2 ^ (8 * j) % 256 = (l.getD j 0).toNat
 | n + 1, j, h => by
  rw [ns]
  have hb : (l.getD j 0).toNat < 256 := UInt8.toNat_lt _
  by_cases hj : j = n
  ·subst hj
   have := Ab5 l j
   rw [Nat.mul_comm, Nat.add_mul_div_left _ _ (Nat.pow_pos (by decide)), Nat.div_eq_of_lt this, Nat.zero_add, Nat.mod_eq_of_lt hb]
  ·have hjn : j < n := by omega
   have e : (2 : Nat) ^ (8 * n) = 2 ^ (8 * j) * (256 * 2 ^ (8 * (n - j - 1))) := by
    rw [show (256 : Nat) = 2 ^ 8 from rfl, ← Nat.pow_add, ← Nat.pow_add]
    congr 1; omega
   rw [e, show (l.getD n 0).toNat * (2 ^ (8 * j) * (256 * 2 ^ (8 * (n - j - 1)))) = 2 ^ (8 * j) * (256 * (2 ^ (8 * (n - j - 1)) * (l.getD n 0).toNat)) from by
    rw [Nat.mul_comm, Nat.mul_assoc, Nat.mul_assoc], Nat.add_mul_div_left _ _ (Nat.pow_pos (by decide)), Nat.add_mul_mod_self_left]
   exact Atq l n j hjn
theorem Atd (l : List UInt8) (n : Nat) (hl : l.length = n) (h8 : n ≤ 8) : le8 (vn l n) n = l := by
 apply List.ext_getElem?
 intro i
 by_cases hi : i < n
 ·have hi' : i < l.length := by omega
  rw [List.getElem?_eq_getElem (by rw [Gb]; exact hi), List.getElem?_eq_getElem hi']
  congr 1
  simp only [le8, List.getElem_map, List.getElem_range]
  apply UInt8.toNat_inj.1
  show (((vn l n) >>> (8 * i)).setWidth 8).toNat = _
  rw [BitVec.toNat_setWidth, BitVec.toNat_ushiftRight, Nat.shiftRight_eq_div_pow, Acl _ _ h8]
  have := Atq l n i hi
  rw [show (2 : Nat) ^ 8 = 256 from rfl, this, List.getD_eq_getElem?_getD, List.getElem?_eq_getElem hi', Option.getD_some]
 ·rw [List.getElem?_eq_none (by rw [Gb]; omega), List.getElem?_eq_none (by omega)]
theorem Auf (v : BitVec 64) : wI (v.toNat : Int) = v.toInt := by
 have h := v.isLt
 show IntKind.i64.wrap _ = _
 rw [BitVec.toInt_eq_toNat_cond]
 by_cases h2 : v.toNat < 9223372036854775808
 ·rw [if_pos (by omega)]
  exact Dl (by omega) (by omega)
 ·rw [if_neg (by omega)]
  simp only [IntKind.wrap, IntKind.bits, IntKind.signed]
  simp
  omega
theorem Ty (v : BitVec 64) : BitVec.ofInt 64 (wI (v.toNat : Int)) = v := by
 rw [Auf, BitVec.ofInt_toInt]
abbrev Rdr (α : Type) := Int → Int → List UInt8 → Option (α × Int × Int)
structure RS {α : Type} (R : Rdr α) (enc : α → List UInt8) (V : α → Prop) : Prop where
 run : ∀ (e : Int) (p : Nat) (d : List UInt8), p ≤ d.length → d.length ≤ 100000000 → ∃ v e' p', R e (p : Int) d = some (v, e', ((p' : Nat) : Int)) ∧ p' ≤ d.length ∧ (e ≠ 0 → e' = e) ∧
  (e' = 0 → V v ∧ d.drop p = enc v ++ d.drop p') ∧
  (e = 0 → ∀ u r, V u → d.drop p = enc u ++ r → v = u ∧ e' = 0 ∧ r = d.drop p') ∧
  (e = 0 → ∀ u x, V u → enc u = d.drop p ++ x → x ≠ [] → e' = 2)
def Rdr.seq {α β : Type} (R1 : Rdr α) (R2 : α → Rdr β) : Rdr (α × β) := fun e p d => (R1 e p d).bind fun x => (R2 x.1 x.2.1 x.2.2 d).bind fun y => some ((x.1, y.1), y.2.1, y.2.2)
theorem RS.seq {α β : Type} {R1 : Rdr α} {R2 : α → Rdr β} {enc1 : α → List UInt8} {enc2 : α → β → List UInt8} {V1 : α → Prop} {V2 : α → β → Prop} (h1 : RS R1 enc1 V1) (h2 : ∀ a, RS (R2 a) (enc2 a) (V2 a)) :
  RS (R1.seq R2) (fun x => enc1 x.1 ++ enc2 x.1 x.2) (fun x => V1 x.1 ∧ V2 x.1 x.2) := by
 constructor
 intro e p d hp hd
 obtain ⟨v1, e1, p1, r1, l1, k1, s1, c1, t1⟩ := h1.run e p d hp hd
 obtain ⟨v2, e2, p2, r2, l2, k2, s2, c2, t2⟩ := (h2 v1).run e1 p1 d l1 hd
 refine ⟨(v1, v2), e2, p2, ?_, l2, fun he => ?_, fun he => ?_, fun he u r hu hr => ?_, fun he u x hu hx hne => ?_⟩
 ·unfold Rdr.seq
  rw [r1]; simp only [Option.bind_some]
  rw [r2]; rfl
 ·have := k1 he
  rw [k2 (by rw [this]; exact he), this]
 ·have he1 : e1 = 0 := by
   by_cases h : e1 = 0
   ·exact h
   ·rw [k2 h] at he; exact absurd he h
  obtain ⟨a1, b1⟩ := s1 he1
  obtain ⟨a2, b2⟩ := s2 he
  exact ⟨⟨a1, a2⟩, by rw [b1, b2, List.append_assoc]⟩
 ·obtain ⟨u1, u2⟩ := u
  obtain ⟨rfl, rfl, h3⟩ := c1 he u1 (enc2 u1 u2 ++ r) hu.1 (by rw [hr, List.append_assoc])
  obtain ⟨rfl, rfl, h4⟩ := c2 rfl u2 r hu.2 h3.symm
  exact ⟨rfl, rfl, h4⟩
 ·obtain ⟨u1, u2⟩ := u
  have hx' : enc1 u1 ++ enc2 u1 u2 = d.drop p ++ x := hx
  rcases List.append_eq_append_iff.1 hx' with ⟨y, h3, h4⟩ | ⟨y, h3, h4⟩
  ·obtain ⟨rfl, rfl, h5⟩ := c1 he u1 y hu.1 h3
   exact t2 rfl u2 x hu.2 (by rw [h4, h5]) hne
  ·by_cases hy : y = []
   ·subst hy
    rw [List.append_nil] at h3
    obtain ⟨rfl, rfl, h5⟩ := c1 he u1 [] hu.1 (by rw [List.append_nil]; exact h3.symm)
    exact t2 rfl u2 x hu.2 (by rw [← h5]; exact h4.symm) hne
   ·have h6 := t1 he u1 y hu.1 h3 hy
    rw [k2 (by rw [h6]; decide), h6]
def RU (n : Nat) : Rdr Int := fun e p d => (Ax n e p d).bind fun v => some (wI (v.1.toNat : Int), v.2.1, v.2.2)
def eU (n : Nat) (x : Int) : List UInt8 := le8 (BitVec.ofInt 64 x) n
def VU (n : Nat) (x : Int) : Prop := wI (((BitVec.ofInt 64 x).toNat % 2 ^ (8 * n) : Nat) : Int) = x
theorem Xq {n : Nat} (h1 : 1 ≤ n) (h8 : n ≤ 8) : RS (RU n) (eU n) (VU n) := by
 constructor
 intro e p d hp hd
 by_cases he : e = 0
 ·subst he
  by_cases hl : p + n ≤ d.length
  ·have hrun : RU n 0 p d = some (wI ((vn ((d.drop p).take n) n).toNat : Int), 0, ((p + n : Nat) : Int)) := by
    unfold RU; rw [Af6 n p d h1 h8 hl hd]; rfl
   have hlen : ((d.drop p).take n).length = n := by rw [List.length_take, List.length_drop]; omega
   refine ⟨_, _, _, hrun, hl, fun h => absurd rfl h, fun _ => ⟨?_, ?_⟩, fun _ u r hu hr => ?_, fun _ u x hu hx hne => ?_⟩
   ·unfold VU
    rw [Ty, Nat.mod_eq_of_lt]
    rw [Acl _ _ h8]
    exact Ab5 _ _
   ·unfold eU
    rw [Ty, Atd _ _ hlen h8, ← List.drop_drop, List.take_append_drop]
   ·have e1 : (d.drop p).take n = eU n u := by rw [hr, List.take_left' (by simp [eU, Gb])]
    refine ⟨?_, rfl, ?_⟩
    ·rw [e1]
     unfold eU
     rw [Ak7 _ _ h8]
     exact hu
    ·rw [← List.drop_drop, hr, List.drop_left' (by simp [eU, Gb])]
   ·have := congrArg List.length hx
    simp [eU, Gb] at this
    have : 0 < x.length := List.length_pos_iff.2 hne
    omega
  ·have hrun : RU n 0 p d = some (0, 2, (p : Int)) := by
    unfold RU Ax Bo
    simp only [Option.bind_some]
    rw [if_neg (by simp), if_neg (by rw [decide_eq_true_eq]; omega), if_neg (by rw [decide_eq_true_eq]; omega)]
    unfold D4
    rw [Tz _ _ _ hp (by omega) hd]
    rfl
   refine ⟨_, _, _, hrun, hp, fun h => absurd rfl h, fun h => absurd h (by decide), fun _ u r hu hr => ?_, fun _ u x hu hx hne => rfl⟩
   have := congrArg List.length hr
   simp [eU, Gb] at this
   omega
 ·have hrun : RU n e p d = some (0, e, (p : Int)) := by
   unfold RU Ax Bo
   simp only [Option.bind_some]
   rw [if_pos (by simp [he])]
   rfl
  exact ⟨_, _, _, hrun, hp, fun _ => rfl, fun h => absurd h he, fun h => absurd h he, fun h => absurd h he⟩
theorem Zs {n : Nat} {x : Int} (h0 : 0 ≤ x) (h1 : x < 2 ^ (8 * n)) (h2 : x ≤ 9223372036854775807) : VU n x := by
 unfold VU
 obtain ⟨m, rfl⟩ : ∃ m : Nat, x = m := ⟨x.toNat, by omega⟩
 rw [BitVec.ofInt_natCast, BitVec.toNat_ofNat, Nat.mod_eq_of_lt (show m < 2 ^ 64 by omega), Nat.mod_eq_of_lt (by exact_mod_cast h1), Dl (by omega) h2]
def eO {α : Type} (b : Bool) (enc : α → List UInt8) (x : α) : List UInt8 := if b then enc x else []
def VO {α : Type} (b : Bool) (z : α) (V : α → Prop) (x : α) : Prop := if b then V x else x = z
def RF : Rdr Bool := fun e p d => Gf e p d
def eF (b : Bool) : List UInt8 := le8 (if b then 1#64 else 0#64) 1
theorem Atm : RS RF eF (fun _ => True) := by
 constructor
 intro e p d hp hd
 obtain ⟨v, e1, p1, hr, hp1, k1, s1, c1, t1⟩ := (Xq (n := 1) (by decide) (by decide)).run e p d hp hd
 unfold RU at hr
 cases hu : Ax (1 : Nat) e p d with
 | none => rw [hu] at hr; cases hr
 | some w =>
  rw [hu] at hr
  simp only [Option.bind_some, Option.some.injEq, Prod.mk.injEq] at hr
  obtain ⟨hv, he1, hpp⟩ := hr
  have hw : w = (w.1, e1, ((p1 : Nat) : Int)) := by rw [← he1, ← hpp]
  have hle : ∀ b : Bool, eF b = eU 1 (if b then 1 else 0) := fun b => by cases b <;> rfl
  have hvu : ∀ b : Bool, VU 1 (if b then 1 else 0) := fun b => by cases b <;> exact Zs (by decide) (by decide) (by decide)
  have hrun : RF e p d = if (1 : Int) < (w.1.toNat : Int) then some (decide ((w.1.toNat : Int) = 1), (if e1 = 0 then 3 else e1), ((p1 : Nat) : Int)) else some (decide ((w.1.toNat : Int) = 1), e1, ((p1 : Nat) : Int)) := by
   unfold RF Gf F6 B0
   rw [show (1 : Int) = ((1 : Nat) : Int) from rfl, hu, hw]
   simp only [Option.bind_some]
   by_cases hx : ((1 : Nat) : Int) < (w.1.toNat : Int)
   ·rw [if_pos (decide_eq_true hx), if_pos hx]
    by_cases h1 : e1 = 0
    ·rw [if_pos (decide_eq_true h1), if_pos h1]; rfl
    ·rw [if_neg (by rw [decide_eq_true_eq]; exact h1), if_neg h1]; rfl
   ·rw [if_neg (by rw [decide_eq_true_eq]; exact hx), if_neg hx]
  have hwlt := w.1.isLt
  have hbit : ∀ b : Bool, (v = (if b then 1 else 0)) → ¬ (1 : Int) < (w.1.toNat : Int) ∧ decide ((w.1.toNat : Int) = 1) = b := by
   intro b hb
   rw [← hv] at hb
   have h2 := congrArg (BitVec.ofInt 64) hb
   rw [Ty] at h2
   rw [h2]
   cases b <;> decide
  by_cases hx : (1 : Int) < (w.1.toNat : Int)
  ·rw [if_pos hx] at hrun
   have hno : ∀ b : Bool, v ≠ (if b then 1 else 0) := fun b hb => (hbit b hb).1 hx
   refine ⟨_, _, p1, hrun, hp1, fun he => ?_, fun he => ?_, fun he u r _ hr => ?_, fun he u x _ hxx hne => ?_⟩
   ·have := k1 he
    rw [if_neg (by rw [this]; exact he), this]
   ·exfalso
    split at he
    ·cases he
    ·exact absurd he (by assumption)
   ·exact absurd (c1 he _ r (hvu u) (by rw [hr, hle])).1 (hno u)
   ·have := t1 he _ x (hvu u) (by rw [← hle]; exact hxx) hne
    rw [this, if_neg (by decide)]
  ·rw [if_neg hx] at hrun
   refine ⟨_, _, p1, hrun, hp1, k1, fun he => ⟨trivial, ?_⟩, fun he u r _ hr => ?_, fun he u x _ hxx hne => t1 he _ x (hvu u) (by rw [← hle]; exact hxx) hne⟩
   ·obtain ⟨_, h2⟩ := s1 he
    rw [h2, hle]
    congr 2
    rw [← hv]
    have h01 : w.1.toNat = 0 ∨ w.1.toNat = 1 := by omega
    rcases h01 with h | h <;> rw [h] <;> rfl
   ·obtain ⟨h2, h3, h4⟩ := c1 he _ r (hvu u) (by rw [hr, hle])
    exact ⟨(hbit u h2).2, h3, h4⟩
def RL (n : Nat) : Rdr (List UInt8) := fun e p d => Cz n e p d
theorem Ahr {n : Nat} (hn : n ≤ 60000) : RS (RL n) ls2 (fun u => u.length ≤ n) := by
 constructor
 intro e p d hp hd
 obtain ⟨v, e1, p1, hr, hp1, k1, s1, c1, t1⟩ := (Xq (n := 2) (by decide) (by decide)).run e p d hp hd
 unfold RU at hr
 cases hu : Ax (2 : Nat) e p d with
 | none => rw [hu] at hr; cases hr
 | some w =>
  rw [hu] at hr
  simp only [Option.bind_some, Option.some.injEq, Prod.mk.injEq] at hr
  obtain ⟨hv, he1, hpp⟩ := hr
  have hw : w = (w.1, e1, ((p1 : Nat) : Int)) := by rw [← he1, ← hpp]
  have hvu : ∀ u : List UInt8, u.length ≤ n → VU 2 (u.length : Int) := fun u hu => Zs (by omega) (by simp; omega) (by omega)
  have hls : ∀ u : List UInt8, ls2 u = eU 2 (u.length : Int) ++ u := fun u => by unfold ls2 eU; rw [BitVec.ofInt_natCast]
  have hlen : ∀ u : List UInt8, u.length ≤ n → v = (u.length : Int) → (w.1.toNat = u.length) := by
   intro u hul hvu
   rw [← hv] at hvu
   have h2 := congrArg (BitVec.ofInt 64) hvu
   rw [Ty, BitVec.ofInt_natCast] at h2
   rw [h2, BitVec.toNat_ofNat]
   exact Nat.mod_eq_of_lt (by omega)
  have hpre : RL n e p d = if e1 ≠ 0 then some ([], e1, (p1 : Int)) else if (n : Int) < wI (w.1.toNat : Int) then some ([], 5, (p1 : Int)) else ((Cr (wI (w.1.toNat : Int)) e1 p1 d).bind fun v4 => (Ib v4.1).bind fun v5 => some (v5, v4.2.1, v4.2.2)) := by
   unfold RL Cz Bo B0
   rw [show (2 : Int) = ((2 : Nat) : Int) from rfl, hu, hw]
   simp only [Option.bind_some]
   by_cases h1 : e1 = 0
   ·have hne : ¬ (e1 ≠ 0) := fun h => h h1
    rw [if_neg (show ¬ (!decide (e1 = 0)) = true by simp [h1]), if_neg hne]
    by_cases h5 : (n : Int) < wI (w.1.toNat : Int)
    ·rw [if_pos (decide_eq_true h5), if_pos h5, if_pos (decide_eq_true h1)]; rfl
    ·rw [if_neg (by rw [decide_eq_true_eq]; exact h5), if_neg h5]
   ·rw [if_pos (by simp [h1]), if_pos h1]
  by_cases h1 : e1 = 0
  ·subst h1
   rw [if_neg (by simp)] at hpre
   have he : e = 0 := by
    by_cases h : e = 0
    ·exact h
    ·exact absurd (k1 h).symm h
   obtain ⟨a1, b1⟩ := s1 rfl
   have hw16 : w.1.toNat < 65536 := by
    have h2 : VU 2 v := a1
    unfold VU at h2
    rw [← hv, Ty] at h2
    have h3 := congrArg (BitVec.ofInt 64) h2
    rw [Ty] at h3
    have h4 : w.1.toNat % 2 ^ (8 * 2) < 65536 := Nat.mod_lt _ (by decide)
    have h5 : (BitVec.ofInt 64 (wI ((w.1.toNat % 2 ^ (8 * 2) : Nat) : Int))).toNat = w.1.toNat % 2 ^ (8 * 2) := by
     rw [Dl (by omega) (by omega), BitVec.ofInt_natCast, BitVec.toNat_ofNat, Nat.mod_eq_of_lt (by omega)]
    rw [h3] at h5
    omega
   have hv2 : v = (w.1.toNat : Int) := by rw [← hv]; exact Dl (by omega) (by omega)
   rw [Dl (by omega) (by omega)] at hpre
   by_cases h5 : (n : Int) < (w.1.toNat : Int)
   ·rw [if_pos h5] at hpre
    have hno : ∀ u : List UInt8, u.length ≤ n → v ≠ (u.length : Int) := fun u hul hh => by have := hlen u hul hh; omega
    refine ⟨_, _, p1, hpre, hp1, fun h => absurd he h, fun h => absurd h (by decide), fun _ u r hul hr => ?_, fun _ u x hul hx hne => ?_⟩
    ·exact absurd (c1 he _ (u ++ r) (hvu u hul) (by rw [hr, hls, List.append_assoc])).1 (hno u hul)
    ·rw [hls] at hx
     rcases List.append_eq_append_iff.1 hx with ⟨y, h3, h4⟩ | ⟨y, h3, h4⟩
     ·exact absurd (c1 he _ y (hvu u hul) h3).1 (hno u hul)
     ·by_cases hy : y = []
      ·subst hy
       rw [List.append_nil] at h3
       exact absurd (c1 he _ [] (hvu u hul) (by rw [List.append_nil]; exact h3.symm)).1 (hno u hul)
      ·exact absurd (t1 he _ y (hvu u hul) h3 hy) (by decide)
   ·rw [if_neg h5] at hpre
    by_cases hl : p1 + w.1.toNat ≤ d.length
    ·rw [Ags _ _ _ hl hd] at hpre
     simp only [Option.bind_some] at hpre
     rw [Pu _ (by rw [List.length_take, List.length_drop]; omega)] at hpre
     simp only [Option.bind_some] at hpre
     have hlt : ((d.drop p1).take w.1.toNat).length = w.1.toNat := by rw [List.length_take, List.length_drop]; omega
     refine ⟨_, _, _, hpre, hl, fun h => absurd he h, fun _ => ⟨by rw [hlt]; omega, ?_⟩, fun _ u r hul hr => ?_, fun _ u x hul hx hne => ?_⟩
     ·rw [hls, hlt, b1, ← hv2, List.append_assoc, ← List.drop_drop, List.take_append_drop]
     ·obtain ⟨h2, _, h4⟩ := c1 he _ (u ++ r) (hvu u hul) (by rw [hr, hls, List.append_assoc])
      have h6 := hlen u hul h2
      refine ⟨?_, rfl, ?_⟩
      ·rw [← h4, h6, List.take_left']; rfl
      ·rw [← List.drop_drop, ← h4, h6, List.drop_left']; rfl
     ·exfalso
      rw [hls] at hx
      rcases List.append_eq_append_iff.1 hx with ⟨y, h3, h4⟩ | ⟨y, h3, h4⟩
      ·obtain ⟨h2, _, h7⟩ := c1 he _ y (hvu u hul) h3
       have h6 := hlen u hul h2
       have h8 := congrArg List.length h4
       have h9 := congrArg List.length h7
       simp at h8 h9
       have : 0 < x.length := List.length_pos_iff.2 hne
       omega
      ·by_cases hy : y = []
       ·subst hy
        rw [List.append_nil] at h3
        obtain ⟨h2, _, h7⟩ := c1 he _ [] (hvu u hul) (by rw [List.append_nil]; exact h3.symm)
        have h6 := hlen u hul h2
        have h8 := congrArg List.length h4
        have h9 := congrArg List.length h7
        simp at h8 h9
        have : 0 < x.length := List.length_pos_iff.2 hne
        omega
       ·exact absurd (t1 he _ y (hvu u hul) h3 hy) (by decide)
    ·rw [Tz _ _ _ hp1 (by omega) hd] at hpre
     simp only [Option.bind_some] at hpre
     rw [Pu _ (by simp)] at hpre
     simp only [Option.bind_some] at hpre
     refine ⟨_, _, _, hpre, hp1, fun h => absurd he h, fun h => absurd h (by decide), fun _ u r hul hr => ?_, fun _ u x hul hx hne => rfl⟩
     exfalso
     obtain ⟨h2, _, h4⟩ := c1 he _ (u ++ r) (hvu u hul) (by rw [hr, hls, List.append_assoc])
     have h6 := hlen u hul h2
     have h9 := congrArg List.length h4
     simp at h9
     omega
  ·rw [if_pos h1] at hpre
   refine ⟨_, _, _, hpre, hp1, k1, fun h => absurd h h1, fun he u r hul hr => ?_, fun he u x hul hx hne => ?_⟩
   ·exact absurd (c1 he _ (u ++ r) (hvu u hul) (by rw [hr, hls, List.append_assoc])).2.1 h1
   ·rw [hls] at hx
    rcases List.append_eq_append_iff.1 hx with ⟨y, h3, h4⟩ | ⟨y, h3, h4⟩
    ·exact absurd (c1 he _ y (hvu u hul) h3).2.1 h1
    ·by_cases hy : y = []
     ·subst hy
      rw [List.append_nil] at h3
      exact absurd (c1 he _ [] (hvu u hul) (by rw [List.append_nil]; exact h3.symm)).2.1 h1
     ·exact t1 he _ y (hvu u hul) h3 hy
theorem RS.map {α β : Type} {R : Rdr α} {enc : α → List UInt8} {V : α → Prop} (h : RS R enc V) (f : α → β) (g : β → α) {V' : β → Prop} (h1 : ∀ x, V x → g (f x) = x ∧ V' (f x)) (h2 : ∀ y, V' y → V (g y) ∧ f (g y) = y) :
  RS (fun e p d => (R e p d).bind fun x => some (f x.1, x.2.1, x.2.2)) (fun y => enc (g y)) V' := by
 constructor
 intro e p d hp hd
 obtain ⟨v, e', p', r, l, k, s, c, t⟩ := h.run e p d hp hd
 refine ⟨f v, e', p', by simp only [r]; rfl, l, k, fun he => ?_, fun he u r' hu hr => ?_, fun he u x hu hx hne => ?_⟩
 ·obtain ⟨a, b⟩ := s he
  obtain ⟨a1, a2⟩ := h1 v a
  exact ⟨a2, by rw [a1]; exact b⟩
 ·obtain ⟨a1, a2⟩ := h2 u hu
  obtain ⟨b1, b2, b3⟩ := c he (g u) r' a1 hr
  exact ⟨by rw [b1, a2], b2, b3⟩
 ·exact t he (g u) x (h2 u hu).1 hx hne
def Q7 (k : Int) : Bool := decide (1 ≤ k) && decide (k ≤ 11)
theorem X4 (k : Int) : H6 k = some (Q7 k) := by
 unfold H6 Q7
 by_cases h : 1 ≤ k
 ·rw [if_pos (decide_eq_true h), decide_eq_true h]; rfl
 ·rw [if_neg (by rw [decide_eq_true_eq]; exact h), decide_eq_false h]; rfl
def Aoo : Hh := ⟨false, false, false, false, false, false⟩
def F5 (k : Int) : Hh := if Q7 k then (Au5[k.toNat]?).getD Aoo else Aoo
theorem Acy (k : Int) : J7 k = some (F5 k) := by
 unfold J7 F5
 rw [X4]
 simp only [Option.bind_some]
 cases h : Q7 k with
 | false => rfl
 | true =>
  simp only [Q7, Bool.and_eq_true, decide_eq_true_eq] at h
  rw [if_neg (by simp), if_pos rfl]
  have hl : k.toNat < Au5.length := by show k.toNat < 12; omega
  unfold idx
  rw [if_pos (by omega), List.getElem?_eq_getElem hl]
  rfl
def eG (x : List UInt8 × Bool × List UInt8) : List UInt8 := ls2 x.1 ++ (eF x.2.1 ++ ls2 x.2.2)
def VG (x : List UInt8 × Bool × List UInt8) : Prop := x.1.length ≤ 16 ∧ True ∧ x.2.2.length ≤ 16
abbrev Arr := Int × Int × Bool × List UInt8 × List UInt8 × List UInt8 × Bool × List UInt8
def eP (v : Hh) (x : Arr) : List UInt8 :=
 eO v.token_ (eU 8) x.1 ++ (eO v.attempt_ (eU 2) x.2.1 ++ (eO v.ro_ eF x.2.2.1 ++ (eO v.key_ ls2 x.2.2.2.1 ++ (eO v.val_ ls2 x.2.2.2.2.1 ++ eO v.rng_ eG x.2.2.2.2.2))))
def VP (v : Hh) (x : Arr) : Prop :=
 VO v.token_ 0 (VU 8) x.1 ∧ VO v.attempt_ 0 (VU 2) x.2.1 ∧ VO v.ro_ false (fun _ => True) x.2.2.1 ∧ VO v.key_ [] (fun u => u.length ≤ 16) x.2.2.2.1 ∧ VO v.val_ [] (fun u => u.length ≤ 32) x.2.2.2.2.1 ∧ VO v.rng_ ([], false, []) VG x.2.2.2.2.2
abbrev Av6 := Int × Int × Unit × Arr
def eR (x : Av6) : List UInt8 := eU 1 x.1 ++ (eU 4 x.2.1 ++ ([] ++ eP (F5 x.1) x.2.2.2))
def VR (x : Av6) : Prop := VU 1 x.1 ∧ VU 4 x.2.1 ∧ Q7 x.1 = true ∧ VP (F5 x.1) x.2.2.2
section
variable (v : Hh) (d : List UInt8)
def Qf (g : B7) : Av6 := (g.Kind, g.Seq, (), g.Token, g.Attempt, g.RO, g.Key, g.Val, g.Rng.Lo, g.Rng.Open, g.Rng.Hi)
def within (a n : Int) : Bool := decide (0 ≤ a) && decide (a ≤ n)
theorem Mf (a n : Int) : El a n = some (within a n) := by
 unfold El within
 by_cases h : 0 ≤ a
 ·rw [if_pos (decide_eq_true h), decide_eq_true h]; rfl
 ·rw [if_neg (by rw [decide_eq_true_eq]; exact h), decide_eq_false h]; rfl
def Tk (b : Bool) (a n : Int) : Bool := if b then within a n else decide (a = 0)
theorem Ai0 (b : Bool) (a n : Int) : J5 b a n = some (Tk b a n) := by
 unfold J5 Tk
 rw [Mf]
 cases b <;> rfl
def saneBytes (b : Bool) (x : List UInt8) (lo hi : Int) : Bool := if b then decide (lo ≤ (x.length : Int)) && decide ((x.length : Int) ≤ hi) else decide ((x.length : Int) = 0)
theorem Sa (b : Bool) (x : List UInt8) (lo hi : Int) : C1 b x lo hi = some (saneBytes b x lo hi) := by
 unfold C1 saneBytes
 cases b
 ·rfl
 ·by_cases h : lo ≤ (x.length : Int)
  ·rw [decide_eq_true h]; rfl
  ·rw [decide_eq_false h]; rfl
def saneRng (b : Bool) (r : B2) : Bool := if b then decide ((r.Lo.length : Int) ≤ 16) && saneBytes (!r.Open) r.Hi 0 16 else decide ((r.Lo.length : Int) = 0) && (decide ((r.Hi.length : Int) = 0) && !r.Open)
theorem Alj (b : Bool) (r : B2) : Kb b r = some (saneRng b r) := by
 unfold Kb saneRng
 rw [Sa]
 cases b
 ·by_cases h : (r.Lo.length : Int) = 0
  ·rw [decide_eq_true h]
   by_cases h2 : (r.Hi.length : Int) = 0
   ·rw [decide_eq_true h2]; rfl
   ·rw [decide_eq_false h2]; rfl
  ·rw [decide_eq_false h]; rfl
 ·by_cases h : (r.Lo.length : Int) ≤ 16
  ·rw [decide_eq_true h]; rfl
  ·rw [decide_eq_false h]; rfl
def F2 (g : B7) : Bool :=
 Q7 g.Kind && (within g.Seq 4294967295 && (Tk (F5 g.Kind).token_ g.Token 1099511627776 && (Tk (F5 g.Kind).attempt_ g.Attempt 65535 && (((F5 g.Kind).ro_ || !g.RO) && (saneBytes (F5 g.Kind).key_ g.Key 1 16 && (saneBytes (F5 g.Kind).val_ g.Val 0 32 && saneRng (F5 g.Kind).rng_ g.Rng))))))
theorem saneReq_m (g : B7) : J4 g = some (F2 g) := by
 unfold J4 F2
 simp only [Acy, X4, Mf, Ai0, Sa, Alj, Option.bind_some]
 cases Q7 g.Kind
 ·rfl
 cases within g.Seq 4294967295
 ·rfl
 cases Tk (F5 g.Kind).token_ g.Token 1099511627776
 ·rfl
 cases Tk (F5 g.Kind).attempt_ g.Attempt 65535
 ·rfl
 cases (F5 g.Kind).ro_ <;> cases g.RO <;> cases saneBytes (F5 g.Kind).key_ g.Key 1 16 <;> cases saneBytes (F5 g.Kind).val_ g.Val 0 32 <;> rfl
theorem As2 {α : Type} {x : List α} (h : (x.length : Int) = 0) : x = [] := List.length_eq_zero_iff.1 (by omega)
theorem Aov {b : Bool} {a n : Int} {w : Nat} (h : Tk b a n = true) (hn : n < 2 ^ (8 * w)) (hn2 : n ≤ 9223372036854775807) : VO b 0 (VU w) a := by
 unfold Tk at h
 cases b with
 | false => exact (show a = 0 from of_decide_eq_true h)
 | true =>
  simp only [if_true, within, Bool.and_eq_true, decide_eq_true_eq] at h
  exact Zs h.1 (by omega) (by omega)
theorem Afu {b : Bool} {x : List UInt8} {lo : Int} {n : Nat} (h : saneBytes b x lo n = true) : VO b [] (fun u => u.length ≤ n) x := by
 unfold saneBytes at h
 cases b with
 | false => exact As2 (of_decide_eq_true h)
 | true =>
  simp only [if_true, Bool.and_eq_true, decide_eq_true_eq] at h
  show x.length ≤ n
  omega
theorem Ata {b : Bool} {r : B2} (h : saneRng b r = true) : VO b ([], false, []) VG (r.Lo, r.Open, r.Hi) := by
 unfold saneRng at h
 cases b with
 | false =>
  simp only [Bool.false_eq_true, if_false, Bool.and_eq_true, decide_eq_true_eq, Bool.not_eq_true'] at h
  show (r.Lo, r.Open, r.Hi) = _
  rw [As2 h.1, As2 h.2.1, h.2.2]
 | true =>
  simp only [if_true, Bool.and_eq_true, decide_eq_true_eq] at h
  refine ⟨by have := h.1; show r.Lo.length ≤ 16; omega, trivial, ?_⟩
  have h2 := h.2
  unfold saneBytes at h2
  cases ho : r.Open with
  | true => rw [ho] at h2; rw [As2 (of_decide_eq_true h2)]; simp
  | false =>
   rw [ho] at h2
   simp only [Bool.not_false, if_true, Bool.and_eq_true, decide_eq_true_eq] at h2
   show r.Hi.length ≤ 16
   omega
theorem Aku {g : B7} (h : F2 g = true) : VR (Qf g) := by
 unfold F2 at h
 simp only [Bool.and_eq_true] at h
 obtain ⟨h1, h2, h3, h4, h5, h6, h7, h8⟩ := h
 have hk : 1 ≤ g.Kind ∧ g.Kind ≤ 11 := by simpa [Q7] using h1
 have hs : 0 ≤ g.Seq ∧ g.Seq ≤ 4294967295 := by simpa [within] using h2
 refine ⟨Zs (by show 0 ≤ g.Kind; omega) (by show g.Kind < 2 ^ (8 * 1); omega) (by show g.Kind ≤ _; omega), Zs (by show 0 ≤ g.Seq; omega) (by show g.Seq < 2 ^ (8 * 4); omega) (by show g.Seq ≤ _; omega), h1, Aov h3 (by decide) (by decide), Aov h4 (by decide) (by decide), ?_, Afu h6, Afu h7, Ata h8⟩
 show VO (F5 g.Kind).ro_ false (fun _ => True) g.RO
 cases hr : (F5 g.Kind).ro_ with
 | true => trivial
 | false => rw [hr] at h5; exact (show g.RO = false by simpa using h5)
theorem Pe (n : Nat) (x : Int) : (eU n x).length = n := by simp [eU, Gb]
theorem Xj (b : Bool) : (eF b).length = 1 := by simp [eF, Gb]
theorem O8 (u : List UInt8) : (ls2 u).length = 2 + u.length := by simp [ls2, Gb]
theorem Am2 {a : List UInt8} {x : Int} (n : Nat) (hn : n ≤ 8) (h : a.length ≤ 1000000) : Et a (BitVec.ofInt 64 x) n = some (a ++ eU n x) := by
 rw [U_m a _ _ h]
 have : (w8 (n : Int)).toNat = n := by unfold w8; split <;> split <;> omega
 rw [this]; rfl
theorem Ary {a x : List UInt8} (h : a.length ≤ 500000) (hx : x.length ≤ 65535) : Gk a x = some (a ++ ls2 x) := by
 rw [Asi a x h, Nat.min_eq_right hx, List.take_length, List.append_assoc]; rfl
theorem Ax4 {a : List UInt8} {b : Bool} (h : a.length ≤ 1000000) : Ik a b = some (a ++ eF b) := by
 unfold Ik
 cases b
 ·rw [if_neg (by simp), U_m a _ _ h]; rfl
 ·rw [if_pos rfl, U_m a _ _ h]; rfl
theorem Aa1 {α : Type} (b : Bool) (enc : α → List UInt8) (x : α) (a : List UInt8) : a ++ eO b enc x = if b then a ++ enc x else a := by
 cases b <;> simp [eO]
section
variable {g : B7} {v : Hh}
theorem p9 {b : List UInt8} (h : b.length ≤ 1000) (hv : VO v.rng_ ([], false, []) VG (g.Rng.Lo, g.Rng.Open, g.Rng.Hi)) : Ic g v b = some (b ++ eO v.rng_ eG (g.Rng.Lo, g.Rng.Open, g.Rng.Hi), 0) := by
 unfold Ic I7
 rw [Aa1]
 cases hb : v.rng_
 ·rfl
 ·rw [hb] at hv
  obtain ⟨h1, _, h2⟩ := (show VG _ from hv)
  simp only at h1 h2
  simp only [if_true]
  rw [Ary (by omega) (by omega)]
  simp only [Option.bind_some]
  rw [Ax4 (by simp only [List.length_append, O8]; omega)]
  simp only [Option.bind_some]
  rw [Ary (by simp only [List.length_append, O8, Xj]; omega) (by omega)]
  simp [eG]
theorem p8 {b : List UInt8} (h : b.length ≤ 900) (hv : VO v.val_ [] (fun u => u.length ≤ 32) g.Val) (hr : VO v.rng_ ([], false, []) VG (g.Rng.Lo, g.Rng.Open, g.Rng.Hi)) : Ig g v b = some (b ++ (eO v.val_ ls2 g.Val ++ eO v.rng_ eG (g.Rng.Lo, g.Rng.Open, g.Rng.Hi)), 0) := by
 unfold Ig
 rw [← List.append_assoc, Aa1 v.val_]
 cases hb : v.val_
 ·exact p9 (by omega) hr
 ·rw [hb] at hv
  have hv' : g.Val.length ≤ 32 := hv
  simp only [if_true]
  rw [Ary (by omega) (by omega)]
  simp only [Option.bind_some]
  exact p9 (by simp only [List.length_append, O8]; omega) hr
theorem p7 {b : List UInt8} (h : b.length ≤ 800) (hk : VO v.key_ [] (fun u => u.length ≤ 16) g.Key) (hv : VO v.val_ [] (fun u => u.length ≤ 32) g.Val) (hr : VO v.rng_ ([], false, []) VG (g.Rng.Lo, g.Rng.Open, g.Rng.Hi)) :
  H9 g v b = some (b ++ (eO v.key_ ls2 g.Key ++ (eO v.val_ ls2 g.Val ++ eO v.rng_ eG (g.Rng.Lo, g.Rng.Open, g.Rng.Hi))), 0) := by
 unfold H9
 rw [← List.append_assoc, Aa1 v.key_]
 cases hb : v.key_
 ·exact p8 (by omega) hv hr
 ·rw [hb] at hk
  have hk' : g.Key.length ≤ 16 := hk
  simp only [if_true]
  rw [Ary (by omega) (by omega)]
  simp only [Option.bind_some]
  exact p8 (by simp only [List.length_append, O8]; omega) hv hr
theorem p6 {b : List UInt8} (h : b.length ≤ 700) (hk : VO v.key_ [] (fun u => u.length ≤ 16) g.Key) (hv : VO v.val_ [] (fun u => u.length ≤ 32) g.Val) (hr : VO v.rng_ ([], false, []) VG (g.Rng.Lo, g.Rng.Open, g.Rng.Hi)) :
  Ia g v b = some (b ++ (eO v.ro_ eF g.RO ++ (eO v.key_ ls2 g.Key ++ (eO v.val_ ls2 g.Val ++ eO v.rng_ eG (g.Rng.Lo, g.Rng.Open, g.Rng.Hi)))), 0) := by
 unfold Ia
 rw [← List.append_assoc, Aa1 v.ro_]
 cases hb : v.ro_
 ·exact p7 (by omega) hk hv hr
 ·simp only [if_true]
  rw [Ax4 (by omega)]
  simp only [Option.bind_some]
  exact p7 (by simp only [List.length_append, Xj]; omega) hk hv hr
theorem p5 {b : List UInt8} (h : b.length ≤ 600) (hk : VO v.key_ [] (fun u => u.length ≤ 16) g.Key) (hv : VO v.val_ [] (fun u => u.length ≤ 32) g.Val) (hr : VO v.rng_ ([], false, []) VG (g.Rng.Lo, g.Rng.Open, g.Rng.Hi)) :
  Fx g v b = some (b ++ (eO v.attempt_ (eU 2) g.Attempt ++ (eO v.ro_ eF g.RO ++ (eO v.key_ ls2 g.Key ++ (eO v.val_ ls2 g.Val ++ eO v.rng_ eG (g.Rng.Lo, g.Rng.Open, g.Rng.Hi))))), 0) := by
 unfold Fx
 rw [← List.append_assoc, Aa1 v.attempt_]
 cases hb : v.attempt_
 ·exact p6 (by omega) hk hv hr
 ·simp only [if_true]
  rw [show (2 : Int) = ((2 : Nat) : Int) from rfl, Am2 2 (by decide) (by omega)]
  simp only [Option.bind_some]
  exact p6 (by simp only [List.length_append, Pe]; omega) hk hv hr
end
theorem putReq_m (g : B7) : M1 g = some (if F2 g then (eR (Qf g), 0) else ([], 1)) := by
 unfold M1
 rw [saneReq_m]
 simp only [Option.bind_some, Acy]
 cases hs : F2 (B7.mk g.Kind g.Seq g.Token g.Attempt g.RO g.Key g.Val (B2.mk g.Rng.Lo g.Rng.Hi g.Rng.Open)) with
 | false =>
  rfl
 | true =>
  have hs' : F2 g = true := hs
  obtain ⟨_, _, _, ht, ha, hro, hk, hv, hr⟩ := Aku hs'
  simp only [Bool.not_true, Bool.false_eq_true, if_false, if_true]
  rw [show (1 : Int) = ((1 : Nat) : Int) from rfl, show (4 : Int) = ((4 : Nat) : Int) from rfl, show (8 : Int) = ((8 : Nat) : Int) from rfl, Am2 1 (by decide) (by simp)]
  simp only [Option.bind_some]
  rw [Am2 4 (by decide) (by simp [Pe])]
  simp only [Option.bind_some]
  have key : (if (F5 g.Kind).token_ = true then (Et (([] ++ eU 1 g.Kind) ++ eU 4 g.Seq) (BitVec.ofInt 64 g.Token) ((8 : Nat) : Int)).bind fun v18 => Fx g (F5 g.Kind) v18 else Fx g (F5 g.Kind) (([] ++ eU 1 g.Kind) ++ eU 4 g.Seq)) = some (eR (Qf g), 0) := by
   have e : eR (Qf g) = ([] ++ eU 1 g.Kind ++ eU 4 g.Seq) ++ (eO (F5 g.Kind).token_ (eU 8) g.Token ++ (eO (F5 g.Kind).attempt_ (eU 2) g.Attempt ++ (eO (F5 g.Kind).ro_ eF g.RO ++ (eO (F5 g.Kind).key_ ls2 g.Key ++ (eO (F5 g.Kind).val_ ls2 g.Val ++ eO (F5 g.Kind).rng_ eG (g.Rng.Lo, g.Rng.Open, g.Rng.Hi)))))) := by
    simp only [eR, Qf, eP, List.nil_append, List.append_assoc]
   rw [e, ← List.append_assoc ([] ++ eU 1 g.Kind ++ eU 4 g.Seq), Aa1 (F5 g.Kind).token_]
   cases (F5 g.Kind).token_
   ·exact p5 (by simp [Pe]) hk hv hr
   ·simp only [if_true]
    rw [Am2 8 (by decide) (by simp [Pe])]
    simp only [Option.bind_some]
    exact p5 (by simp [Pe]) hk hv hr
  exact key
theorem Atl (e : Int) (p : Nat) (d : List UInt8) (h : p ≤ d.length) (hd : d.length ≤ 100000000) : Fo e p d = some (if e ≠ 0 then e else if p < d.length then 3 else 0, (p : Int)) := by
 unfold Fo Bo
 simp only [Option.bind_some]
 by_cases he : e = 0
 ·rw [if_neg (by simp [he]), Abc _ _ _ h hd, if_neg (by simp [he])]
  simp only [Option.bind_some, List.length_drop]
  by_cases hp : p < d.length
  ·rw [if_pos (by rw [decide_eq_true_eq]; omega), if_pos hp]
  ·rw [if_neg (by rw [decide_eq_true_eq]; omega), if_neg hp]
 ·rw [if_pos (by simp [he]), if_pos he]
theorem eR_len {g : B7} (h : F2 g = true) : 5 ≤ (eR (Qf g)).length ∧ (eR (Qf g)).length ≤ 200 := by
 obtain ⟨_, _, _, ht, ha, hro, hk, hv, hr⟩ := Aku h
 have l1 : (eO (F5 g.Kind).token_ (eU 8) g.Token).length ≤ 8 := by unfold eO; split <;> simp [Pe]
 have l2 : (eO (F5 g.Kind).attempt_ (eU 2) g.Attempt).length ≤ 2 := by unfold eO; split <;> simp [Pe]
 have l3 : (eO (F5 g.Kind).ro_ eF g.RO).length ≤ 1 := by unfold eO; split <;> simp [Xj]
 have l4 : (eO (F5 g.Kind).key_ ls2 g.Key).length ≤ 18 := by
  unfold eO; split
  ·rename_i hb
   have hb' : (F5 (Qf g).1).key_ = true := hb
   rw [hb'] at hk
   have : g.Key.length ≤ 16 := hk
   rw [O8]; omega
  ·simp
 have l5 : (eO (F5 g.Kind).val_ ls2 g.Val).length ≤ 34 := by
  unfold eO; split
  ·rename_i hb
   have hb' : (F5 (Qf g).1).val_ = true := hb
   rw [hb'] at hv
   have : g.Val.length ≤ 32 := hv
   rw [O8]; omega
  ·simp
 have l6 : (eO (F5 g.Kind).rng_ eG (g.Rng.Lo, g.Rng.Open, g.Rng.Hi)).length ≤ 37 := by
  unfold eO; split
  ·rename_i hb
   have hb' : (F5 (Qf g).1).rng_ = true := hb
   rw [hb'] at hr
   obtain ⟨a, _, b⟩ := (show VG (g.Rng.Lo, g.Rng.Open, g.Rng.Hi) from hr)
   simp only [eG, List.length_append, O8, Xj]
   simp only at a b
   omega
  ·simp
 simp only [eR, Qf, eP, List.length_append, Pe, List.length_nil]
 omega
theorem RS.congr {α : Type} {R : Rdr α} {enc enc' : α → List UInt8} {V : α → Prop} (h : RS R enc V) (he : ∀ x, V x → enc x = enc' x) : RS R enc' V := by
 constructor
 intro e p d hp hd
 obtain ⟨v, e', p', r, l, k, s, c, t⟩ := h.run e p d hp hd
 refine ⟨v, e', p', r, l, k, fun h0 => ?_, fun h0 u r' hu hr => c h0 u r' hu (by rw [he u hu]; exact hr), fun h0 u x hu hx hne => t h0 u x hu (by rw [he u hu]; exact hx) hne⟩
 obtain ⟨a, b⟩ := s h0
 exact ⟨a, by rw [← he v a]; exact b⟩
theorem RS.fn {α : Type} {R R' : Rdr α} {enc : α → List UInt8} {V : α → Prop} (h : RS R enc V) (he : ∀ e p d, R e p d = R' e p d) : RS R' enc V := by
 constructor
 intro e p d hp hd
 obtain ⟨v, e', p', r, rest⟩ := h.run e p d hp hd
 exact ⟨v, e', p', by rw [← he]; exact r, rest⟩
def RB (b : Bool) : Rdr Unit := fun e p _ => some ((), (if b then e else if e = 0 then 3 else e), p)
theorem Aud (b : Bool) : RS (RB b) (fun _ => []) (fun _ => b = true) := by
 constructor
 intro e p d hp hd
 refine ⟨(), _, p, rfl, hp, fun he => ?_, fun he => ?_, fun he u r hu hr => ⟨rfl, ?_, ?_⟩, fun he u x hu hx hne => ?_⟩
 ·cases b with
  | true => rfl
  | false => simp [he]
 ·cases b with
  | true => exact ⟨rfl, by simp⟩
  | false =>
   simp only [Bool.false_eq_true, if_false] at he
   split at he
   ·cases he
   ·contradiction
 ·rw [if_pos hu]; exact he
 ·exact (by simpa using hr : d.drop p = r).symm
 ·exact absurd (List.append_eq_nil_iff.1 hx.symm).2 hne
def RN {α : Type} (R : Rdr α) : Nat → Rdr (List α)
 | 0 => fun e p _ => some ([], e, p)
 | k + 1 => fun e p d => (R e p d).bind fun x => (RN R k x.2.1 x.2.2 d).bind fun y => some (x.1 :: y.1, y.2.1, y.2.2)
theorem At3 {α : Type} (z : α) {R : Rdr α} {enc : α → List UInt8} {V : α → Prop} (h : RS R enc V) : ∀ k, RS (RN R k) (fun l => l.flatMap enc) (fun l => l.length = k ∧ ∀ x ∈ l, V x)
 | 0 => by
  constructor
  intro e p d hp hd
  refine ⟨[], e, p, rfl, hp, fun _ => rfl, fun _ => ⟨⟨rfl, fun x hx => by simp at hx⟩, by simp⟩, fun he u r hu hr => ⟨?_, he, ?_⟩, fun he u x hu hx hne => ?_⟩
  ·exact (List.length_eq_zero_iff.1 hu.1).symm
  ·rw [List.length_eq_zero_iff.1 hu.1] at hr
   exact (by simpa using hr : d.drop p = r).symm
  ·have hx : u.flatMap enc = d.drop p ++ x := hx
   rw [List.length_eq_zero_iff.1 hu.1] at hx
   exact absurd (List.append_eq_nil_iff.1 hx.symm).2 hne
 | k + 1 => by
  have h2 := RS.map (RS.seq h fun _ => At3 z h k) (fun x => x.1 :: x.2) (fun l => (l.headD z, l.tail)) (V' := fun l => l.length = k + 1 ∧ ∀ x ∈ l, V x)
   (fun x hx => ⟨rfl, by simp [hx.2.1], fun y hy => by
    rcases List.mem_cons.1 hy with rfl | hy
    ·exact hx.1
    ·exact hx.2.2 y hy⟩)
   (fun l hl => by
    cases l with
    | nil => simp at hl
    | cons a l => exact ⟨⟨hl.2 a (List.mem_cons_self ..), by simpa using hl.1, fun x hx => hl.2 x (List.mem_cons_of_mem _ hx)⟩, rfl⟩)
  refine RS.fn (RS.congr h2 fun l hl => ?_) fun e p d => ?_
  ·cases l with
   | nil => simp at hl
   | cons a l => rfl
  ·simp only [RN, Rdr.seq, Option.bind_assoc, Option.bind_some]
def RV : Rdr Dk := fun e p d => ((RL 16).seq (fun _ => RL 32) e p d).bind fun x => some (⟨x.1.1, x.1.2⟩, x.2.1, x.2.2)
def eV (x : Dk) : List UInt8 := ls2 x.Key ++ ls2 x.Val
def VV (x : Dk) : Prop := x.Key.length ≤ 16 ∧ x.Val.length ≤ 32
theorem Axe : RS RV eV VV := RS.map (RS.seq (Ahr (n := 16) (by decide)) fun _ => Ahr (n := 32) (by decide)) (fun x => (⟨x.1, x.2⟩ : Dk)) (fun y => (y.Key, y.Val)) (fun _ hx => ⟨rfl, hx⟩) (fun _ hy => ⟨hy, rfl⟩)
def RC (a : Int) : Rdr (List Dk) := fun e p d => if 8 < a then some ([], (if e = 0 then 5 else e), p) else RN RV a.toNat e p d
def VC (a : Int) (l : List Dk) : Prop := a ≤ 8 ∧ l.length = a.toNat ∧ ∀ x ∈ l, VV x
theorem Awi (a : Int) : RS (RC a) (fun l => l.flatMap eV) (VC a) := by
 by_cases ha : 8 < a
 ·constructor
  intro e p d hp hd
  refine ⟨[], _, p, by unfold RC; rw [if_pos ha], hp, fun he => by rw [if_neg he], fun he => ?_, fun he u r hu hr => absurd hu.1 (by omega), fun he u x hu hx hne => absurd hu.1 (by omega)⟩
  split at he
  ·cases he
  ·contradiction
 ·have h := At3 (⟨[], []⟩ : Dk) Axe a.toNat
  constructor
  intro e p d hp hd
  obtain ⟨v, e', p', r, l, k, s, c, t⟩ := h.run e p d hp hd
  refine ⟨v, e', p', by unfold RC; rw [if_neg ha]; exact r, l, k, fun h0 => ?_, fun h0 u r' hu hr => c h0 u r' hu.2 hr, fun h0 u x hu hx hne => t h0 u x hu.2 hx hne⟩
  obtain ⟨a1, b1⟩ := s h0
  exact ⟨⟨by omega, a1⟩, b1⟩
def eVs (l : List Dk) : List UInt8 := eU 1 (l.length : Int) ++ l.flatMap eV
def VVs (l : List Dk) : Prop := l.length ≤ 8 ∧ ∀ x ∈ l, VV x
def RVs : Rdr (List Dk) := fun e p d => ((RU 1).seq RC e p d).bind fun x => some (x.1.2, x.2.1, x.2.2)
theorem Asu : RS RVs eVs VVs :=
 RS.map (RS.seq (Xq (n := 1) (by decide) (by decide)) Awi) (fun x => x.2) (fun l => ((l.length : Int), l))
  (fun x hx => by
   obtain ⟨h1, h2, h3, h4⟩ := hx
   have hx0 : 0 ≤ x.1 := by
    unfold VU at h1
    have : (BitVec.ofInt 64 x.1).toNat % 2 ^ (8 * 1) < 256 := Nat.mod_lt _ (by decide)
    rw [Dl (by omega) (by omega)] at h1
    omega
   exact ⟨by rw [h3, Int.toNat_of_nonneg hx0], by show x.2.length ≤ 8; omega, h4⟩)
  (fun l hl => ⟨⟨Zs (by show (0 : Int) ≤ (l.length : Int); omega) (by show (l.length : Int) < 2 ^ (8 * 1); have := hl.1; omega) (by show (l.length : Int) ≤ _; have := hl.1; omega), by show (l.length : Int) ≤ 8; have := hl.1; omega, (Int.toNat_natCast _).symm, hl.2⟩, rfl⟩)
theorem Ass (d : List UInt8) (hd : d.length ≤ 100000000) (v1 : (BitVec 64) × Int × Int) {k : Nat} (hk : wI (v1.1.toNat : Int) = k) (h8 : k ≤ 8) : ∀ (j n i : Nat) (e : Int) (p : Nat) (acc : List Dk), i + j = k → j < n → acc.length = i → p ≤ d.length →
  Ec (D5 d v1) n ((i : Int), e, (p : Int), acc) = (RN RV j e p d).bind fun y => some (y.2.1, y.2.2, acc ++ y.1)
 | 0, n, i, e, p, acc, hij, hn, ha, hp => by
  obtain ⟨m, rfl⟩ : ∃ m, n = m + 1 := ⟨n - 1, by omega⟩
  have hf : D5 d v1 ((i : Int), e, (p : Int), acc) = some (.brk (e, (p : Int), acc)) := by
   unfold D5
   rw [hk, if_neg (by rw [decide_eq_true_eq]; simp only; omega)]
  rw [Ec, hf]
  simp [RN]
 | j + 1, n, i, e, p, acc, hij, hn, ha, hp => by
  obtain ⟨m, rfl⟩ : ∃ m, n = m + 1 := ⟨n - 1, by omega⟩
  obtain ⟨x1, e1, p1, r1, l1, _⟩ := (Ahr (n := 16) (by decide)).run e p d hp hd
  obtain ⟨x2, e2, p2, r2, l2, _⟩ := (Ahr (n := 32) (by decide)).run e1 p1 d l1 hd
  have r1' : Cz 16 e p d = some (x1, e1, (p1 : Int)) := r1
  have r2' : Cz 32 e1 p1 d = some (x2, e2, (p2 : Int)) := r2
  have hf : D5 d v1 ((i : Int), e, (p : Int), acc) = some (.cont (((i + 1 : Nat) : Int), e2, (p2 : Int), acc ++ [(⟨x1, x2⟩ : Dk)])) := by
   unfold D5
   rw [hk, if_pos (by rw [decide_eq_true_eq]; simp only; omega)]
   simp only
   rw [r1']
   simp only [Option.bind_some]
   rw [r2']
   simp only [Option.bind_some]
   rw [if_pos (by simp [ha]; omega), Dl (by omega) (by omega)]
   rfl
  rw [Ec, hf]
  simp only
  rw [Ass d hd v1 hk h8 j m (i + 1) e2 p2 (acc ++ [(⟨x1, x2⟩ : Dk)]) (by omega) (by omega) (by simp [ha]) l2]
  have rv : RV e p d = some (⟨x1, x2⟩, e2, (p2 : Int)) := by
   unfold RV Rdr.seq
   rw [r1]
   simp only [Option.bind_some]
   rw [r2]
   rfl
  simp only [RN, rv, Option.bind_some, Option.bind_assoc, List.append_assoc, List.singleton_append]
theorem Ag3 (e : Int) (p : Nat) (d : List UInt8) (hp : p ≤ d.length) (hd : d.length ≤ 100000000) : J8 e p d = RVs e p d := by
 obtain ⟨x, e1, p1, r1, l1, k1, s1, _⟩ := (Xq (n := 1) (by decide) (by decide)).run e p d hp hd
 unfold J8 RVs Rdr.seq B0 Jq
 rw [r1]
 unfold RU at r1
 cases hu : Ax (1 : Nat) e p d with
 | none => rw [hu] at r1; cases r1
 | some w =>
  rw [hu] at r1
  simp only [Option.bind_some, Option.some.injEq, Prod.mk.injEq] at r1
  obtain ⟨hv, he1, hpp⟩ := r1
  simp only [Option.bind_some]
  unfold RC
  rw [hv, he1, hpp]
  by_cases h8 : 8 < x
  ·rw [if_pos (decide_eq_true h8), if_pos h8]
   by_cases h0 : e1 = 0
   ·simp [h0]
   ·simp [h0]
  ·rw [if_neg (by rw [decide_eq_true_eq]; exact h8), if_neg h8]
   have hx0 : 0 ≤ x := by
    by_cases h0 : e1 = 0
    ·have h1 := (s1 h0).1
     unfold VU at h1
     have : (BitVec.ofInt 64 x).toNat % 2 ^ (8 * 1) < 256 := Nat.mod_lt _ (by decide)
     rw [Dl (by omega) (by omega)] at h1
     omega
    ·obtain ⟨v', e', p', hu', _, _, hlt, hz⟩ := Avm 1 e p d hp hd
     rw [show (1 : Int) = ((1 : Nat) : Int) from rfl, hu] at hu'
     cases hu'
     rw [← hv, hz (by rw [← he1] at h0; exact h0)]
     show (0 : Int) ≤ wI ((0#64).toNat : Int)
     decide
   have := Ass d hd w (k := x.toNat) (by rw [hv, Int.toNat_of_nonneg hx0]) (by omega) x.toNat fuel 0 e1 p1 [] (by omega) (Gz (by omega)) rfl l1
   rw [show ((0 : Nat) : Int) = 0 from rfl] at this
   rw [this]
   simp only [Option.bind_assoc, Option.bind_some, List.nil_append]
abbrev Ar7 := Int × Int × Unit × Int × Int × Bool × List UInt8 × List Dk
def Ve (k : Int) : Bool := decide (k = 0) || Q7 k
def Avf : Rdr Ar7 := (RU 1).seq fun k => (RU 4).seq fun _ => (RB (Ve k)).seq fun _ => (RU 1).seq fun _ => (RU 8).seq fun _ => RF.seq fun _ => (RL 32).seq fun _ => RVs
def eS5 (x : Ar7) : List UInt8 := eU 1 x.1 ++ (eU 4 x.2.1 ++ ([] ++ (eU 1 x.2.2.2.1 ++ (eU 8 x.2.2.2.2.1 ++ (eF x.2.2.2.2.2.1 ++ (ls2 x.2.2.2.2.2.2.1 ++ eVs x.2.2.2.2.2.2.2))))))
def VS5 (x : Ar7) : Prop := VU 1 x.1 ∧ VU 4 x.2.1 ∧ Ve x.1 = true ∧ VU 1 x.2.2.2.1 ∧ VU 8 x.2.2.2.2.1 ∧ True ∧ x.2.2.2.2.2.2.1.length ≤ 32 ∧ VVs x.2.2.2.2.2.2.2
theorem Aj0 : RS Avf eS5 VS5 :=
 RS.seq (enc2 := fun k (y : Int × Unit × Int × Int × Bool × List UInt8 × List Dk) => eU 4 y.1 ++ ([] ++ (eU 1 y.2.2.1 ++ (eU 8 y.2.2.2.1 ++ (eF y.2.2.2.2.1 ++ (ls2 y.2.2.2.2.2.1 ++ eVs y.2.2.2.2.2.2))))))
  (V2 := fun k (y : Int × Unit × Int × Int × Bool × List UInt8 × List Dk) => VU 4 y.1 ∧ Ve k = true ∧ VU 1 y.2.2.1 ∧ VU 8 y.2.2.2.1 ∧ True ∧ y.2.2.2.2.2.1.length ≤ 32 ∧ VVs y.2.2.2.2.2.2) (Xq (by decide) (by decide)) fun k =>
 RS.seq (enc2 := fun _ (y : Unit × Int × Int × Bool × List UInt8 × List Dk) => [] ++ (eU 1 y.2.1 ++ (eU 8 y.2.2.1 ++ (eF y.2.2.2.1 ++ (ls2 y.2.2.2.2.1 ++ eVs y.2.2.2.2.2)))))
  (V2 := fun _ (y : Unit × Int × Int × Bool × List UInt8 × List Dk) => Ve k = true ∧ VU 1 y.2.1 ∧ VU 8 y.2.2.1 ∧ True ∧ y.2.2.2.2.1.length ≤ 32 ∧ VVs y.2.2.2.2.2) (Xq (by decide) (by decide)) fun _ =>
 RS.seq (Aud _) fun _ => RS.seq (Xq (by decide) (by decide)) fun _ => RS.seq (Xq (by decide) (by decide)) fun _ => RS.seq Atm fun _ => RS.seq (Ahr (by decide)) fun _ => Asu
def zrep : Ba := Ba.mk 0 0 0 0 false [] []
def Abh (x : Ar7) : Ba := ⟨x.1, x.2.1, x.2.2.2.1, x.2.2.2.2.1, x.2.2.2.2.2.1, x.2.2.2.2.2.2.1, x.2.2.2.2.2.2.2⟩
def tupRep (g : Ba) : Ar7 := (g.Kind, g.Seq, (), g.Code, g.N, g.Found, g.Val, g.List)
theorem Aau (d : List UInt8) (hd : d.length ≤ 100000000) : Eo d = (Avf 0 0 d).bind fun x => (Fo x.2.1 x.2.2 d).bind fun v8 =>
  if (!decide (v8.1 = 0)) then some (zrep, v8.1) else (Fs (Abh x.1)).bind fun v9 => if (!v9) then some (zrep, 3) else some (Abh x.1, 0) := by
 obtain ⟨x1, e1, p1, r1, l1, _⟩ := (Xq (n := 1) (by decide) (by decide)).run 0 0 d (Nat.zero_le _) hd
 obtain ⟨x2, e2, p2, r2, l2, _⟩ := (Xq (n := 4) (by decide) (by decide)).run e1 p1 d l1 hd
 obtain ⟨x3, e3, p3, r3, l3, _⟩ := (Aud (Ve x1)).run e2 p2 d l2 hd
 obtain ⟨x4, e4, p4, r4, l4, _⟩ := (Xq (n := 1) (by decide) (by decide)).run e3 p3 d l3 hd
 obtain ⟨x5, e5, p5, r5, l5, _⟩ := (Xq (n := 8) (by decide) (by decide)).run e4 p4 d l4 hd
 obtain ⟨x6, e6, p6, r6, l6, _⟩ := Atm.run e5 p5 d l5 hd
 obtain ⟨x7, e7, p7, r7, l7, _⟩ := (Ahr (n := 32) (by decide)).run e6 p6 d l6 hd
 have hR : Avf 0 0 d = (RVs e7 p7 d).bind fun y => some ((x1, x2, x3, x4, x5, x6, x7, y.1), y.2.1, y.2.2) := by
  unfold Avf Rdr.seq
  rw [show (0 : Int) = ((0 : Nat) : Int) from rfl] at r1 ⊢
  simp only [r1, r2, r3, r4, r5, r6, r7, Option.bind_some, Option.bind_assoc]
 have hk4 : ∀ (v1 : Int × Int × List UInt8) (v2 v3 : (BitVec 64) × Int × Int), v1.2.2 = d → wI (v2.1.toNat : Int) = x1 → wI (v3.1.toNat : Int) = x2 → v3.2.2 = (p2 : Int) → Ey v1 v2 v3 e3 =
   (RVs e7 p7 d).bind fun y => (Fo y.2.1 y.2.2 d).bind fun v8 => if (!decide (v8.1 = 0)) then some (zrep, v8.1) else (Fs (Abh (x1, x2, x3, x4, x5, x6, x7, y.1))).bind fun v9 => if (!v9) then some (zrep, 3) else some (Abh (x1, x2, x3, x4, x5, x6, x7, y.1), 0) := by
  intro v1 v2 v3 h1 h2 h3 h4
  have hp3 : (p3 : Int) = p2 := by
   have := r3
   unfold RB at this
   simp only [Option.some.injEq, Prod.mk.injEq] at this
   exact this.2.2.symm
  rw [hp3] at r4
  unfold Ey
  rw [h1, h2, h3, h4]
  unfold RU at r4 r5
  cases u4 : Ax (1 : Nat) e3 p2 d with
  | none => rw [u4] at r4; cases r4
  | some w4 =>
   rw [u4] at r4
   simp only [Option.bind_some, Option.some.injEq, Prod.mk.injEq] at r4
   obtain ⟨a4, b4, c4⟩ := r4
   cases u5 : Ax (8 : Nat) e4 p4 d with
   | none => rw [u5] at r5; cases r5
   | some w5 =>
    rw [u5] at r5
    simp only [Option.bind_some, Option.some.injEq, Prod.mk.injEq] at r5
    obtain ⟨a5, b5, c5⟩ := r5
    have r6' : Gf e5 p5 d = some (x6, e6, (p6 : Int)) := r6
    have r7' : Cz 32 e6 p6 d = some (x7, e7, (p7 : Int)) := r7
    have u4' : Ax 1 e3 p2 d = some w4 := u4
    have u5' : Ax 8 e4 p4 d = some w5 := u5
    simp only [u4', Option.bind_some, b4, c4, u5', b5, c5, r6', r7', Ag3 e7 p7 d l7 hd, a4, a5]
    rfl
 rw [hR]
 simp only [Option.bind_assoc, Option.bind_some]
 unfold Eo Ki B0
 unfold RU at r1 r2
 cases u1 : Ax (1 : Nat) 0 0 d with
 | none =>
  rw [show ((0 : Nat) : Int) = 0 from rfl, u1] at r1; cases r1
 | some w1 =>
  rw [show ((0 : Nat) : Int) = 0 from rfl, u1] at r1
  simp only [Option.bind_some, Option.some.injEq, Prod.mk.injEq] at r1
  obtain ⟨a1, b1, c1⟩ := r1
  cases u2 : Ax (4 : Nat) e1 p1 d with
  | none => rw [u2] at r2; cases r2
  | some w2 =>
   rw [u2] at r2
   simp only [Option.bind_some, Option.some.injEq, Prod.mk.injEq] at r2
   obtain ⟨a2, b2, c2⟩ := r2
   have u1' : Ax 1 0 0 d = some w1 := u1
   have u2' : Ax 4 e1 p1 d = some w2 := u2
   have he3 : e3 = if Ve x1 then e2 else if e2 = 0 then 3 else e2 := by
    unfold RB at r3
    simp only [Option.some.injEq, Prod.mk.injEq] at r3
    exact r3.2.1.symm
   simp only [u1', Option.bind_some, b1, c1, u2', X4, a1, b2]
   have k4 := hk4 (0, 0, d) w1 w2 rfl a1 a2 c2
   by_cases h0 : x1 = 0
   ·rw [if_neg (by simp [h0]), ← k4, he3]
    have : Ve x1 = true := by simp [Ve, h0]
    rw [this]; rfl
   ·rw [if_pos (by simp [h0])]
    cases hk : Q7 x1 with
    | true =>
     have : Ve x1 = true := by simp [Ve, hk]
     rw [if_neg (by simp), ← k4, he3, this]; rfl
    | false =>
     have : Ve x1 = false := by simp [Ve, hk, h0]
     rw [if_pos (by simp), ← k4, he3, this]
     by_cases h2 : e2 = 0
     ·rw [if_pos (decide_eq_true h2)]; simp [h2]
     ·rw [if_neg (by rw [decide_eq_true_eq]; exact h2)]; simp [h2]
def okV (x : Dk) : Bool := saneBytes true x.Key 1 16 && decide ((x.Val.length : Int) ≤ 32)
def X9 (g : Ba) : Bool := Ve g.Kind && (within g.Seq 4294967295 && (within g.Code 255 && (within g.N 1099511627776 && (saneBytes g.Found g.Val 0 32 && decide ((g.List.length : Int) ≤ 8)))))
def saneRep (g : Ba) : Bool := g.List.all okV && X9 g
theorem Ah0 (g : Ba) : Hy g () = some (X9 g) := by
 unfold Hy X9 Ve
 simp only [X4, Mf, Sa, Option.bind_some]
 by_cases h : g.Kind = 0
 ·rw [decide_eq_true h]
  cases within g.Seq 4294967295 <;> cases within g.Code 255 <;> cases within g.N 1099511627776 <;> cases saneBytes g.Found g.Val 0 32 <;> rfl
 ·rw [decide_eq_false h]
  cases Q7 g.Kind <;> cases within g.Seq 4294967295 <;> cases within g.Code 255 <;> cases within g.N 1099511627776 <;> cases saneBytes g.Found g.Val 0 32 <;> rfl
theorem Yd (g : Ba) (hl : g.List.length ≤ 1000000) : Fs g = some (saneRep g) := by
 obtain ⟨b, hb, hR⟩ := Rx (f := He g) (P := fun s => 0 ≤ s ∧ s ≤ (g.List.length : Int) ∧ ∀ j, j < s.toNat → ∀ x, g.List[j]? = some x → okV x = true) (μ := fun s => g.List.length - s.toNat)
  (R := fun r => match r with | .inl r => r = false ∧ g.List.all okV = false | .inr _ => g.List.all okV = true)
  (fun s hs => by
   obtain ⟨h0, h1, h2⟩ := hs
   unfold He
   by_cases hlt : s < (g.List.length : Int)
   ·obtain ⟨x, hx, hx'⟩ := Y3 h0 hlt
    rw [if_pos (decide_eq_true hlt), hx]
    simp only [Option.bind_some, Sa]
    have hbad : okV x = false → g.List.all okV = false := fun h => by
     rw [List.all_eq_false]
     exact ⟨x, List.mem_of_getElem? hx', by simp [h]⟩
    cases h3 : saneBytes true x.Key 1 16 with
    | false => exact .inr (.inr ⟨false, rfl, rfl, hbad (by simp [okV, h3])⟩)
    | true =>
     by_cases h4 : (32 : Int) < (x.Val.length : Int)
     ·refine .inr (.inr ⟨false, ?_, rfl, hbad (by simp [okV]; omega)⟩)
      rw [if_neg (by simp), if_pos (decide_eq_true h4)]
     ·refine .inl ⟨s + 1, ?_, ⟨by omega, by omega, fun j hj y hy => ?_⟩, by omega⟩
      ·rw [if_neg (by simp), if_neg (by rw [decide_eq_true_eq]; exact h4), Dl (by omega) (by omega)]
      ·by_cases hj' : j < s.toNat
       ·exact h2 j hj' y hy
       ·have : j = s.toNat := by omega
        subst this
        rw [hx'] at hy
        cases hy
        simp only [okV, h3, Bool.true_and, decide_eq_true_eq]
        omega
   ·refine .inr (.inl ⟨(), by rw [if_neg (by rw [decide_eq_true_eq]; exact hlt)], ?_⟩)
    show g.List.all okV = true
    rw [List.all_eq_true]
    intro x hx
    obtain ⟨j, hj, hjx⟩ := List.getElem_of_mem hx
    exact h2 j (by omega) x (by rw [List.getElem?_eq_getElem hj, hjx])) fuel 0 ⟨by omega, by omega, fun j hj => by simp at hj⟩ (Gz (by simp; omega))
 unfold Fs
 rw [hb]
 simp only [Option.bind_some]
 unfold saneRep
 cases b with
 | inl r => obtain ⟨rfl, h⟩ := hR; rw [h]; rfl
 | inr u =>
  have h : g.List.all okV = true := hR
  simp only [h, Bool.true_and]
  exact Ah0 g
theorem saneRep_V {g : Ba} (h : saneRep g = true) : VS5 (tupRep g) ∧ g.List.length ≤ 8 := by
 unfold saneRep X9 at h
 simp only [Bool.and_eq_true, List.all_eq_true] at h
 obtain ⟨h1, h2, h3, h4, h5, h6, h7⟩ := h
 have hk : 0 ≤ g.Kind ∧ g.Kind ≤ 11 := by
  simp only [Ve, Q7, Bool.or_eq_true, Bool.and_eq_true, decide_eq_true_eq] at h2
  omega
 have hs : 0 ≤ g.Seq ∧ g.Seq ≤ 4294967295 := by simpa [within] using h3
 have hc : 0 ≤ g.Code ∧ g.Code ≤ 255 := by simpa [within] using h4
 have hn : 0 ≤ g.N ∧ g.N ≤ 1099511627776 := by simpa [within] using h5
 have hl : g.List.length ≤ 8 := by have := of_decide_eq_true h7; omega
 have hv : g.Val.length ≤ 32 := by
  unfold saneBytes at h6
  cases hf : g.Found with
  | false => rw [hf] at h6; rw [As2 (of_decide_eq_true h6)]; simp
  | true =>
   rw [hf] at h6
   simp only [if_true, Bool.and_eq_true, decide_eq_true_eq] at h6
   omega
 refine ⟨⟨Zs (by show 0 ≤ g.Kind; omega) (by show g.Kind < 2 ^ (8 * 1); omega) (by show g.Kind ≤ _; omega), Zs (by show 0 ≤ g.Seq; omega) (by show g.Seq < 2 ^ (8 * 4); omega) (by show g.Seq ≤ _; omega), h2, Zs (by show 0 ≤ g.Code; omega) (by show g.Code < 2 ^ (8 * 1); omega) (by show g.Code ≤ _; omega), Zs (by show 0 ≤ g.N; omega) (by show g.N < 2 ^ (8 * 8); omega) (by show g.N ≤ _; omega), trivial, hv, hl, fun x hx => ?_⟩, hl⟩
 have := h1 x hx
 simp only [okV, saneBytes, if_true, Bool.and_eq_true, decide_eq_true_eq] at this
 exact ⟨by omega, by omega⟩
theorem Apc {x : Dk} (h : okV x = true) : (eV x).length ≤ 52 ∧ x.Key.length ≤ 16 ∧ x.Val.length ≤ 32 := by
 simp only [okV, saneBytes, if_true, Bool.and_eq_true, decide_eq_true_eq] at h
 simp only [eV, List.length_append, O8]
 omega
theorem Wp : ∀ {l : List Dk}, (∀ x ∈ l, okV x = true) → (l.flatMap eV).length ≤ 52 * l.length
 | [], _ => by simp
 | x :: l, h => by
  have h1 := Apc (h x (List.mem_cons_self ..))
  have h2 := Wp (fun y hy => h y (List.mem_cons_of_mem _ hy))
  rw [List.flatMap_cons, List.length_append, List.length_cons]
  omega
theorem Avq {g : Ba} (hl : g.List.length ≤ 8) (hv : ∀ x ∈ g.List, okV x = true) (a : List UInt8) (ha : a.length ≤ 1000) :
  Ec (Gd g) fuel (a, 0) = some (a ++ g.List.flatMap eV) := by
 obtain ⟨b, hb, rfl⟩ := Ft (f := Gd g) (P := fun s => ∃ i : Nat, s = (a ++ (g.List.take i).flatMap eV, (i : Int)) ∧ i ≤ g.List.length) (μ := fun s => g.List.length - s.2.toNat)
  (R := fun b => b = a ++ g.List.flatMap eV)
  (fun s hs => by
   obtain ⟨i, rfl, hi⟩ := hs
   unfold Gd
   by_cases hlt : i < g.List.length
   ·have hx : g.List[i]? = some g.List[i] := List.getElem?_eq_getElem hlt
    have ho := Apc (hv _ (List.mem_of_getElem? hx))
    have hfl : ((g.List.take i).flatMap eV).length ≤ 52 * 8 := by
     have := Wp (l := g.List.take i) (fun y hy => hv y (List.mem_of_mem_take hy))
     rw [List.length_take] at this
     omega
    refine .inl ⟨(a ++ (g.List.take (i + 1)).flatMap eV, ((i + 1 : Nat) : Int)), ?_, ⟨i + 1, rfl, hlt⟩, ?_⟩
    ·rw [if_pos (by rw [decide_eq_true_eq]; simp only; omega), Ed, hx]
     simp only [Option.bind_some]
     rw [Ary (by simp only [List.length_append]; omega) (by omega)]
     simp only [Option.bind_some]
     rw [Ary (by simp only [List.length_append, O8]; omega) (by omega)]
     simp only [Option.bind_some]
     rw [Dl (by omega) (by omega), List.take_succ_eq_append_getElem hlt, List.flatMap_append]
     simp [eV]
    ·simp only [Int.toNat_natCast]; omega
   ·refine .inr ⟨_, by rw [if_neg (by rw [decide_eq_true_eq]; simp only; omega)], ?_⟩
    rw [List.take_of_length_le (by omega)]) fuel (a, 0) ⟨0, by simp, Nat.zero_le _⟩ (Gz (by simp; omega))
 exact hb
theorem putRep_m (g : Ba) (hll : g.List.length ≤ 1000000) : I2 g = some (if saneRep g then (eS5 (tupRep g), 0) else ([], 1)) := by
 unfold I2 Kn
 rw [Yd g hll]
 simp only [Option.bind_some]
 cases hs : saneRep g with
 | false => rfl
 | true =>
  obtain ⟨⟨_, _, _, _, _, _, hv, _⟩, hl⟩ := saneRep_V hs
  have hv' : g.Val.length ≤ 32 := hv
  have hok : ∀ x ∈ g.List, okV x = true := by
   unfold saneRep at hs
   simp only [Bool.and_eq_true, List.all_eq_true] at hs
   exact hs.1
  simp only [Bool.not_true, Bool.false_eq_true, if_false, if_true]
  rw [show (1 : Int) = ((1 : Nat) : Int) from rfl, show (4 : Int) = ((4 : Nat) : Int) from rfl, show (8 : Int) = ((8 : Nat) : Int) from rfl, Am2 1 (by decide) (by simp)]
  simp only [Option.bind_some]
  rw [Am2 4 (by decide) (by simp [Pe])]
  simp only [Option.bind_some]
  rw [Am2 1 (by decide) (by simp [Pe])]
  simp only [Option.bind_some]
  rw [Am2 8 (by decide) (by simp [Pe])]
  simp only [Option.bind_some]
  rw [Ax4 (by simp [Pe])]
  simp only [Option.bind_some]
  rw [Ary (by simp [Pe, Xj]) (by omega)]
  simp only [Option.bind_some]
  rw [Am2 1 (by decide) (by simp only [List.length_append, Pe, Xj, O8, List.length_nil]; omega)]
  simp only [Option.bind_some]
  rw [Avq hl hok _ (by simp only [List.length_append, Pe, Xj, O8, List.length_nil]; omega)]
  simp only [Option.bind_some, eS5, tupRep, eVs, List.nil_append, List.append_assoc]
theorem eS5_len {g : Ba} (h : saneRep g = true) : 1 ≤ (eS5 (tupRep g)).length ∧ (eS5 (tupRep g)).length ≤ 512 := by
 obtain ⟨⟨_, _, _, _, _, _, hv, _⟩, hl⟩ := saneRep_V h
 have hv' : g.Val.length ≤ 32 := hv
 have hok : ∀ x ∈ g.List, okV x = true := by
  unfold saneRep at h
  simp only [Bool.and_eq_true, List.all_eq_true] at h
  exact h.1
 have := Wp hok
 simp only [eS5, tupRep, eVs, List.nil_append, List.length_append, Pe, Xj, O8]
 omega
theorem Alk (g : Ba) : Abh (tupRep g) = g := rfl
theorem Ahh (x : Ar7) : tupRep (Abh x) = x := rfl
theorem readRep_any (d : List UInt8) (hd : d.length ≤ 100000000) : ∃ g e, Eo d = some (g, e) ∧ (e = 0 → saneRep g = true ∧ d = eS5 (tupRep g)) ∧ (e ≠ 0 → g = zrep) := by
 obtain ⟨x, e', p', hr, hp, _, hs, _, _⟩ := Aj0.run 0 0 d (Nat.zero_le _) hd
 rw [Aau d hd]
 rw [show ((0 : Nat) : Int) = 0 from rfl] at hr
 rw [hr]
 simp only [Option.bind_some]
 rw [Atl _ _ _ hp hd]
 simp only [Option.bind_some]
 by_cases he : e' = 0
 ·subst he
  obtain ⟨hV, h2⟩ := hs rfl
  by_cases hlt : p' < d.length
  ·exact ⟨zrep, 3, by simp [hlt], fun h => absurd h (by decide), fun _ => rfl⟩
  ·have hz : d.drop p' = [] := List.drop_eq_nil_iff.2 (by omega)
   rw [hz, List.append_nil, List.drop_zero] at h2
   have hl8 : (Abh x).List.length ≤ 8 := hV.2.2.2.2.2.2.2.1
   rw [Yd _ (by omega)]
   cases hsn : saneRep (Abh x) with
   | true => exact ⟨Abh x, 0, by simp [hlt], fun _ => ⟨hsn, by rw [Ahh]; exact h2⟩, fun h => absurd rfl h⟩
   | false => exact ⟨zrep, 3, by simp [hlt], fun h => absurd h (by decide), fun _ => rfl⟩
 ·exact ⟨zrep, e', by simp [he], fun h => absurd h he, fun _ => rfl⟩
theorem readRep_back {g : Ba} (h : saneRep g = true) : Eo (eS5 (tupRep g)) = some (g, 0) := by
 have hl := (eS5_len h).2
 obtain ⟨hV, hl8⟩ := saneRep_V h
 obtain ⟨x, e', p', hr, hp, _, _, hc, _⟩ := Aj0.run 0 0 (eS5 (tupRep g)) (Nat.zero_le _) (by omega)
 obtain ⟨rfl, rfl, h3⟩ := hc rfl (tupRep g) [] hV (by simp)
 have hp' : p' = (eS5 (tupRep g)).length := by
  have := List.drop_eq_nil_iff.1 h3.symm
  omega
 rw [Aau _ (by omega)]
 rw [show ((0 : Nat) : Int) = 0 from rfl] at hr
 rw [hr]
 simp only [Option.bind_some]
 rw [Atl _ _ _ hp (by omega)]
 simp only [Option.bind_some]
 rw [hp', Alk, Yd _ (by omega), h]
 simp
end
end Go.Proofs.YtbjckaahoacbfaaGreatDoor.Abs.mg
