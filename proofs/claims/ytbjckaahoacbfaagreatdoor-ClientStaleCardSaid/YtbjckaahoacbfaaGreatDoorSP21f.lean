/- . -/
import Derived.Test.YtbjckaahoacbfaaGreatDoorSP21c
set_option linter.unusedVariables false
set_option linter.unusedSimpArgs false
namespace Go.Proofs.YtbjckaahoacbfaaGreatDoor.Abs
def sm (p : List UInt8) : BitVec 32 := ~~~ Crc.fold8 (~~~ (~~~ Crc.fold8 (~~~ 0#32) (le8 (BitVec.ofNat 64 p.length) 2))) p
def fr (p : List UInt8) : List UInt8 := le8 (BitVec.ofNat 64 p.length) 2 ++ le8 ((sm p).setWidth 64) 4 ++ p
theorem V7 (p : List UInt8) : (fr p).length = 6 + p.length := by simp [fr, Gb]; omega
def hd2 (b : List UInt8) : Nat := (vn (b.take 2) 2).toNat
def su4 (b : List UInt8) : BitVec 32 := (vn ((b.drop 2).take 4) 4).setWidth 32
def pay (b : List UInt8) : List UInt8 := (b.drop 6).take (hd2 b)
def opn (b : List UInt8) : Int × List UInt8 :=
 if b.length < 2 then (2, []) else if 512 < hd2 b then (5, []) else if b.length < 6 + hd2 b then (2, []) else if su4 b ≠ sm (pay b) then (4, []) else (0, pay b)
theorem Af0 {α : Type} {a b : List α} {n : Nat} (h : n ≤ a.length) : (a ++ b).take n = a.take n := List.take_append_of_le_length h
theorem Up {n : Nat} (h : n < 2 ^ 64) : (BitVec.ofNat 64 n).toNat = n := by rw [BitVec.toNat_ofNat]; exact Nat.mod_eq_of_lt h
theorem Ao9 (p c : List UInt8) (h : p.length ≤ 512) : hd2 (fr p ++ c) = p.length := by
 unfold hd2 fr
 rw [List.append_assoc, List.append_assoc, Af0 (by rw [Gb]; exact Nat.le_refl _), List.take_of_length_le (by rw [Gb]; exact Nat.le_refl _), Ak7 _ _ (by decide), Up (by omega)]
 exact Nat.mod_eq_of_lt (by omega)
theorem At6 (p c : List UInt8) : su4 (fr p ++ c) = sm p := by
 unfold su4 fr
 have e : (le8 (BitVec.ofNat 64 p.length) 2 ++ le8 ((sm p).setWidth 64) 4 ++ p ++ c).drop 2 = le8 ((sm p).setWidth 64) 4 ++ (p ++ c) := by
  rw [List.append_assoc, List.append_assoc]
  have := List.drop_left (l₁ := le8 (BitVec.ofNat 64 p.length) 2) (l₂ := le8 ((sm p).setWidth 64) 4 ++ (p ++ c))
  rwa [Gb] at this
 rw [e, Af0 (by rw [Gb]; exact Nat.le_refl _), List.take_of_length_le (by rw [Gb]; exact Nat.le_refl _)]
 apply BitVec.eq_of_toNat_eq
 rw [BitVec.toNat_setWidth, Ak7 _ _ (by decide), BitVec.toNat_setWidth]
 have := (sm p).isLt
 omega
theorem Aun (p c : List UInt8) (h : p.length ≤ 512) : pay (fr p ++ c) = p := by
 unfold pay
 rw [Ao9 p c h]
 unfold fr
 have e : (le8 (BitVec.ofNat 64 p.length) 2 ++ le8 ((sm p).setWidth 64) 4 ++ p ++ c).drop 6 = p ++ c := by
  rw [List.append_assoc]
  have := List.drop_left (l₁ := le8 (BitVec.ofNat 64 p.length) 2 ++ le8 ((sm p).setWidth 64) 4) (l₂ := p ++ c)
  rwa [List.length_append, Gb, Gb] at this
 rw [e, List.take_left]
theorem Aia (p c : List UInt8) (h : p.length ≤ 512) : opn (fr p ++ c) = (0, p) := by
 unfold opn
 have hl : (fr p ++ c).length = 6 + p.length + c.length := by rw [List.length_append, V7]
 rw [if_neg (by omega), Ao9 p c h, if_neg (by omega), if_neg (by omega), At6, Aun p c h, if_neg (by simp)]
theorem Y6 (l : List UInt8) (n : Nat) (hn : n ≤ 8) (h : l.length = n) (v : BitVec 64) (hv : v.toNat = (vn l n).toNat) : le8 v n = l := by
 apply List.ext_getElem (by rw [Gb, h])
 intro i h1 h2
 have h1' : i < n := by rw [Gb] at h1; exact h1
 have e : v = vn l n := BitVec.eq_of_toNat_eq hv
 subst e
 have hvn : (vn l n).toNat = ns l n := Acl l n hn
 simp only [le8, List.getElem_map, List.getElem_range]
 apply UInt8.toNat_inj.1
 have key : ∀ m, i < m → m ≤ n → (ns l m) / 2 ^ (8 * i) % 256 = l[i].toNat := by
  intro m him hmn
  induction m with
  | zero => omega
  | succ m ih =>
   show (ns l m + (l.getD m 0).toNat * 2 ^ (8 * m)) / 2 ^ (8 * i) % 256 = _
   rcases Nat.lt_or_ge i m with hlt | hge
   ·have e : 2 ^ (8 * m) = 2 ^ (8 * i) * (256 * 2 ^ (8 * (m - i - 1))) := by
     rw [show (256 : Nat) = 2 ^ 8 from rfl, ← Nat.pow_add, ← Nat.pow_add]
     congr 1
     omega
    rw [e, Nat.mul_left_comm, Nat.add_mul_div_left _ _ (Nat.pow_pos (by decide)), Nat.mul_left_comm, Nat.add_mul_mod_self_left]
    exact ih hlt (by omega)
   ·have e : m = i := by omega
    subst e
    have hlt := Ab5 l m
    rw [Nat.add_mul_div_right _ _ (Nat.pow_pos (by decide)), Nat.div_eq_of_lt hlt, Nat.zero_add, List.getD_eq_getElem?_getD, List.getElem?_eq_getElem h2, Option.getD_some]
    exact Nat.mod_eq_of_lt l[m].toNat_lt
 have := key n (by omega) (Nat.le_refl _)
 rw [← this]
 show ((vn l n >>> (8 * i)).setWidth 8).toNat = _
 rw [BitVec.toNat_setWidth, BitVec.toNat_ushiftRight, hvn, Nat.shiftRight_eq_div_pow]
theorem Af1 {b p : List UInt8} (h : opn b = (0, p)) : p.length ≤ 512 ∧ b = fr p ++ b.drop (6 + p.length) := by
 unfold opn at h
 split at h
 ·simp at h
 split at h
 ·simp at h
 split at h
 ·simp at h
 split at h
 ·simp at h
 rename_i h1 h2 h3 h4
 have hp : p = pay b := by simpa using h.symm
 have hpl : p.length = hd2 b := by rw [hp]; unfold pay; rw [List.length_take, List.length_drop]; omega
 refine ⟨by omega, ?_⟩
 have e0 : b = b.take 2 ++ ((b.drop 2).take 4 ++ ((b.drop 6).take (hd2 b) ++ b.drop (6 + hd2 b))) := by
  rw [← List.drop_drop, List.take_append_drop, show b.drop 6 = (b.drop 2).drop 4 from by rw [List.drop_drop], List.take_append_drop, List.take_append_drop]
 have e1 : le8 (BitVec.ofNat 64 p.length) 2 = b.take 2 := Y6 _ _ (by decide) (by rw [List.length_take]; omega) _ (by rw [Up (by omega), hpl]; rfl)
 have e2 : le8 ((sm p).setWidth 64) 4 = (b.drop 2).take 4 := by
  refine Y6 _ _ (by decide) (by rw [List.length_take, List.length_drop]; omega) _ ?_
  have hs : su4 b = sm p := by rw [hp]; simpa using h4
  rw [← hs]
  unfold su4
  rw [BitVec.toNat_setWidth, BitVec.toNat_setWidth]
  have hb : (vn ((b.drop 2).take 4) 4).toNat < 2 ^ 32 := by rw [Acl _ _ (by decide)]; exact Ab5 _ 4
  omega
 unfold fr
 rw [e1, e2, hpl]
 conv => lhs; rw [e0]
 rw [hp]
 unfold pay
 simp only [List.append_assoc]
theorem Air (b : List UInt8) : (opn b).1 = 0 ∨ (opn b).1 = 2 ∧ (opn b).2 = [] ∨ (opn b).1 = 4 ∧ (opn b).2 = [] ∨ (opn b).1 = 5 ∧ (opn b).2 = [] := by
 unfold opn
 split
 ·simp
 split
 ·simp
 split
 ·simp
 split
 ·simp
 ·simp
def Ayu (r : List UInt8) (e : Int) : Prop := (r = [] ∧ e = 0) ∨ (r ≠ [] ∧ e ≠ 0 ∧ opn r = (e, []))
def Ai8 (b : List UInt8) (l : List (List UInt8)) (r : List UInt8) (e : Int) : Prop := b = l.flatMap fr ++ r ∧ (∀ p ∈ l, p.length ≤ 512) ∧ Ayu r e
theorem Akm : opn [] = (2, []) := rfl
theorem Ai1 {b : List UInt8} : ∀ {l l' : List (List UInt8)} {r r' : List UInt8} {e e' : Int}, Ai8 b l r e → Ai8 b l' r' e' → l = l' ∧ r = r' ∧ e = e' := by
 intro l
 induction l generalizing b with
 | nil =>
  intro l' r r' e e' h h'
  cases l' with
  | nil =>
   have e1 : r = r' := by rw [← (show b = r from by simpa using h.1)]; simpa using h'.1
   subst e1
   refine ⟨rfl, rfl, ?_⟩
   rcases h.2.2 with ⟨h1, h2⟩ | ⟨h1, h2, h3⟩
   ·rcases h'.2.2 with ⟨h4, h5⟩ | ⟨h4, _⟩
    ·rw [h2, h5]
    ·exact absurd h1 h4
   ·rcases h'.2.2 with ⟨h4, _⟩ | ⟨_, _, h5⟩
    ·exact absurd h4 h1
    ·rw [h3] at h5; exact congrArg Prod.fst h5
  | cons p l' =>
   have hb : b = fr p ++ (l'.flatMap fr ++ r') := by have := h'.1; simpa using this
   have hr : b = r := by simpa using h.1
   have ho := Aia p (l'.flatMap fr ++ r') (h'.2.1 p (by simp))
   rw [← hb, hr] at ho
   rcases h.2.2 with ⟨h1, _⟩ | ⟨_, h2, h3⟩
   ·rw [h1, Akm] at ho; simp at ho
   ·rw [h3] at ho; exact absurd (congrArg Prod.fst ho) h2
 | cons p l ih =>
  intro l' r r' e e' h h'
  have hb : b = fr p ++ (l.flatMap fr ++ r) := by have := h.1; simpa using this
  have ho := Aia p (l.flatMap fr ++ r) (h.2.1 p (by simp))
  rw [← hb] at ho
  cases l' with
  | nil =>
   have hr : b = r' := by simpa using h'.1
   rw [hr] at ho
   rcases h'.2.2 with ⟨h1, _⟩ | ⟨_, h2, h3⟩
   ·rw [h1, Akm] at ho; simp at ho
   ·rw [h3] at ho; exact absurd (congrArg Prod.fst ho) h2
  | cons p' l' =>
   have hb' : b = fr p' ++ (l'.flatMap fr ++ r') := by have := h'.1; simpa using this
   have ho' := Aia p' (l'.flatMap fr ++ r') (h'.2.1 p' (by simp))
   rw [← hb', ho] at ho'
   have e1 : p = p' := congrArg Prod.snd ho'
   subst e1
   have e2 : l.flatMap fr ++ r = l'.flatMap fr ++ r' := List.append_cancel_left (hb.symm.trans hb')
   obtain ⟨e3, e4, e5⟩ := ih (b := l.flatMap fr ++ r) ⟨rfl, fun q hq => h.2.1 q (by simp [hq]), h.2.2⟩ ⟨e2, fun q hq => h'.2.1 q (by simp [hq]), h'.2.2⟩
   exact ⟨by rw [e3], e4, e5⟩
theorem Ac1 (l : List (List UInt8)) (p : List UInt8) : (l ++ [p]).flatMap fr = l.flatMap fr ++ fr p := by simp
theorem w82 : (w8 2).toNat = 2 := rfl
theorem w84 : (w8 4).toNat = 4 := rfl
theorem Akh (p : List UInt8) (h : p.length ≤ 100000) : J1 p = some (sm p) := by
 unfold J1
 rw [U_m _ _ _ (by simp), w82, BitVec.ofInt_natCast]
 simp only [Option.bind_some, List.nil_append]
 rw [Crc.of_m _ (by rw [Gb]; omega)]
 simp only [Option.bind_some]
 rw [Crc.more_m _ _ h]
 rfl
theorem Aii (a p : List UInt8) (ha : a.length ≤ 1000000) (h : p.length ≤ 512) : Ko a p = some (a ++ fr p, 0) := by
 unfold Ko Ot
 rw [if_neg (by rw [decide_eq_true_eq]; omega), Akh p (by omega)]
 simp only [Option.bind_some]
 rw [U_m _ _ _ (by simp), w82, BitVec.ofInt_natCast]
 simp only [Option.bind_some, List.nil_append]
 rw [U_m _ _ _ (by rw [Gb]; omega), w84]
 simp only [Option.bind_some]
 rw [Jp _ (by simp [Gb]; omega) (by simp)]
 simp [fr]
theorem Ai9 (n p : Nat) (d : List UInt8) (h1 : 1 ≤ n) (h8 : n ≤ 8) (hp : p ≤ d.length) (h : d.length < p + n) (hd : d.length ≤ 100000000) : Ax n 0 p d = some (0#64, 2, (p : Int)) := by
 unfold Ax Bo
 simp only [Option.bind_some]
 rw [if_neg (by simp), if_neg (by rw [decide_eq_true_eq]; omega), if_neg (by rw [decide_eq_true_eq]; omega)]
 unfold D4
 rw [Tz _ _ _ hp (by omega) hd]
 rfl
theorem Awv (n e p : Int) (d : List UInt8) (he : e ≠ 0) : Ax n e p d = some (0#64, e, p) := by
 unfold Ax Bo
 simp only [Option.bind_some]
 rw [if_pos (by simpa using he)]
theorem At0 {b : List UInt8} : hd2 b < 65536 := by
 unfold hd2
 rw [Acl _ _ (by decide)]
 exact Ab5 _ 2
theorem Ats (b : List UInt8) (hb : b.length ≤ 100000000) : ∃ w, M0 b = some (w, (opn b).1) ∧ w.payload_ = (opn b).2 ∧ w.head_.size_ = ((opn b).2.length : Int) := by
 unfold M0 Ki Bo
 simp only [Option.bind_some]
 by_cases h2 : b.length < 2
 ·have e : opn b = (2, []) := by unfold opn; rw [if_pos h2]
  rw [show Ax 2 0 0 b = some (0#64, 2, 0) from Ai9 2 0 b (by decide) (by decide) (Nat.zero_le _) (by omega) hb, e]
  simp only [Option.bind_some]
  rw [if_neg (by decide), Awv _ _ _ _ (by decide)]
  exact ⟨_, rfl, rfl, rfl⟩
 rw [show Ax 2 0 0 b = some (vn (b.take 2) 2, 0, 2) from Af6 2 0 b (by decide) (by decide) (by omega) hb]
 simp only [Option.bind_some]
 have hh : (vn (b.take 2) 2).toNat = hd2 b := rfl
 have hlt := At0 (b := b)
 rw [hh, Dl (n := (hd2 b : Int)) (by omega) (by omega)]
 by_cases h5 : 512 < hd2 b
 ·have e : opn b = (5, []) := by unfold opn; rw [if_neg h2, if_pos h5]
  rw [if_pos (decide_eq_true (by omega)), e]
  exact ⟨_, rfl, rfl, rfl⟩
 rw [if_neg (by rw [decide_eq_true_eq]; omega)]
 have eo : opn b = if b.length < 6 + hd2 b then (2, []) else if su4 b ≠ sm (pay b) then (4, []) else (0, pay b) := by
  unfold opn; rw [if_neg h2, if_neg h5]
 by_cases h6 : b.length < 6
 ·rw [show Ax 4 0 2 b = some (0#64, 2, 2) from Ai9 4 2 b (by decide) (by decide) (by omega) (by omega) hb, eo, if_pos (by omega)]
  simp only [Option.bind_some]
  rw [if_pos (by decide)]
  exact ⟨_, rfl, rfl, rfl⟩
 rw [show Ax 4 0 2 b = some (vn ((b.drop 2).take 4) 4, 0, 6) from Af6 4 2 b (by decide) (by decide) (by omega) hb]
 simp only [Option.bind_some]
 rw [if_neg (by simp), Dl (by omega) (by omega)]
 by_cases h7 : b.length < 6 + hd2 b
 ·rw [if_pos (decide_eq_true (by omega)), eo, if_pos h7]
  exact ⟨_, rfl, rfl, rfl⟩
 rw [if_neg (by rw [decide_eq_true_eq]; omega), eo, if_neg h7]
 unfold Mc
 rw [hh, Dl (n := (hd2 b : Int)) (by omega) (by omega), Dl (by omega) (by omega), Qh (by omega) (by omega) (by omega)]
 simp only [Option.bind_some]
 have ep : (b.drop (6 : Int).toNat).take ((6 + (hd2 b : Int)).toNat - (6 : Int).toNat) = pay b := by
  unfold pay
  rw [show (6 + (hd2 b : Int)).toNat - (6 : Int).toNat = hd2 b from by omega]
  rfl
 have hpl : (pay b).length = hd2 b := by unfold pay; rw [List.length_take, List.length_drop]; omega
 rw [ep, Akh _ (by omega)]
 simp only [Option.bind_some]
 have es : (vn ((b.drop 2).take 4) 4).setWidth 32 = su4 b := rfl
 rw [es]
 by_cases h8 : su4 b = sm (pay b)
 ·rw [if_neg (by rw [h8]; simp), if_neg (by simp [h8])]
  exact ⟨_, rfl, rfl, by show (hd2 b : Int) = _; rw [hpl]⟩
 ·rw [if_pos (by rw [Bool.not_eq_true', decide_eq_false_iff_not]; exact fun h => h8 (BitVec.eq_of_toNat_eq (by omega))), if_pos h8]
  exact ⟨_, rfl, rfl, rfl⟩
def rdS (b : List UInt8) (at_ : Int) : List UInt8 × Int × Int :=
 if at_ < 0 ∨ (b.length : Int) < at_ then ([], 0, 1) else if (opn (b.drop at_.toNat)).1 = 0 then ((opn (b.drop at_.toNat)).2, at_ + 6 + (opn (b.drop at_.toNat)).2.length, 0) else ([], 0, (opn (b.drop at_.toNat)).1)
theorem Apj (b : List UInt8) (n : Nat) (h : n ≤ b.length) : rdS b (n : Int) = if (opn (b.drop n)).1 = 0 then ((opn (b.drop n)).2, (n : Int) + 6 + (opn (b.drop n)).2.length, 0) else ([], 0, (opn (b.drop n)).1) := by
 unfold rdS
 rw [if_neg (by omega), Int.toNat_natCast]
theorem Aid {b : List UInt8} (h : (opn b).1 = 0) : (opn b).2.length ≤ 512 ∧ 6 + (opn b).2.length ≤ b.length := by
 have := Af1 (b := b) (p := (opn b).2) (Prod.ext h rfl)
 refine ⟨this.1, ?_⟩
 have hl := congrArg List.length this.2
 rw [List.length_append, V7, List.length_drop] at hl
 omega
theorem Aoa (b : List UInt8) (i : Int) (hb : b.length ≤ 100000000) : K8 b i = some (rdS b i) := by
 unfold K8 rdS
 by_cases h0 : i < 0
 ·rw [if_pos (decide_eq_true h0), if_pos (.inl h0)]
 rw [if_neg (by rw [decide_eq_true_eq]; exact h0)]
 by_cases h1 : (b.length : Int) < i
 ·rw [if_pos (decide_eq_true h1), if_pos (.inr h1)]
 rw [if_neg (by rw [decide_eq_true_eq]; exact h1), if_neg (by omega)]
 unfold Mb
 rw [Qh (by omega) (by omega) (by omega)]
 simp only [Option.bind_some]
 have e : (b.drop i.toNat).take ((b.length : Int).toNat - i.toNat) = b.drop i.toNat := List.take_of_length_le (by rw [List.length_drop]; omega)
 rw [e]
 obtain ⟨w, hw, h2, h3⟩ := Ats (b.drop i.toNat) (by rw [List.length_drop]; omega)
 rw [hw]
 simp only [Option.bind_some]
 by_cases h4 : (opn (b.drop i.toNat)).1 = 0
 ·have h5 := Aid h4
  rw [if_neg (by simp [h4]), if_pos h4, h2, h3, Wd _ (by omega)]
  simp only [Option.bind_some]
  rw [Dl (n := i + 6) (by omega) (by omega), Dl (by omega) (by omega)]
 ·rw [if_pos (by simpa using h4), if_neg h4]
theorem Agx (b : List UInt8) (hb : b.length ≤ 1000000) {ρ : Type} {f : Int × List (List UInt8) → Option (LR (Int × List (List UInt8)) (Int × List (List UInt8)) ρ)} (mk : List (List UInt8) → Int → Int → ρ)
  (hf : ∀ s, f s = if (decide (s.1 < (b.length : Int))) then ((some (rdS b s.1)).bind fun v3 => if (!decide (v3.2.2 = 0)) then (some (.ret (mk s.2 s.1 v3.2.2))) else (if (s.2.length + [v3.1].length) * 24 ≤ 140737488355328 then (some (.cont (v3.2.1, (s.2 ++ [v3.1])))) else none)) else (some (.brk (s.1, s.2)))) :
  ∃ l r e x, Ai8 b l r e ∧ Qx f fuel (0, []) = some x ∧ (match x with | .inl y => e ≠ 0 ∧ y = mk l ((l.flatMap fr).length : Int) e | .inr y => e = 0 ∧ y = (((l.flatMap fr).length : Int), l)) := by
 obtain ⟨x, hx, l, r, e, h1, h2⟩ := Rx (f := f) (P := fun s => ∃ l : List (List UInt8), (∀ p ∈ l, p.length ≤ 512) ∧ s = (((l.flatMap fr).length : Int), l) ∧ b = l.flatMap fr ++ b.drop (l.flatMap fr).length ∧ l.length ≤ (l.flatMap fr).length ∧ (l.flatMap fr).length ≤ b.length)
  (μ := fun s => b.length - s.1.toNat) (R := fun x => ∃ l r e, Ai8 b l r e ∧ (match x with | .inl y => e ≠ 0 ∧ y = mk l ((l.flatMap fr).length : Int) e | .inr y => e = 0 ∧ y = (((l.flatMap fr).length : Int), l))) (by
  rintro _ ⟨l, hl, rfl, hpre, hll, hle⟩
  rw [hf]
  dsimp only
  generalize hn : (l.flatMap fr).length = n at *
  rcases Nat.lt_or_ge n b.length with hlt | hge
  ·rw [if_pos (decide_eq_true (by omega))]
   simp only [Option.bind_some]
   rw [Apj b n (by omega)]
   have hdl : (b.drop n).length = b.length - n := List.length_drop
   by_cases h0 : (opn (b.drop n)).1 = 0
   ·left
    have h1 := Aid h0
    have h3 := (Af1 (b := b.drop n) (p := (opn (b.drop n)).2) (Prod.ext h0 rfl)).2
    generalize (opn (b.drop n)).2 = p at h1 h3 ⊢
    rw [if_pos h0]
    try dsimp only
    rw [if_neg (by simp), if_pos (by simp only [List.length_cons, List.length_nil]; omega)]
    have hfl : ((l ++ [p]).flatMap fr).length = n + (6 + p.length) := by rw [Ac1, List.length_append, V7, hn]
    refine ⟨_, rfl, ⟨l ++ [p], fun q hq => ?_, ?_, ?_, ?_, ?_⟩, ?_⟩
    ·rcases List.mem_append.1 hq with h | h
     ·exact hl q h
     ·rw [List.mem_singleton.1 h]; exact h1.1
    ·rw [hfl]; exact Prod.ext (by show _ = _; omega) rfl
    ·rw [hfl, Ac1, List.append_assoc]
     conv => lhs; rw [hpre, h3]
     rw [List.drop_drop]
    ·rw [hfl, List.length_append]; simp only [List.length_cons, List.length_nil]; omega
    ·rw [hfl]; omega
    ·show b.length - ((n : Int) + 6 + p.length).toNat < b.length - (n : Int).toNat
     omega
   ·right; right
    rw [if_neg h0]
    try dsimp only
    rw [if_pos (by simpa using h0)]
    refine ⟨_, rfl, l, b.drop n, (opn (b.drop n)).1, ⟨hpre, hl, .inr ⟨fun hc => by rw [hc] at hdl; simp at hdl; omega, h0, ?_⟩⟩, h0, by rw [hn]⟩
    rcases Air (b.drop n) with h | h | h | h
    ·exact absurd h h0
    all_goals exact Prod.ext rfl h.2
  ·right; left
   rw [if_neg (by rw [decide_eq_true_eq]; omega)]
   refine ⟨_, rfl, l, [], 0, ⟨?_, hl, .inl ⟨rfl, rfl⟩⟩, rfl, by rw [hn]⟩
   rw [List.append_nil]
   conv => lhs; rw [hpre, List.drop_of_length_le hge, List.append_nil]) fuel (0, []) ⟨[], by simp, rfl, by simp, by simp, by simp⟩ (Gz (by show b.length - 0 ≤ _; omega))
 exact ⟨l, r, e, x, h1, hx, h2⟩
theorem Ajk (b : List UInt8) (hb : b.length ≤ 1000000) : ∃ l r e, Ai8 b l r e := by
 obtain ⟨l, r, e, _, h, _⟩ := Agx b hb (fun a b c => (a, b, c)) (fun s => rfl)
 exact ⟨l, r, e, h⟩
theorem Axq {b : List UInt8} (hb : b.length ≤ 1000000) {l : List (List UInt8)} {r : List UInt8} {e : Int} (h : Ai8 b l r e) : Np b = some (l, ((l.flatMap fr).length : Int), e) := by
 obtain ⟨l', r', e', x, h', hx, hm⟩ := Agx b hb (f := K4 b) (fun a b c => (a, b, c)) (fun s => by unfold K4; rw [Aoa _ _ (by omega)])
 obtain ⟨rfl, rfl, rfl⟩ := Ai1 h h'
 unfold Np
 rw [hx]
 cases x with
 | inl y => obtain ⟨_, rfl⟩ := hm; rfl
 | inr y => obtain ⟨h0, rfl⟩ := hm; rw [h0]; rfl
def Aa9 (e : Int) : Bool := decide (e = 4) || decide (e = 5)
def Sw (b : List UInt8) (d : Int) : Bool := if Aa9 d then decide (b.length = 0) else if d ≠ 0 then false else decide ((opn b).1 = 2)
theorem Af5 (e : Int) : H7 e = some (Aa9 e) := by
 unfold H7 Aa9
 by_cases h : e = 4
 ·rw [if_pos (decide_eq_true h), decide_eq_true h]; rfl
 ·rw [if_neg (by simpa using h), decide_eq_false h, Bool.false_or]
theorem rd0 (b : List UInt8) : (rdS b 0).2.2 = (opn b).1 := by
 have := Apj b 0 (Nat.zero_le _)
 rw [show ((0 : Nat) : Int) = 0 from rfl, List.drop_zero] at this
 rw [this]
 by_cases h : (opn b).1 = 0
 ·rw [if_pos h, h]
 ·rw [if_neg h]
theorem Ays (b : List UInt8) : decide ((b.length : Int) = 0) = decide (b.length = 0) := by
 by_cases h : b.length = 0
 ·rw [decide_eq_true h, decide_eq_true (by omega)]
 ·rw [decide_eq_false h, decide_eq_false (by omega)]
theorem An4 {b : List UInt8} (h : b.length = 0) : (opn b).1 = 2 := by
 rw [List.eq_nil_of_length_eq_zero h]; rfl
theorem Aga (s : A0) (h : s.Buf.length ≤ 100000000) : Hj s = some (Sw s.Buf s.Dead) := by
 unfold Hj Sw
 rw [Af5]
 simp only [Option.bind_some]
 cases hd : Aa9 s.Dead with
 | true => rw [if_pos rfl, if_pos rfl, Ays]
 | false =>
  simp only [Bool.false_eq_true, if_false]
  by_cases h0 : s.Dead = 0
  ·rw [if_neg (by simp [h0]), if_neg (by simp [h0]), Aoa _ _ h]
   simp only [Option.bind_some]
   rw [rd0, Ays]
   by_cases hb : s.Buf.length = 0
   ·rw [if_pos (decide_eq_true hb), decide_eq_true (An4 hb)]
   ·rw [if_neg (by simpa using hb)]
  ·rw [if_pos (by simpa using h0), if_pos h0]
theorem Asn (b : List UInt8) (n : Nat) (hn : n ≤ b.length) (h : b.length ≤ 100000000) : Ls b (n : Int) = some (b.drop n) := by
 unfold Ls
 rw [Qh (by omega) (by omega) (by omega)]
 simp only [Option.bind_some]
 have e : (b.drop ((n : Nat) : Int).toNat).take ((b.length : Int).toNat - ((n : Nat) : Int).toNat) = b.drop n := by
  rw [Int.toNat_natCast]
  exact List.take_of_length_le (by rw [List.length_drop]; omega)
 rw [e]
 have hl : (b.drop n).length ≤ 100000000 := by rw [List.length_drop]; omega
 generalize b.drop n = c at hl
 have hr : (List.replicate (c.length : Int).toNat (0 : UInt8)).length = c.length := by rw [List.length_replicate]; omega
 have hc : c.take (List.replicate (c.length : Int).toNat (0 : UInt8)).length ++ (List.replicate (c.length : Int).toNat (0 : UInt8)).drop c.length = c := by
  rw [hr, List.take_of_length_le (Nat.le_refl _), List.drop_of_length_le (by rw [hr]; exact Nat.le_refl _), List.append_nil]
 have hm : Nat.min c.length c.length = c.length := Nat.min_self _
 rw [if_pos (by omega), if_pos (by omega), hc, hr, hm, Qh (by omega) (by omega) (by omega)]
 simp only [Option.bind_some]
 rw [if_pos (by omega)]
 simp
def left (r : List UInt8) (e : Int) : List UInt8 := if Aa9 e then [] else r
def Auw (e : Int) : Int := if Aa9 e then e else 0
theorem Anw {b r : List UInt8} {l : List (List UInt8)} {e : Int} (h : Ai8 b l r e) : b.drop (l.flatMap fr).length = r ∧ (l.flatMap fr).length ≤ b.length := by
 constructor
 ·conv => lhs; arg 2; rw [h.1]
  exact List.drop_left
 ·rw [h.1, List.length_append]; omega
theorem Alo (s : A0) (b : List UInt8) (hs : Sw s.Buf s.Dead = true) (h0 : s.Dead = 0) (hl : s.Buf.length + b.length ≤ 1000000) {l : List (List UInt8)} {r : List UInt8} {e : Int} (h : Ai8 (s.Buf ++ b) l r e) :
  Ek s b = some (⟨left r e, Auw e⟩, l, Auw e) := by
 unfold Ek
 rw [Aga _ (by show s.Buf.length ≤ _; omega)]
 simp only [Option.bind_some]
 show (if (!Sw s.Buf s.Dead) = true then _ else _) = _
 rw [hs, if_neg (by simp), if_neg (by simp [h0]), Jp _ (by simp; omega) (by simp)]
 simp only [Option.bind_some]
 have hf : [s.Buf, b].flatten = s.Buf ++ b := by simp
 rw [hf, Axq (by rw [List.length_append]; omega) h]
 simp only [Option.bind_some]
 rw [Af5]
 simp only [Option.bind_some]
 unfold left Auw
 cases hd : Aa9 e with
 | true => rfl
 | false =>
  have hc := Anw h
  rw [if_neg (by simp), Asn _ _ hc.2 (by rw [List.length_append]; omega), hc.1]
  rfl
theorem Au6 (s : A0) (b : List UInt8) (hs : Sw s.Buf s.Dead = false) (hl : s.Buf.length ≤ 1000000) : Ek s b = some (⟨[], 0⟩, [], 1) := by
 unfold Ek
 rw [Aga _ (by show s.Buf.length ≤ _; omega)]
 simp only [Option.bind_some]
 show (if (!Sw s.Buf s.Dead) = true then _ else _) = _
 rw [hs]
 rfl
theorem Akg (s : A0) (b : List UInt8) (hs : Sw s.Buf s.Dead = true) (h0 : s.Dead ≠ 0) (hl : s.Buf.length ≤ 1000000) : Ek s b = some (s, [], 13) := by
 unfold Ek
 rw [Aga _ (by show s.Buf.length ≤ _; omega)]
 simp only [Option.bind_some]
 show (if (!Sw s.Buf s.Dead) = true then _ else _) = _
 rw [hs, if_neg (by simp), if_pos (by simpa using h0)]
theorem Aje {r : List UInt8} {e : Int} (h : Ayu r e) : (e = 0 ∧ r = []) ∨ (e = 2 ∧ opn r = (2, [])) ∨ (Aa9 e = true ∧ opn r = (e, []) ∧ e ≠ 0 ∧ e ≠ 2) := by
 rcases h with ⟨h1, h2⟩ | ⟨h1, h2, h3⟩
 ·exact .inl ⟨h2, h1⟩
 ·have h4 : (opn r).1 = e := by rw [h3]
  rcases Air r with h | h | h | h
  ·exact absurd (h4.symm.trans h) h2
  ·have : e = 2 := h4.symm.trans h.1
   subst this; exact .inr (.inl ⟨rfl, h3⟩)
  ·have : e = 4 := h4.symm.trans h.1
   subst this; exact .inr (.inr ⟨rfl, h3, by decide, by decide⟩)
  ·have : e = 5 := h4.symm.trans h.1
   subst this; exact .inr (.inr ⟨rfl, h3, by decide, by decide⟩)
theorem Ai3 {b r : List UInt8} {l : List (List UInt8)} {e : Int} (h : Ai8 b l r e) : Sw (left r e) (Auw e) = true := by
 unfold Sw left Auw
 rcases Aje h.2.2 with ⟨rfl, rfl⟩ | ⟨rfl, h1⟩ | ⟨h1, h2, _⟩
 ·rfl
 ·simp [Aa9, h1]
 ·simp [h1]
theorem Ajt {b r : List UInt8} {l : List (List UInt8)} {e : Int} (h : Ai8 b l r e) : l.length ≤ b.length ∧ r.length ≤ b.length := by
 have h1 := congrArg List.length h.1
 rw [List.length_append] at h1
 have h2 : l.length ≤ (l.flatMap fr).length := by
  clear h h1
  induction l with
  | nil => simp
  | cons p l ih => rw [List.flatMap_cons, List.length_append, V7, List.length_cons]; omega
 omega
end Go.Proofs.YtbjckaahoacbfaaGreatDoor.Abs
