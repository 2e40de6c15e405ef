/-
  Frames: what stands in bytes, and how it is read. Plain mathematics.
-/
import Derived.Test.YthofeonffhenmaaP03
import Derived.Test.YthofeonffhenmaaQ03
namespace Go.Proofs.Ythofeonffhenmaa.Abs

/-- The sum of how many bytes a payload has, and of these. -/
def sm (p : List UInt8) : BitVec 32 := ~~~ Crc.fold8 (~~~ (~~~ Crc.fold8 (~~~ 0#32) (le8 (BitVec.ofNat 64 p.length) 2))) p
/-- A payload's frame. -/
def fr (p : List UInt8) : List UInt8 := le8 (BitVec.ofNat 64 p.length) 2 ++ le8 ((sm p).setWidth 64) 4 ++ p
theorem fr_len (p : List UInt8) : (fr p).length = 6 + p.length := by simp [fr, le8_len]; omega

def hd2 (b : List UInt8) : Nat := (vn (b.take 2) 2).toNat
def su4 (b : List UInt8) : BitVec 32 := (vn ((b.drop 2).take 4) 4).setWidth 32
def pay (b : List UInt8) : List UInt8 := (b.drop 6).take (hd2 b)
/-- What stands first in bytes: why there is no frame, or its payload. -/
def opn (b : List UInt8) : Int × List UInt8 :=
  if b.length < 2 then (2, []) else if 512 < hd2 b then (5, []) else if b.length < 6 + hd2 b then (2, []) else if su4 b ≠ sm (pay b) then (4, []) else (0, pay b)

theorem take_app {α : Type} {a b : List α} {n : Nat} (h : n ≤ a.length) : (a ++ b).take n = a.take n := List.take_append_of_le_length h
theorem hd2_app {b c : List UInt8} (h : 2 ≤ b.length) : hd2 (b ++ c) = hd2 b := by unfold hd2; rw [take_app h]
theorem su4_app {b c : List UInt8} (h : 6 ≤ b.length) : su4 (b ++ c) = su4 b := by
  unfold su4
  rw [List.drop_append_of_le_length (by omega), take_app (by rw [List.length_drop]; omega)]
theorem pay_app {b c : List UInt8} (h : 6 + hd2 b ≤ b.length) : pay (b ++ c) = pay b := by
  unfold pay
  rw [hd2_app (by omega), List.drop_append_of_le_length (by omega), take_app (by rw [List.length_drop]; omega)]
theorem ofNat_toNat_lt {n : Nat} (h : n < 2 ^ 64) : (BitVec.ofNat 64 n).toNat = n := by rw [BitVec.toNat_ofNat]; exact Nat.mod_eq_of_lt h
theorem hd2_fr (p c : List UInt8) (h : p.length ≤ 512) : hd2 (fr p ++ c) = p.length := by
  unfold hd2 fr
  rw [List.append_assoc, List.append_assoc, take_app (by rw [le8_len]; exact Nat.le_refl _), List.take_of_length_le (by rw [le8_len]; exact Nat.le_refl _), vn_le8 _ _ (by decide), ofNat_toNat_lt (by omega)]
  exact Nat.mod_eq_of_lt (by omega)
theorem su4_fr (p c : List UInt8) : su4 (fr p ++ c) = sm p := by
  unfold su4 fr
  have e : (le8 (BitVec.ofNat 64 p.length) 2 ++ le8 ((sm p).setWidth 64) 4 ++ p ++ c).drop 2 = le8 ((sm p).setWidth 64) 4 ++ (p ++ c) := by
    rw [List.append_assoc, List.append_assoc]
    have := List.drop_left (l₁ := le8 (BitVec.ofNat 64 p.length) 2) (l₂ := le8 ((sm p).setWidth 64) 4 ++ (p ++ c))
    rwa [le8_len] at this
  rw [e, take_app (by rw [le8_len]; exact Nat.le_refl _), List.take_of_length_le (by rw [le8_len]; exact Nat.le_refl _)]
  apply BitVec.eq_of_toNat_eq
  rw [BitVec.toNat_setWidth, vn_le8 _ _ (by decide), BitVec.toNat_setWidth]
  have := (sm p).isLt
  omega
theorem pay_fr (p c : List UInt8) (h : p.length ≤ 512) : pay (fr p ++ c) = p := by
  unfold pay
  rw [hd2_fr p c h]
  unfold fr
  have e : (le8 (BitVec.ofNat 64 p.length) 2 ++ le8 ((sm p).setWidth 64) 4 ++ p ++ c).drop 6 = p ++ c := by
    rw [List.append_assoc]
    have := List.drop_left (l₁ := le8 (BitVec.ofNat 64 p.length) 2 ++ le8 ((sm p).setWidth 64) 4) (l₂ := p ++ c)
    rwa [List.length_append, le8_len, le8_len] at this
  rw [e, List.take_left]
theorem opn_fr (p c : List UInt8) (h : p.length ≤ 512) : opn (fr p ++ c) = (0, p) := by
  unfold opn
  have hl : (fr p ++ c).length = 6 + p.length + c.length := by rw [List.length_append, fr_len]
  rw [if_neg (by omega), hd2_fr p c h, if_neg (by omega), if_neg (by omega), su4_fr, pay_fr p c h, if_neg (by simp)]
theorem vn_take_le8 (l : List UInt8) (n : Nat) (hn : n ≤ 8) (h : l.length = n) (v : BitVec 64) (hv : v.toNat = (vn l n).toNat) : le8 v n = l := by
  apply List.ext_getElem (by rw [le8_len, h])
  intro i h1 h2
  have h1' : i < n := by rw [le8_len] at h1; exact h1
  have e : v = vn l n := BitVec.eq_of_toNat_eq hv
  subst e
  have hvn : (vn l n).toNat = ns l n := vn_ns l n hn
  simp only [le8, List.getElem_map, List.getElem_range]
  apply UInt8.toNat_inj.1
  have key : ∀ m, i < m → m ≤ n → (ns l m) / 2 ^ (8 * i) % 256 = l[i].toNat := by
    intro m him hmn
    induction m with
    | zero => omega
    | succ m ih =>
      show (ns l m + (l.getD m 0).toNat * 2 ^ (8 * m)) / 2 ^ (8 * i) % 256 = _
      rcases Nat.lt_or_ge i m with hlt | hge
      · have e : 2 ^ (8 * m) = 2 ^ (8 * i) * (256 * 2 ^ (8 * (m - i - 1))) := by
          rw [show (256 : Nat) = 2 ^ 8 from rfl, ← Nat.pow_add, ← Nat.pow_add]
          congr 1
          omega
        rw [e, Nat.mul_left_comm, Nat.add_mul_div_left _ _ (Nat.pow_pos (by decide)), Nat.mul_left_comm, Nat.add_mul_mod_self_left]
        exact ih hlt (by omega)
      · have e : m = i := by omega
        subst e
        have hlt := ns_lt l m
        rw [Nat.add_mul_div_right _ _ (Nat.pow_pos (by decide)), Nat.div_eq_of_lt hlt, Nat.zero_add, List.getD_eq_getElem?_getD, List.getElem?_eq_getElem h2, Option.getD_some]
        exact Nat.mod_eq_of_lt l[m].toNat_lt
  have := key n (by omega) (Nat.le_refl _)
  rw [← this]
  show ((vn l n >>> (8 * i)).setWidth 8).toNat = _
  rw [BitVec.toNat_setWidth, BitVec.toNat_ushiftRight, hvn, Nat.shiftRight_eq_div_pow]
/-- What was read is the frame of what it gave. -/
theorem opn_back {b p : List UInt8} (h : opn b = (0, p)) : p.length ≤ 512 ∧ b = fr p ++ b.drop (6 + p.length) := by
  unfold opn at h
  split at h
  · simp at h
  split at h
  · simp at h
  split at h
  · simp at h
  split at h
  · simp at h
  rename_i h1 h2 h3 h4
  have hp : p = pay b := by simpa using h.symm
  have hpl : p.length = hd2 b := by rw [hp]; unfold pay; rw [List.length_take, List.length_drop]; omega
  refine ⟨by omega, ?_⟩
  have e0 : b = b.take 2 ++ ((b.drop 2).take 4 ++ ((b.drop 6).take (hd2 b) ++ b.drop (6 + hd2 b))) := by
    rw [← List.drop_drop, List.take_append_drop, show b.drop 6 = (b.drop 2).drop 4 from by rw [List.drop_drop], List.take_append_drop, List.take_append_drop]
  have e1 : le8 (BitVec.ofNat 64 p.length) 2 = b.take 2 := vn_take_le8 _ _ (by decide) (by rw [List.length_take]; omega) _ (by rw [ofNat_toNat_lt (by omega), hpl]; rfl)
  have e2 : le8 ((sm p).setWidth 64) 4 = (b.drop 2).take 4 := by
    refine vn_take_le8 _ _ (by decide) (by rw [List.length_take, List.length_drop]; omega) _ ?_
    have hs : su4 b = sm p := by rw [hp]; simpa using h4
    rw [← hs]
    unfold su4
    rw [BitVec.toNat_setWidth, BitVec.toNat_setWidth]
    have hb : (vn ((b.drop 2).take 4) 4).toNat < 2 ^ 32 := by rw [vn_ns _ _ (by decide)]; exact ns_lt _ 4
    omega
  unfold fr
  rw [e1, e2, hpl]
  conv => lhs; rw [e0]
  rw [hp]
  unfold pay
  simp only [List.append_assoc]
theorem fr_inj {p q : List UInt8} (hp : p.length ≤ 512) (hq : q.length ≤ 512) (h : fr p = fr q) : p = q := by
  have h1 := opn_fr p [] hp
  rw [h, opn_fr q [] hq] at h1
  exact (congrArg Prod.snd h1).symm
theorem opn_bad_app {b c : List UInt8} {e : Int} (h : (opn b).1 = e) (he : e ≠ 2) : opn (b ++ c) = opn b := by
  unfold opn at h ⊢
  split at h
  · exact absurd h.symm he
  rename_i h1
  rw [if_neg (by rw [List.length_append]; omega), if_neg h1, hd2_app (by omega)]
  split at h
  · rename_i h2
    rw [if_pos h2, if_pos h2]
  rename_i h2
  rw [if_neg h2, if_neg h2]
  split at h
  · exact absurd h.symm he
  rename_i h3
  rw [if_neg (by rw [List.length_append]; omega), if_neg h3, su4_app (by omega), pay_app (by omega)]
theorem opn_short {p : List UInt8} (hp : p.length ≤ 512) {n : Nat} (h : n < 6 + p.length) : opn ((fr p).take n) = (2, []) := by
  have hl : ((fr p).take n).length = n := by rw [List.length_take, fr_len]; omega
  unfold opn
  rw [hl]
  by_cases h2 : n < 2
  · rw [if_pos h2]
  have e : hd2 ((fr p).take n) = p.length := by
    have := hd2_fr p [] hp
    rw [List.append_nil] at this
    rw [← this]
    unfold hd2
    rw [List.take_take, Nat.min_eq_left (by omega)]
  rw [if_neg h2, e, if_neg (by omega), if_pos h]
theorem opn_fst (b : List UInt8) : (opn b).1 = 0 ∨ (opn b).1 = 2 ∧ (opn b).2 = [] ∨ (opn b).1 = 4 ∧ (opn b).2 = [] ∨ (opn b).1 = 5 ∧ (opn b).2 = [] := by
  unfold opn
  split
  · simp
  split
  · simp
  split
  · simp
  split
  · simp
  · simp

/-- Why frames end: there are no more bytes, or what stands there is none. -/
def stpR (r : List UInt8) (e : Int) : Prop := (r = [] ∧ e = 0) ∨ (r ≠ [] ∧ e ≠ 0 ∧ opn r = (e, []))
/-- Frames one behind the other, and what is behind them. -/
def AllS (b : List UInt8) (l : List (List UInt8)) (r : List UInt8) (e : Int) : Prop := b = l.flatMap fr ++ r ∧ (∀ p ∈ l, p.length ≤ 512) ∧ stpR r e
theorem opn_nil : opn [] = (2, []) := rfl
theorem allS_uniq {b : List UInt8} : ∀ {l l' : List (List UInt8)} {r r' : List UInt8} {e e' : Int}, AllS b l r e → AllS b l' r' e' → l = l' ∧ r = r' ∧ e = e' := by
  intro l
  induction l generalizing b with
  | nil =>
    intro l' r r' e e' h h'
    cases l' with
    | nil =>
      have e1 : r = r' := by rw [← (show b = r from by simpa using h.1)]; simpa using h'.1
      subst e1
      refine ⟨rfl, rfl, ?_⟩
      rcases h.2.2 with ⟨h1, h2⟩ | ⟨h1, h2, h3⟩
      · rcases h'.2.2 with ⟨h4, h5⟩ | ⟨h4, _⟩
        · rw [h2, h5]
        · exact absurd h1 h4
      · rcases h'.2.2 with ⟨h4, _⟩ | ⟨_, _, h5⟩
        · exact absurd h4 h1
        · rw [h3] at h5; exact congrArg Prod.fst h5
    | cons p l' =>
      have hb : b = fr p ++ (l'.flatMap fr ++ r') := by have := h'.1; simpa using this
      have hr : b = r := by simpa using h.1
      have ho := opn_fr p (l'.flatMap fr ++ r') (h'.2.1 p (by simp))
      rw [← hb, hr] at ho
      rcases h.2.2 with ⟨h1, _⟩ | ⟨_, h2, h3⟩
      · rw [h1, opn_nil] at ho; simp at ho
      · rw [h3] at ho; exact absurd (congrArg Prod.fst ho) h2
  | cons p l ih =>
    intro l' r r' e e' h h'
    have hb : b = fr p ++ (l.flatMap fr ++ r) := by have := h.1; simpa using this
    have ho := opn_fr p (l.flatMap fr ++ r) (h.2.1 p (by simp))
    rw [← hb] at ho
    cases l' with
    | nil =>
      have hr : b = r' := by simpa using h'.1
      rw [hr] at ho
      rcases h'.2.2 with ⟨h1, _⟩ | ⟨_, h2, h3⟩
      · rw [h1, opn_nil] at ho; simp at ho
      · rw [h3] at ho; exact absurd (congrArg Prod.fst ho) h2
    | cons p' l' =>
      have hb' : b = fr p' ++ (l'.flatMap fr ++ r') := by have := h'.1; simpa using this
      have ho' := opn_fr p' (l'.flatMap fr ++ r') (h'.2.1 p' (by simp))
      rw [← hb', ho] at ho'
      have e1 : p = p' := congrArg Prod.snd ho'
      subst e1
      have e2 : l.flatMap fr ++ r = l'.flatMap fr ++ r' := List.append_cancel_left (hb.symm.trans hb')
      obtain ⟨e3, e4, e5⟩ := ih (b := l.flatMap fr ++ r) ⟨rfl, fun q hq => h.2.1 q (by simp [hq]), h.2.2⟩ ⟨e2, fun q hq => h'.2.1 q (by simp [hq]), h'.2.2⟩
      exact ⟨by rw [e3], e4, e5⟩
theorem stpR_any (r : List UInt8) (h : (opn r).1 ≠ 0 ∨ r = []) : ∃ e, stpR r e := by
  by_cases hr : r = []
  · exact ⟨0, .inl ⟨hr, rfl⟩⟩
  · have h0 := h.resolve_right hr
    refine ⟨(opn r).1, .inr ⟨hr, h0, ?_⟩⟩
    rcases opn_fst r with h | h | h | h
    · exact absurd h h0
    all_goals exact Prod.ext rfl h.2
theorem flat_snoc (l : List (List UInt8)) (p : List UInt8) : (l ++ [p]).flatMap fr = l.flatMap fr ++ fr p := by simp
end Go.Proofs.Ythofeonffhenmaa.Abs
