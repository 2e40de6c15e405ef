/-
  What the library's functions compute.
-/
import Derived.Test.YtoojcpiigkmhiaaP04
import Derived.Test.YtoojcpiigkmhiaaQ04
namespace Go.Proofs.Ytoojcpiigkmhiaa.Abs



/-- The sum of how many bytes a payload has, and of these. -/
def sm (p : List UInt8) : BitVec 32 := ~~~ Crc.fold8 (~~~ (~~~ Crc.fold8 (~~~ 0#32) (le8 (BitVec.ofNat 64 p.length) 2))) p
/-- A payload's frame. -/
def fr (p : List UInt8) : List UInt8 := le8 (BitVec.ofNat 64 p.length) 2 ++ le8 ((sm p).setWidth 64) 4 ++ p
theorem fr_len (p : List UInt8) : (fr p).length = 6 + p.length := by simp [fr, le8_len]; omega

def hd2 (b : List UInt8) : Nat := (vn (b.take 2) 2).toNat
def su4 (b : List UInt8) : BitVec 32 := (vn ((b.drop 2).take 4) 4).setWidth 32
def pay (b : List UInt8) : List UInt8 := (b.drop 6).take (hd2 b)
/-- What stands first in bytes: why there is no frame, or its payload. -/
def opn (b : List UInt8) : Int × List UInt8 :=
  if b.length < 2 then (2, []) else if 512 < hd2 b then (5, []) else if b.length < 6 + hd2 b then (2, []) else if su4 b ≠ sm (pay b) then (4, []) else (0, pay b)

theorem take_app {α : Type} {a b : List α} {n : Nat} (h : n ≤ a.length) : (a ++ b).take n = a.take n := List.take_append_of_le_length h
theorem hd2_app {b c : List UInt8} (h : 2 ≤ b.length) : hd2 (b ++ c) = hd2 b := by unfold hd2; rw [take_app h]
theorem su4_app {b c : List UInt8} (h : 6 ≤ b.length) : su4 (b ++ c) = su4 b := by
  unfold su4
  rw [List.drop_append_of_le_length (by omega), take_app (by rw [List.length_drop]; omega)]
theorem pay_app {b c : List UInt8} (h : 6 + hd2 b ≤ b.length) : pay (b ++ c) = pay b := by
  unfold pay
  rw [hd2_app (by omega), List.drop_append_of_le_length (by omega), take_app (by rw [List.length_drop]; omega)]
theorem ofNat_toNat_lt {n : Nat} (h : n < 2 ^ 64) : (BitVec.ofNat 64 n).toNat = n := by rw [BitVec.toNat_ofNat]; exact Nat.mod_eq_of_lt h
theorem hd2_fr (p c : List UInt8) (h : p.length ≤ 512) : hd2 (fr p ++ c) = p.length := by
  unfold hd2 fr
  rw [List.append_assoc, List.append_assoc, take_app (by rw [le8_len]; exact Nat.le_refl _), List.take_of_length_le (by rw [le8_len]; exact Nat.le_refl _), vn_le8 _ _ (by decide), ofNat_toNat_lt (by omega)]
  exact Nat.mod_eq_of_lt (by omega)
theorem su4_fr (p c : List UInt8) : su4 (fr p ++ c) = sm p := by
  unfold su4 fr
  have e : (le8 (BitVec.ofNat 64 p.length) 2 ++ le8 ((sm p).setWidth 64) 4 ++ p ++ c).drop 2 = le8 ((sm p).setWidth 64) 4 ++ (p ++ c) := by
    rw [List.append_assoc, List.append_assoc]
    have := List.drop_left (l₁ := le8 (BitVec.ofNat 64 p.length) 2) (l₂ := le8 ((sm p).setWidth 64) 4 ++ (p ++ c))
    rwa [le8_len] at this
  rw [e, take_app (by rw [le8_len]; exact Nat.le_refl _), List.take_of_length_le (by rw [le8_len]; exact Nat.le_refl _)]
  apply BitVec.eq_of_toNat_eq
  rw [BitVec.toNat_setWidth, vn_le8 _ _ (by decide), BitVec.toNat_setWidth]
  have := (sm p).isLt
  omega
theorem pay_fr (p c : List UInt8) (h : p.length ≤ 512) : pay (fr p ++ c) = p := by
  unfold pay
  rw [hd2_fr p c h]
  unfold fr
  have e : (le8 (BitVec.ofNat 64 p.length) 2 ++ le8 ((sm p).setWidth 64) 4 ++ p ++ c).drop 6 = p ++ c := by
    rw [List.append_assoc]
    have := List.drop_left (l₁ := le8 (BitVec.ofNat 64 p.length) 2 ++ le8 ((sm p).setWidth 64) 4) (l₂ := p ++ c)
    rwa [List.length_append, le8_len, le8_len] at this
  rw [e, List.take_left]
theorem opn_fr (p c : List UInt8) (h : p.length ≤ 512) : opn (fr p ++ c) = (0, p) := by
  unfold opn
  have hl : (fr p ++ c).length = 6 + p.length + c.length := by rw [List.length_append, fr_len]
  rw [if_neg (by omega), hd2_fr p c h, if_neg (by omega), if_neg (by omega), su4_fr, pay_fr p c h, if_neg (by simp)]
theorem vn_take_le8 (l : List UInt8) (n : Nat) (hn : n ≤ 8) (h : l.length = n) (v : BitVec 64) (hv : v.toNat = (vn l n).toNat) : le8 v n = l := by
  apply List.ext_getElem (by rw [le8_len, h])
  intro i h1 h2
  have h1' : i < n := by rw [le8_len] at h1; exact h1
  have e : v = vn l n := BitVec.eq_of_toNat_eq hv
  subst e
  have hvn : (vn l n).toNat = ns l n := vn_ns l n hn
  simp only [le8, List.getElem_map, List.getElem_range]
  apply UInt8.toNat_inj.1
  have key : ∀ m, i < m → m ≤ n → (ns l m) / 2 ^ (8 * i) % 256 = l[i].toNat := by
    intro m him hmn
    induction m with
    | zero => omega
    | succ m ih =>
      show (ns l m + (l.getD m 0).toNat * 2 ^ (8 * m)) / 2 ^ (8 * i) % 256 = _
      rcases Nat.lt_or_ge i m with hlt | hge
      · have e : 2 ^ (8 * m) = 2 ^ (8 * i) * (256 * 2 ^ (8 * (m - i - 1))) := by
          rw [show (256 : Nat) = 2 ^ 8 from rfl, ← Nat.pow_add, ← Nat.pow_add]
          congr 1
          omega
        rw [e, Nat.mul_left_comm, Nat.add_mul_div_left _ _ (Nat.pow_pos (by decide)), Nat.mul_left_comm, Nat.add_mul_mod_self_left]
        exact ih hlt (by omega)
      · have e : m = i := by omega
        subst e
        have hlt := ns_lt l m
        rw [Nat.add_mul_div_right _ _ (Nat.pow_pos (by decide)), Nat.div_eq_of_lt hlt, Nat.zero_add, List.getD_eq_getElem?_getD, List.getElem?_eq_getElem h2, Option.getD_some]
        exact Nat.mod_eq_of_lt l[m].toNat_lt
  have := key n (by omega) (Nat.le_refl _)
  rw [← this]
  show ((vn l n >>> (8 * i)).setWidth 8).toNat = _
  rw [BitVec.toNat_setWidth, BitVec.toNat_ushiftRight, hvn, Nat.shiftRight_eq_div_pow]
/-- What was read is the frame of what it gave. -/
theorem opn_back {b p : List UInt8} (h : opn b = (0, p)) : p.length ≤ 512 ∧ b = fr p ++ b.drop (6 + p.length) := by
  unfold opn at h
  split at h
  · simp at h
  split at h
  · simp at h
  split at h
  · simp at h
  split at h
  · simp at h
  rename_i h1 h2 h3 h4
  have hp : p = pay b := by simpa using h.symm
  have hpl : p.length = hd2 b := by rw [hp]; unfold pay; rw [List.length_take, List.length_drop]; omega
  refine ⟨by omega, ?_⟩
  have e0 : b = b.take 2 ++ ((b.drop 2).take 4 ++ ((b.drop 6).take (hd2 b) ++ b.drop (6 + hd2 b))) := by
    rw [← List.drop_drop, List.take_append_drop, show b.drop 6 = (b.drop 2).drop 4 from by rw [List.drop_drop], List.take_append_drop, List.take_append_drop]
  have e1 : le8 (BitVec.ofNat 64 p.length) 2 = b.take 2 := vn_take_le8 _ _ (by decide) (by rw [List.length_take]; omega) _ (by rw [ofNat_toNat_lt (by omega), hpl]; rfl)
  have e2 : le8 ((sm p).setWidth 64) 4 = (b.drop 2).take 4 := by
    refine vn_take_le8 _ _ (by decide) (by rw [List.length_take, List.length_drop]; omega) _ ?_
    have hs : su4 b = sm p := by rw [hp]; simpa using h4
    rw [← hs]
    unfold su4
    rw [BitVec.toNat_setWidth, BitVec.toNat_setWidth]
    have hb : (vn ((b.drop 2).take 4) 4).toNat < 2 ^ 32 := by rw [vn_ns _ _ (by decide)]; exact ns_lt _ 4
    omega
  unfold fr
  rw [e1, e2, hpl]
  conv => lhs; rw [e0]
  rw [hp]
  unfold pay
  simp only [List.append_assoc]
theorem fr_inj {p q : List UInt8} (hp : p.length ≤ 512) (hq : q.length ≤ 512) (h : fr p = fr q) : p = q := by
  have h1 := opn_fr p [] hp
  rw [h, opn_fr q [] hq] at h1
  exact (congrArg Prod.snd h1).symm
theorem opn_bad_app {b c : List UInt8} {e : Int} (h : (opn b).1 = e) (he : e ≠ 2) : opn (b ++ c) = opn b := by
  unfold opn at h ⊢
  split at h
  · exact absurd h.symm he
  rename_i h1
  rw [if_neg (by rw [List.length_append]; omega), if_neg h1, hd2_app (by omega)]
  split at h
  · rename_i h2
    rw [if_pos h2, if_pos h2]
  rename_i h2
  rw [if_neg h2, if_neg h2]
  split at h
  · exact absurd h.symm he
  rename_i h3
  rw [if_neg (by rw [List.length_append]; omega), if_neg h3, su4_app (by omega), pay_app (by omega)]
theorem opn_short {p : List UInt8} (hp : p.length ≤ 512) {n : Nat} (h : n < 6 + p.length) : opn ((fr p).take n) = (2, []) := by
  have hl : ((fr p).take n).length = n := by rw [List.length_take, fr_len]; omega
  unfold opn
  rw [hl]
  by_cases h2 : n < 2
  · rw [if_pos h2]
  have e : hd2 ((fr p).take n) = p.length := by
    have := hd2_fr p [] hp
    rw [List.append_nil] at this
    rw [← this]
    unfold hd2
    rw [List.take_take, Nat.min_eq_left (by omega)]
  rw [if_neg h2, e, if_neg (by omega), if_pos h]
theorem opn_fst (b : List UInt8) : (opn b).1 = 0 ∨ (opn b).1 = 2 ∧ (opn b).2 = [] ∨ (opn b).1 = 4 ∧ (opn b).2 = [] ∨ (opn b).1 = 5 ∧ (opn b).2 = [] := by
  unfold opn
  split
  · simp
  split
  · simp
  split
  · simp
  split
  · simp
  · simp

/-- Why frames end: there are no more bytes, or what stands there is none. -/
def stpR (r : List UInt8) (e : Int) : Prop := (r = [] ∧ e = 0) ∨ (r ≠ [] ∧ e ≠ 0 ∧ opn r = (e, []))
/-- Frames one behind the other, and what is behind them. -/
def AllS (b : List UInt8) (l : List (List UInt8)) (r : List UInt8) (e : Int) : Prop := b = l.flatMap fr ++ r ∧ (∀ p ∈ l, p.length ≤ 512) ∧ stpR r e
theorem opn_nil : opn [] = (2, []) := rfl
theorem allS_uniq {b : List UInt8} : ∀ {l l' : List (List UInt8)} {r r' : List UInt8} {e e' : Int}, AllS b l r e → AllS b l' r' e' → l = l' ∧ r = r' ∧ e = e' := by
  intro l
  induction l generalizing b with
  | nil =>
    intro l' r r' e e' h h'
    cases l' with
    | nil =>
      have e1 : r = r' := by rw [← (show b = r from by simpa using h.1)]; simpa using h'.1
      subst e1
      refine ⟨rfl, rfl, ?_⟩
      rcases h.2.2 with ⟨h1, h2⟩ | ⟨h1, h2, h3⟩
      · rcases h'.2.2 with ⟨h4, h5⟩ | ⟨h4, _⟩
        · rw [h2, h5]
        · exact absurd h1 h4
      · rcases h'.2.2 with ⟨h4, _⟩ | ⟨_, _, h5⟩
        · exact absurd h4 h1
        · rw [h3] at h5; exact congrArg Prod.fst h5
    | cons p l' =>
      have hb : b = fr p ++ (l'.flatMap fr ++ r') := by have := h'.1; simpa using this
      have hr : b = r := by simpa using h.1
      have ho := opn_fr p (l'.flatMap fr ++ r') (h'.2.1 p (by simp))
      rw [← hb, hr] at ho
      rcases h.2.2 with ⟨h1, _⟩ | ⟨_, h2, h3⟩
      · rw [h1, opn_nil] at ho; simp at ho
      · rw [h3] at ho; exact absurd (congrArg Prod.fst ho) h2
  | cons p l ih =>
    intro l' r r' e e' h h'
    have hb : b = fr p ++ (l.flatMap fr ++ r) := by have := h.1; simpa using this
    have ho := opn_fr p (l.flatMap fr ++ r) (h.2.1 p (by simp))
    rw [← hb] at ho
    cases l' with
    | nil =>
      have hr : b = r' := by simpa using h'.1
      rw [hr] at ho
      rcases h'.2.2 with ⟨h1, _⟩ | ⟨_, h2, h3⟩
      · rw [h1, opn_nil] at ho; simp at ho
      · rw [h3] at ho; exact absurd (congrArg Prod.fst ho) h2
    | cons p' l' =>
      have hb' : b = fr p' ++ (l'.flatMap fr ++ r') := by have := h'.1; simpa using this
      have ho' := opn_fr p' (l'.flatMap fr ++ r') (h'.2.1 p' (by simp))
      rw [← hb', ho] at ho'
      have e1 : p = p' := congrArg Prod.snd ho'
      subst e1
      have e2 : l.flatMap fr ++ r = l'.flatMap fr ++ r' := List.append_cancel_left (hb.symm.trans hb')
      obtain ⟨e3, e4, e5⟩ := ih (b := l.flatMap fr ++ r) ⟨rfl, fun q hq => h.2.1 q (by simp [hq]), h.2.2⟩ ⟨e2, fun q hq => h'.2.1 q (by simp [hq]), h'.2.2⟩
      exact ⟨by rw [e3], e4, e5⟩
theorem stpR_any (r : List UInt8) (h : (opn r).1 ≠ 0 ∨ r = []) : ∃ e, stpR r e := by
  by_cases hr : r = []
  · exact ⟨0, .inl ⟨hr, rfl⟩⟩
  · have h0 := h.resolve_right hr
    refine ⟨(opn r).1, .inr ⟨hr, h0, ?_⟩⟩
    rcases opn_fst r with h | h | h | h
    · exact absurd h h0
    all_goals exact Prod.ext rfl h.2
theorem flat_snoc (l : List (List UInt8)) (p : List UInt8) : (l ++ [p]).flatMap fr = l.flatMap fr ++ fr p := by simp



theorem w82 : (w8 2).toNat = 2 := rfl
theorem w84 : (w8 4).toNat = 4 := rfl
theorem sumOf_m (p : List UInt8) (h : p.length ≤ 100000) : m43_frame_sumOf p = some (sm p) := by
  unfold m43_frame_sumOf
  rw [U_m _ _ _ (by simp), w82, BitVec.ofInt_natCast]
  simp only [Option.bind_some, List.nil_append]
  rw [Crc.of_m _ (by rw [le8_len]; omega)]
  simp only [Option.bind_some]
  rw [Crc.more_m _ _ h]
  rfl
theorem Put_m (a p : List UInt8) (ha : a.length ≤ 1000000) (h : p.length ≤ 512) : m23_frame_Put a p = some (a ++ fr p, 0) := by
  unfold m23_frame_Put m33_frame_wrap
  rw [if_neg (by rw [decide_eq_true_eq]; omega), sumOf_m p (by omega)]
  simp only [Option.bind_some]
  rw [U_m _ _ _ (by simp), w82, BitVec.ofInt_natCast]
  simp only [Option.bind_some, List.nil_append]
  rw [U_m _ _ _ (by rw [le8_len]; omega), w84]
  simp only [Option.bind_some]
  rw [m25_slices_Concato_m _ (by simp [le8_len]; omega) (by simp)]
  simp [fr]
theorem Put_long (a p : List UInt8) (h : 512 < p.length) : m23_frame_Put a p = some ([], 5) := by
  unfold m23_frame_Put
  rw [if_pos (decide_eq_true (by omega))]
theorem rPut_m (a p : List UInt8) (ha : a.length ≤ 900000) (h : p.length ≤ 512) : m38_r03_Put a p = some (a ++ fr p, 0) := by
  unfold m38_r03_Put
  rw [if_neg (by rw [decide_eq_true_eq]; omega), rU_m _ _ _ (by simp), w82, BitVec.ofInt_natCast]
  simp only [Option.bind_some, List.nil_append]
  rw [Crc.of_r _ (by rw [le8_len]; omega)]
  simp only [Option.bind_some]
  rw [Crc.more_r _ _ (by omega)]
  simp only [Option.bind_some]
  rw [if_pos (by simp; omega), if_pos (by simp [le8_len]; omega), rUo_m _ _ _ (by simp [le8_len]; omega), w84]
  simp only [Option.bind_some]
  rw [if_pos (by simp [le8_len]; omega)]
  show some (_, _) = _
  unfold fr sm
  simp only [List.append_assoc]
theorem rPut_long (a p : List UInt8) (h : 512 < p.length) : m38_r03_Put a p = some ([], 5) := by
  unfold m38_r03_Put
  rw [if_pos (decide_eq_true (by omega))]

theorem U_short (n p : Nat) (d : List UInt8) (h1 : 1 ≤ n) (h8 : n ≤ 8) (hp : p ≤ d.length) (h : d.length < p + n) (hd : d.length ≤ 100000000) : m32_enc_Reader_Us n 0 p d = some (0#64, 2, (p : Int)) := by
  unfold m32_enc_Reader_Us m40_enc_Reader_Errs
  simp only [Option.bind_some]
  rw [if_neg (by simp), if_neg (by rw [decide_eq_true_eq]; omega), if_neg (by rw [decide_eq_true_eq]; omega)]
  unfold m32_enc_Reader_Us_k2
  rw [take_short _ _ _ hp (by omega) hd]
  rfl
theorem U_err (n e p : Int) (d : List UInt8) (he : e ≠ 0) : m32_enc_Reader_Us n e p d = some (0#64, e, p) := by
  unfold m32_enc_Reader_Us m40_enc_Reader_Errs
  simp only [Option.bind_some]
  rw [if_pos (by simpa using he)]
theorem hd2_lt {b : List UInt8} : hd2 b < 65536 := by
  unfold hd2
  rw [vn_ns _ _ (by decide)]
  exact ns_lt _ 2
theorem open_m (b : List UInt8) (hb : b.length ≤ 100000000) : ∃ w, m35_frame_open b = some (w, (opn b).1) ∧ w.payload_ = (opn b).2 ∧ w.head_.size_ = ((opn b).2.length : Int) := by
  unfold m35_frame_open m31_enc_News m40_enc_Reader_Errs
  simp only [Option.bind_some]
  by_cases h2 : b.length < 2
  · have e : opn b = (2, []) := by unfold opn; rw [if_pos h2]
    rw [show m32_enc_Reader_Us 2 0 0 b = some (0#64, 2, 0) from U_short 2 0 b (by decide) (by decide) (Nat.zero_le _) (by omega) hb, e]
    simp only [Option.bind_some]
    rw [if_neg (by decide), U_err _ _ _ _ (by decide)]
    exact ⟨_, rfl, rfl, rfl⟩
  rw [show m32_enc_Reader_Us 2 0 0 b = some (vn (b.take 2) 2, 0, 2) from U_read 2 0 b (by decide) (by decide) (by omega) hb]
  simp only [Option.bind_some]
  have hh : (vn (b.take 2) 2).toNat = hd2 b := rfl
  have hlt := hd2_lt (b := b)
  rw [hh, wI_id (n := (hd2 b : Int)) (by omega) (by omega)]
  by_cases h5 : 512 < hd2 b
  · have e : opn b = (5, []) := by unfold opn; rw [if_neg h2, if_pos h5]
    rw [if_pos (decide_eq_true (by omega)), e]
    exact ⟨_, rfl, rfl, rfl⟩
  rw [if_neg (by rw [decide_eq_true_eq]; omega)]
  have eo : opn b = if b.length < 6 + hd2 b then (2, []) else if su4 b ≠ sm (pay b) then (4, []) else (0, pay b) := by
    unfold opn; rw [if_neg h2, if_neg h5]
  by_cases h6 : b.length < 6
  · rw [show m32_enc_Reader_Us 4 0 2 b = some (0#64, 2, 2) from U_short 4 2 b (by decide) (by decide) (by omega) (by omega) hb, eo, if_pos (by omega)]
    simp only [Option.bind_some]
    rw [if_pos (by decide)]
    exact ⟨_, rfl, rfl, rfl⟩
  rw [show m32_enc_Reader_Us 4 0 2 b = some (vn ((b.drop 2).take 4) 4, 0, 6) from U_read 4 2 b (by decide) (by decide) (by omega) hb]
  simp only [Option.bind_some]
  rw [if_neg (by simp), wI_id (by omega) (by omega)]
  by_cases h7 : b.length < 6 + hd2 b
  · rw [if_pos (decide_eq_true (by omega)), eo, if_pos h7]
    exact ⟨_, rfl, rfl, rfl⟩
  rw [if_neg (by rw [decide_eq_true_eq]; omega), eo, if_neg h7]
  unfold m35_frame_open_k4
  rw [hh, wI_id (n := (hd2 b : Int)) (by omega) (by omega), wI_id (by omega) (by omega), cut_of (by omega) (by omega) (by omega)]
  simp only [Option.bind_some]
  have ep : (b.drop (6 : Int).toNat).take ((6 + (hd2 b : Int)).toNat - (6 : Int).toNat) = pay b := by
    unfold pay
    rw [show (6 + (hd2 b : Int)).toNat - (6 : Int).toNat = hd2 b from by omega]
    rfl
  have hpl : (pay b).length = hd2 b := by unfold pay; rw [List.length_take, List.length_drop]; omega
  rw [ep, sumOf_m _ (by omega)]
  simp only [Option.bind_some]
  have es : (vn ((b.drop 2).take 4) 4).setWidth 32 = su4 b := rfl
  rw [es]
  by_cases h8 : su4 b = sm (pay b)
  · rw [if_neg (by rw [h8]; simp), if_neg (by simp [h8])]
    exact ⟨_, rfl, rfl, by show (hd2 b : Int) = _; rw [hpl]⟩
  · rw [if_pos (by rw [Bool.not_eq_true', decide_eq_false_iff_not]; exact fun h => h8 (BitVec.eq_of_toNat_eq (by omega))), if_pos h8]
    exact ⟨_, rfl, rfl, rfl⟩

/-- What reading at a place gives. -/
def rdS (b : List UInt8) (at_ : Int) : List UInt8 × Int × Int :=
  if at_ < 0 ∨ (b.length : Int) < at_ then ([], 0, 1) else if (opn (b.drop at_.toNat)).1 = 0 then ((opn (b.drop at_.toNat)).2, at_ + 6 + (opn (b.drop at_.toNat)).2.length, 0) else ([], 0, (opn (b.drop at_.toNat)).1)
theorem rdS_at (b : List UInt8) (n : Nat) (h : n ≤ b.length) : rdS b (n : Int) = if (opn (b.drop n)).1 = 0 then ((opn (b.drop n)).2, (n : Int) + 6 + (opn (b.drop n)).2.length, 0) else ([], 0, (opn (b.drop n)).1) := by
  unfold rdS
  rw [if_neg (by omega), Int.toNat_natCast]
theorem opn_len {b : List UInt8} (h : (opn b).1 = 0) : (opn b).2.length ≤ 512 ∧ 6 + (opn b).2.length ≤ b.length := by
  have := opn_back (b := b) (p := (opn b).2) (Prod.ext h rfl)
  refine ⟨this.1, ?_⟩
  have hl := congrArg List.length this.2
  rw [List.length_append, fr_len, List.length_drop] at hl
  omega
theorem Read_m (b : List UInt8) (i : Int) (hb : b.length ≤ 100000000) : m24_frame_Read b i = some (rdS b i) := by
  unfold m24_frame_Read rdS
  by_cases h0 : i < 0
  · rw [if_pos (decide_eq_true h0), if_pos (.inl h0)]
  rw [if_neg (by rw [decide_eq_true_eq]; exact h0)]
  by_cases h1 : (b.length : Int) < i
  · rw [if_pos (decide_eq_true h1), if_pos (.inr h1)]
  rw [if_neg (by rw [decide_eq_true_eq]; exact h1), if_neg (by omega)]
  unfold m24_frame_Read_k1
  rw [cut_of (by omega) (by omega) (by omega)]
  simp only [Option.bind_some]
  have e : (b.drop i.toNat).take ((b.length : Int).toNat - i.toNat) = b.drop i.toNat := List.take_of_length_le (by rw [List.length_drop]; omega)
  rw [e]
  obtain ⟨w, hw, h2, h3⟩ := open_m (b.drop i.toNat) (by rw [List.length_drop]; omega)
  rw [hw]
  simp only [Option.bind_some]
  by_cases h4 : (opn (b.drop i.toNat)).1 = 0
  · have h5 := opn_len h4
    rw [if_neg (by simp [h4]), if_pos h4, h2, h3, m36_slices_Clone_m _ (by omega)]
    simp only [Option.bind_some]
    rw [wI_id (n := i + 6) (by omega) (by omega), wI_id (by omega) (by omega)]
  · rw [if_pos (by simpa using h4), if_neg h4]
theorem hd2_get (b : List UInt8) (h : 2 ≤ b.length) : hd2 b = b[0].toNat + 256 * b[1].toNat := by
  unfold hd2
  rw [vn_ns _ _ (by decide)]
  match b, h with
  | x :: y :: _, _ => simp [ns]; omega
theorem rRead_m (b : List UInt8) (i : Int) (hb : b.length ≤ 100000000) : m30_r03_Read b i = some (rdS b i) := by
  unfold m30_r03_Read rdS
  by_cases h0 : i < 0
  · rw [if_pos (decide_eq_true h0), if_pos (.inl h0)]
  rw [if_neg (by rw [decide_eq_true_eq]; exact h0)]
  by_cases h1 : (b.length : Int) < i
  · rw [if_pos (decide_eq_true h1), if_pos (.inr h1)]
  rw [if_neg (by rw [decide_eq_true_eq]; exact h1), if_neg (by omega)]
  obtain ⟨n, rfl⟩ : ∃ n : Nat, i = n := ⟨i.toNat, by omega⟩
  rw [Int.toNat_natCast]
  unfold m30_r03_Read_k1
  rw [wI_id (n := (b.length : Int) - n) (by omega) (by omega)]
  have hl : (b.drop n).length = b.length - n := List.length_drop
  by_cases h2 : b.length - n < 2
  · have e : opn (b.drop n) = (2, []) := by unfold opn; rw [hl, if_pos h2]
    rw [if_pos (decide_eq_true (by omega)), e]
    rfl
  rw [if_neg (by rw [decide_eq_true_eq]; omega), idx_nat, List.getElem?_eq_getElem (show n < b.length by omega), wI_id (n := (n : Int) + 1) (by omega) (by omega), show (n : Int) + 1 = ((n + 1 : Nat) : Int) from rfl, idx_nat, List.getElem?_eq_getElem (show n + 1 < b.length by omega)]
  simp only [Option.bind_some]
  have hh : hd2 (b.drop n) = b[n].toNat + 256 * b[n + 1].toNat := by
    rw [hd2_get _ (by omega)]
    simp
  have hlt := hd2_lt (b := b.drop n)
  have hx := b[n].toNat_lt
  have hy := b[n + 1].toNat_lt
  have ex : (b[n].toBitVec.toNat : Int) = (b[n].toNat : Int) := rfl
  have ey : (b[n + 1].toBitVec.toNat : Int) = (b[n + 1].toNat : Int) := rfl
  have hN : wI (wI (b[n].toBitVec.toNat : Int) + wI (256 * wI (b[n + 1].toBitVec.toNat : Int))) = (hd2 (b.drop n) : Int) := by
    rw [ex, ey, wI_id (n := (b[n].toNat : Int)) (by omega) (by omega), wI_id (n := (b[n + 1].toNat : Int)) (by omega) (by omega), wI_id (n := 256 * (b[n + 1].toNat : Int)) (by omega) (by omega), wI_id (by omega) (by omega), hh]
    omega
  rw [hN]
  generalize hd : b.drop n = d at *
  have eo : opn d = if 512 < hd2 d then (5, []) else if d.length < 6 + hd2 d then (2, []) else if su4 d ≠ sm (pay d) then (4, []) else (0, pay d) := by
    unfold opn; rw [if_neg (by omega)]
  by_cases h5 : 512 < hd2 d
  · rw [if_pos (decide_eq_true (by omega)), eo, if_pos h5]
    rfl
  rw [if_neg (by rw [decide_eq_true_eq]; omega), wI_id (n := 6 + (hd2 d : Int)) (by omega) (by omega)]
  by_cases h6 : d.length < 6 + hd2 d
  · rw [if_pos (decide_eq_true (by omega)), eo, if_neg h5, if_pos h6]
    rfl
  rw [if_neg (by rw [decide_eq_true_eq]; omega), wI_id (n := (n : Int) + 6) (by omega) (by omega), wI_id (n := (n : Int) + 6 + (hd2 d : Int)) (by omega) (by omega), cut_of (by omega) (by omega) (by omega)]
  simp only [Option.bind_some]
  have ep : (b.drop ((n : Int) + 6).toNat).take (((n : Int) + 6 + (hd2 d : Int)).toNat - ((n : Int) + 6).toNat) = pay d := by
    unfold pay
    rw [show ((n : Int) + 6).toNat = n + 6 from by omega, show ((n : Int) + 6 + (hd2 d : Int)).toNat - (n + 6) = hd2 d from by omega, ← List.drop_drop, hd]
  have hpl : (pay d).length = hd2 d := by unfold pay; rw [List.length_take, List.length_drop]; omega
  rw [ep, List.nil_append, if_pos (by rw [hpl]; simp; omega), rPut_m _ _ (by simp) (by omega)]
  simp only [Option.bind_some]
  rw [cut_of (by omega) (by omega) (by omega)]
  simp only [Option.bind_some, List.nil_append]
  have et : (b.drop ((n : Nat) : Int).toNat).take (((n : Int) + 6 + (hd2 d : Int)).toNat - ((n : Nat) : Int).toNat) = d.take (6 + hd2 d) := by
    rw [Int.toNat_natCast, hd, show ((n : Int) + 6 + (hd2 d : Int)).toNat - n = 6 + hd2 d from by omega]
  rw [et]
  by_cases h8 : su4 d = sm (pay d)
  · have hb' : opn d = (0, pay d) := by rw [eo, if_neg h5, if_neg h6, if_neg (by simp [h8])]
    have hfr : d.take (6 + hd2 d) = fr (pay d) := by
      have := (opn_back hb').2
      conv => lhs; arg 2; rw [this]
      rw [take_app (by rw [fr_len, hpl]; exact Nat.le_refl _), List.take_of_length_le (by rw [fr_len, hpl]; exact Nat.le_refl _)]
    rw [hfr, if_neg (by simp), hb', if_pos rfl]
    show _ = some (pay d, (n : Int) + 6 + ((pay d).length : Int), 0)
    rw [hpl]
  · have hb' : opn d = (4, []) := by rw [eo, if_neg h5, if_neg h6, if_pos h8]
    have hne : fr (pay d) ≠ d.take (6 + hd2 d) := fun hc => h8 (by
      have h9 : d = fr (pay d) ++ d.drop (6 + hd2 d) := by rw [hc, List.take_append_drop]
      have := su4_fr (pay d) (d.drop (6 + hd2 d))
      rw [← h9] at this
      exact this)
    rw [if_pos (by simpa using hne), hb']
    rfl

theorem All_loop (b : List UInt8) (hb : b.length ≤ 1000000) {ρ : Type} {f : Int × List (List UInt8) → Option (LR (Int × List (List UInt8)) (Int × List (List UInt8)) ρ)} (mk : List (List UInt8) → Int → Int → ρ)
    (hf : ∀ s, f s = if (decide (s.1 < (b.length : Int))) then ((some (rdS b s.1)).bind fun v3 => if (!decide (v3.2.2 = 0)) then (some (.ret (mk s.2 s.1 v3.2.2))) else (if (s.2.length + [v3.1].length) * 24 ≤ 140737488355328 then (some (.cont (v3.2.1, (s.2 ++ [v3.1])))) else none)) else (some (.brk (s.1, s.2)))) :
    ∃ l r e x, AllS b l r e ∧ iter f fuel (0, []) = some x ∧ (match x with | .inl y => e ≠ 0 ∧ y = mk l ((l.flatMap fr).length : Int) e | .inr y => e = 0 ∧ y = (((l.flatMap fr).length : Int), l)) := by
  obtain ⟨x, hx, l, r, e, h1, h2⟩ := iter_inv (f := f) (P := fun s => ∃ l : List (List UInt8), (∀ p ∈ l, p.length ≤ 512) ∧ s = (((l.flatMap fr).length : Int), l) ∧ b = l.flatMap fr ++ b.drop (l.flatMap fr).length ∧ l.length ≤ (l.flatMap fr).length ∧ (l.flatMap fr).length ≤ b.length)
    (μ := fun s => b.length - s.1.toNat) (R := fun x => ∃ l r e, AllS b l r e ∧ (match x with | .inl y => e ≠ 0 ∧ y = mk l ((l.flatMap fr).length : Int) e | .inr y => e = 0 ∧ y = (((l.flatMap fr).length : Int), l))) (by
    rintro _ ⟨l, hl, rfl, hpre, hll, hle⟩
    rw [hf]
    dsimp only
    generalize hn : (l.flatMap fr).length = n at *
    rcases Nat.lt_or_ge n b.length with hlt | hge
    · rw [if_pos (decide_eq_true (by omega))]
      simp only [Option.bind_some]
      rw [rdS_at b n (by omega)]
      have hdl : (b.drop n).length = b.length - n := List.length_drop
      by_cases h0 : (opn (b.drop n)).1 = 0
      · left
        have h1 := opn_len h0
        have h3 := (opn_back (b := b.drop n) (p := (opn (b.drop n)).2) (Prod.ext h0 rfl)).2
        generalize (opn (b.drop n)).2 = p at h1 h3 ⊢
        rw [if_pos h0]
        try dsimp only
        rw [if_neg (by simp), if_pos (by simp only [List.length_cons, List.length_nil]; omega)]
        have hfl : ((l ++ [p]).flatMap fr).length = n + (6 + p.length) := by rw [flat_snoc, List.length_append, fr_len, hn]
        refine ⟨_, rfl, ⟨l ++ [p], fun q hq => ?_, ?_, ?_, ?_, ?_⟩, ?_⟩
        · rcases List.mem_append.1 hq with h | h
          · exact hl q h
          · rw [List.mem_singleton.1 h]; exact h1.1
        · rw [hfl]; exact Prod.ext (by show _ = _; omega) rfl
        · rw [hfl, flat_snoc, List.append_assoc]
          conv => lhs; rw [hpre, h3]
          rw [List.drop_drop]
        · rw [hfl, List.length_append]; simp only [List.length_cons, List.length_nil]; omega
        · rw [hfl]; omega
        · show b.length - ((n : Int) + 6 + p.length).toNat < b.length - (n : Int).toNat
          omega
      · right; right
        rw [if_neg h0]
        try dsimp only
        rw [if_pos (by simpa using h0)]
        refine ⟨_, rfl, l, b.drop n, (opn (b.drop n)).1, ⟨hpre, hl, .inr ⟨fun hc => by rw [hc] at hdl; simp at hdl; omega, h0, ?_⟩⟩, h0, by rw [hn]⟩
        rcases opn_fst (b.drop n) with h | h | h | h
        · exact absurd h h0
        all_goals exact Prod.ext rfl h.2
    · right; left
      rw [if_neg (by rw [decide_eq_true_eq]; omega)]
      refine ⟨_, rfl, l, [], 0, ⟨?_, hl, .inl ⟨rfl, rfl⟩⟩, rfl, by rw [hn]⟩
      rw [List.append_nil]
      conv => lhs; rw [hpre, List.drop_of_length_le hge, List.append_nil]) fuel (0, []) ⟨[], by simp, rfl, by simp, by simp, by simp⟩ (lt_fuel (by show b.length - 0 ≤ _; omega))
  exact ⟨l, r, e, x, h1, hx, h2⟩
theorem allS_ex (b : List UInt8) (hb : b.length ≤ 1000000) : ∃ l r e, AllS b l r e := by
  obtain ⟨l, r, e, _, h, _⟩ := All_loop b hb (fun a b c => (a, b, c)) (fun s => rfl)
  exact ⟨l, r, e, h⟩
theorem All_m {b : List UInt8} (hb : b.length ≤ 1000000) {l : List (List UInt8)} {r : List UInt8} {e : Int} (h : AllS b l r e) : m26_frame_All b = some (l, ((l.flatMap fr).length : Int), e) := by
  obtain ⟨l', r', e', x, h', hx, hm⟩ := All_loop b hb (f := m26_frame_All_s2 b) (fun a b c => (a, b, c)) (fun s => by unfold m26_frame_All_s2; rw [Read_m _ _ (by omega)])
  obtain ⟨rfl, rfl, rfl⟩ := allS_uniq h h'
  unfold m26_frame_All
  rw [hx]
  cases x with
  | inl y => obtain ⟨_, rfl⟩ := hm; rfl
  | inr y => obtain ⟨h0, rfl⟩ := hm; rw [h0]; rfl
theorem rAll_m {b : List UInt8} (hb : b.length ≤ 1000000) {l : List (List UInt8)} {r : List UInt8} {e : Int} (h : AllS b l r e) : m29_r03_All b = some (l, ((l.flatMap fr).length : Int), e) := by
  obtain ⟨l', r', e', x, h', hx, hm⟩ := All_loop b hb (f := m29_r03_All_s2 b) (fun a b c => (a, b, c)) (fun s => by unfold m29_r03_All_s2; rw [rRead_m _ _ (by omega)])
  obtain ⟨rfl, rfl, rfl⟩ := allS_uniq h h'
  unfold m29_r03_All
  rw [hx]
  cases x with
  | inl y => obtain ⟨_, rfl⟩ := hm; rfl
  | inr y => obtain ⟨h0, rfl⟩ := hm; rw [h0]; rfl
theorem Lists_m (a b : List (List UInt8)) (h : a.length ≤ 1000000000) : m16_r03_Lists a b = some (decide (a = b)) := by
  unfold m16_r03_Lists
  by_cases hl : a.length = b.length
  · rw [if_neg (by simp [hl])]
    obtain ⟨x, hx, hm⟩ := iter_inv (f := m16_r03_Lists_s2 a b) (P := fun s => ∃ i : Nat, i ≤ a.length ∧ s = (i : Int) ∧ a.take i = b.take i) (μ := fun s => a.length - s.toNat)
      (R := fun x => match x with | .inl y => y = false ∧ a ≠ b | .inr _ => a = b) (by
      rintro _ ⟨i, hi, rfl, he⟩
      unfold m16_r03_Lists_s2
      rcases Nat.lt_or_ge i a.length with hlt | hge
      · rw [if_pos (decide_eq_true (by omega)), idx_nat, idx_nat, List.getElem?_eq_getElem hlt, List.getElem?_eq_getElem (show i < b.length by omega)]
        simp only [Option.bind_some]
        by_cases hx : a[i] = b[i]
        · left
          rw [if_neg (by simp [hx]), wI_id (by omega) (by omega)]
          exact ⟨_, rfl, ⟨i + 1, hlt, rfl, by rw [List.take_succ_eq_append_getElem hlt, List.take_succ_eq_append_getElem (show i < b.length by omega), he, hx]⟩, by omega⟩
        · right; right
          rw [if_pos (by simpa using hx)]
          exact ⟨_, rfl, rfl, fun hc => hx (by subst hc; rfl)⟩
      · right; left
        rw [if_neg (by rw [decide_eq_true_eq]; omega)]
        refine ⟨_, rfl, ?_⟩
        have h1 : a.take i = a := List.take_of_length_le hge
        have h2 : b.take i = b := List.take_of_length_le (by omega)
        rw [← h1, he, h2]) fuel 0 ⟨0, Nat.zero_le _, rfl, rfl⟩ (lt_fuel (by show a.length - 0 ≤ _; omega))
    rw [hx]
    cases x with
    | inl y =>
      obtain ⟨rfl, hne⟩ := hm
      show some false = _
      rw [decide_eq_false hne]
    | inr y =>
      show m16_r03_Lists_k1 y = _
      rw [decide_eq_true (show a = b from hm)]; rfl
  · rw [if_pos (by simpa using fun h => hl (by omega)), decide_eq_false (fun hc => hl (by rw [hc]))]
theorem Few_m (a : List (List UInt8)) (n : Int) : ∃ x, m22_r03_Few a n = some x ∧ (x = true → a.length ≤ 20 ∧ ∀ p ∈ a, (p.length : Int) ≤ n) := by
  unfold m22_r03_Few
  by_cases h : (20 : Int) < a.length
  · rw [if_pos (decide_eq_true h)]
    exact ⟨false, rfl, by simp⟩
  rw [if_neg (by rw [decide_eq_true_eq]; exact h)]
  obtain ⟨x, hx, hm⟩ := iter_inv (f := m22_r03_Few_s2 a n) (P := fun s => ∃ i : Nat, i ≤ a.length ∧ s = (i : Int) ∧ ∀ j x, j < i → a[j]? = some x → (x.length : Int) ≤ n) (μ := fun s => a.length - s.toNat)
    (R := fun x => match x with | .inl y => y = false | .inr _ => ∀ p ∈ a, (p.length : Int) ≤ n) (by
    rintro _ ⟨i, hi, rfl, he⟩
    unfold m22_r03_Few_s2
    rcases Nat.lt_or_ge i a.length with hlt | hge
    · rw [if_pos (decide_eq_true (by omega)), idx_nat, List.getElem?_eq_getElem hlt]
      simp only [Option.bind_some]
      by_cases hx : n < (a[i].length : Int)
      · right; right
        rw [if_pos (decide_eq_true hx)]
        exact ⟨_, rfl, rfl⟩
      · left
        rw [if_neg (by rw [decide_eq_true_eq]; exact hx), wI_id (by omega) (by omega)]
        refine ⟨_, rfl, ⟨i + 1, hlt, rfl, fun j x hj hx' => ?_⟩, by omega⟩
        rcases Nat.lt_or_ge j i with h1 | h1
        · exact he j x h1 hx'
        · have : j = i := by omega
          subst this
          rw [List.getElem?_eq_getElem hlt] at hx'
          cases hx'
          omega
    · right; left
      rw [if_neg (by rw [decide_eq_true_eq]; omega)]
      refine ⟨_, rfl, fun p hp => ?_⟩
      obtain ⟨j, hj, rfl⟩ := List.getElem_of_mem hp
      exact he j _ (by omega) (List.getElem?_eq_getElem hj)) fuel 0 ⟨0, Nat.zero_le _, rfl, fun j x hj => absurd hj (Nat.not_lt_zero _)⟩ (lt_fuel (by show a.length - 0 ≤ _; omega))
  rw [hx]
  cases x with
  | inl y => exact ⟨y, rfl, fun hc => absurd hm (by rw [hc]; simp)⟩
  | inr y => exact ⟨true, rfl, fun _ => ⟨by omega, hm⟩⟩
end Go.Proofs.Ytoojcpiigkmhiaa.Abs
