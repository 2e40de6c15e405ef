/-
  What the library's functions compute.
-/
import Derived.Test.YtlnpkincpgbmcaaDoorQe17
namespace Go.Proofs.YtlnpkincpgbmcaaDoor.Abs



/-- The sum of how many bytes a payload has, and of these. -/
def sm (p : List UInt8) : BitVec 32 := ~~~ Crc.fold8 (~~~ (~~~ Crc.fold8 (~~~ 0#32) (le8 (BitVec.ofNat 64 p.length) 2))) p
/-- A payload's frame. -/
def fr (p : List UInt8) : List UInt8 := le8 (BitVec.ofNat 64 p.length) 2 ++ le8 ((sm p).setWidth 64) 4 ++ p
theorem fr_len (p : List UInt8) : (fr p).length = 6 + p.length := by simp [fr, le8_len]; omega

def hd2 (b : List UInt8) : Nat := (vn (b.take 2) 2).toNat
def su4 (b : List UInt8) : BitVec 32 := (vn ((b.drop 2).take 4) 4).setWidth 32
def pay (b : List UInt8) : List UInt8 := (b.drop 6).take (hd2 b)
/-- What stands first in bytes: why there is no frame, or its payload. -/
def opn (b : List UInt8) : Int × List UInt8 :=
  if b.length < 2 then (2, []) else if 512 < hd2 b then (5, []) else if b.length < 6 + hd2 b then (2, []) else if su4 b ≠ sm (pay b) then (4, []) else (0, pay b)

theorem take_app {α : Type} {a b : List α} {n : Nat} (h : n ≤ a.length) : (a ++ b).take n = a.take n := List.take_append_of_le_length h
theorem hd2_app {b c : List UInt8} (h : 2 ≤ b.length) : hd2 (b ++ c) = hd2 b := by unfold hd2; rw [take_app h]
theorem su4_app {b c : List UInt8} (h : 6 ≤ b.length) : su4 (b ++ c) = su4 b := by
  unfold su4
  rw [List.drop_append_of_le_length (by omega), take_app (by rw [List.length_drop]; omega)]
theorem pay_app {b c : List UInt8} (h : 6 + hd2 b ≤ b.length) : pay (b ++ c) = pay b := by
  unfold pay
  rw [hd2_app (by omega), List.drop_append_of_le_length (by omega), take_app (by rw [List.length_drop]; omega)]
theorem ofNat_toNat_lt {n : Nat} (h : n < 2 ^ 64) : (BitVec.ofNat 64 n).toNat = n := by rw [BitVec.toNat_ofNat]; exact Nat.mod_eq_of_lt h
theorem hd2_fr (p c : List UInt8) (h : p.length ≤ 512) : hd2 (fr p ++ c) = p.length := by
  unfold hd2 fr
  rw [List.append_assoc, List.append_assoc, take_app (by rw [le8_len]; exact Nat.le_refl _), List.take_of_length_le (by rw [le8_len]; exact Nat.le_refl _), vn_le8 _ _ (by decide), ofNat_toNat_lt (by omega)]
  exact Nat.mod_eq_of_lt (by omega)
theorem su4_fr (p c : List UInt8) : su4 (fr p ++ c) = sm p := by
  unfold su4 fr
  have e : (le8 (BitVec.ofNat 64 p.length) 2 ++ le8 ((sm p).setWidth 64) 4 ++ p ++ c).drop 2 = le8 ((sm p).setWidth 64) 4 ++ (p ++ c) := by
    rw [List.append_assoc, List.append_assoc]
    have := List.drop_left (l₁ := le8 (BitVec.ofNat 64 p.length) 2) (l₂ := le8 ((sm p).setWidth 64) 4 ++ (p ++ c))
    rwa [le8_len] at this
  rw [e, take_app (by rw [le8_len]; exact Nat.le_refl _), List.take_of_length_le (by rw [le8_len]; exact Nat.le_refl _)]
  apply BitVec.eq_of_toNat_eq
  rw [BitVec.toNat_setWidth, vn_le8 _ _ (by decide), BitVec.toNat_setWidth]
  have := (sm p).isLt
  omega
theorem pay_fr (p c : List UInt8) (h : p.length ≤ 512) : pay (fr p ++ c) = p := by
  unfold pay
  rw [hd2_fr p c h]
  unfold fr
  have e : (le8 (BitVec.ofNat 64 p.length) 2 ++ le8 ((sm p).setWidth 64) 4 ++ p ++ c).drop 6 = p ++ c := by
    rw [List.append_assoc]
    have := List.drop_left (l₁ := le8 (BitVec.ofNat 64 p.length) 2 ++ le8 ((sm p).setWidth 64) 4) (l₂ := p ++ c)
    rwa [List.length_append, le8_len, le8_len] at this
  rw [e, List.take_left]
theorem opn_fr (p c : List UInt8) (h : p.length ≤ 512) : opn (fr p ++ c) = (0, p) := by
  unfold opn
  have hl : (fr p ++ c).length = 6 + p.length + c.length := by rw [List.length_append, fr_len]
  rw [if_neg (by omega), hd2_fr p c h, if_neg (by omega), if_neg (by omega), su4_fr, pay_fr p c h, if_neg (by simp)]
theorem vn_take_le8 (l : List UInt8) (n : Nat) (hn : n ≤ 8) (h : l.length = n) (v : BitVec 64) (hv : v.toNat = (vn l n).toNat) : le8 v n = l := by
  apply List.ext_getElem (by rw [le8_len, h])
  intro i h1 h2
  have h1' : i < n := by rw [le8_len] at h1; exact h1
  have e : v = vn l n := BitVec.eq_of_toNat_eq hv
  subst e
  have hvn : (vn l n).toNat = ns l n := vn_ns l n hn
  simp only [le8, List.getElem_map, List.getElem_range]
  apply UInt8.toNat_inj.1
  have key : ∀ m, i < m → m ≤ n → (ns l m) / 2 ^ (8 * i) % 256 = l[i].toNat := by
    intro m him hmn
    induction m with
    | zero => omega
    | succ m ih =>
      show (ns l m + (l.getD m 0).toNat * 2 ^ (8 * m)) / 2 ^ (8 * i) % 256 = _
      rcases Nat.lt_or_ge i m with hlt | hge
      · have e : 2 ^ (8 * m) = 2 ^ (8 * i) * (256 * 2 ^ (8 * (m - i - 1))) := by
          rw [show (256 : Nat) = 2 ^ 8 from rfl, ← Nat.pow_add, ← Nat.pow_add]
          congr 1
          omega
        rw [e, Nat.mul_left_comm, Nat.add_mul_div_left _ _ (Nat.pow_pos (by decide)), Nat.mul_left_comm, Nat.add_mul_mod_self_left]
        exact ih hlt (by omega)
      · have e : m = i := by omega
        subst e
        have hlt := ns_lt l m
        rw [Nat.add_mul_div_right _ _ (Nat.pow_pos (by decide)), Nat.div_eq_of_lt hlt, Nat.zero_add, List.getD_eq_getElem?_getD, List.getElem?_eq_getElem h2, Option.getD_some]
        exact Nat.mod_eq_of_lt l[m].toNat_lt
  have := key n (by omega) (Nat.le_refl _)
  rw [← this]
  show ((vn l n >>> (8 * i)).setWidth 8).toNat = _
  rw [BitVec.toNat_setWidth, BitVec.toNat_ushiftRight, hvn, Nat.shiftRight_eq_div_pow]
/-- What was read is the frame of what it gave. -/
theorem opn_back {b p : List UInt8} (h : opn b = (0, p)) : p.length ≤ 512 ∧ b = fr p ++ b.drop (6 + p.length) := by
  unfold opn at h
  split at h
  · simp at h
  split at h
  · simp at h
  split at h
  · simp at h
  split at h
  · simp at h
  rename_i h1 h2 h3 h4
  have hp : p = pay b := by simpa using h.symm
  have hpl : p.length = hd2 b := by rw [hp]; unfold pay; rw [List.length_take, List.length_drop]; omega
  refine ⟨by omega, ?_⟩
  have e0 : b = b.take 2 ++ ((b.drop 2).take 4 ++ ((b.drop 6).take (hd2 b) ++ b.drop (6 + hd2 b))) := by
    rw [← List.drop_drop, List.take_append_drop, show b.drop 6 = (b.drop 2).drop 4 from by rw [List.drop_drop], List.take_append_drop, List.take_append_drop]
  have e1 : le8 (BitVec.ofNat 64 p.length) 2 = b.take 2 := vn_take_le8 _ _ (by decide) (by rw [List.length_take]; omega) _ (by rw [ofNat_toNat_lt (by omega), hpl]; rfl)
  have e2 : le8 ((sm p).setWidth 64) 4 = (b.drop 2).take 4 := by
    refine vn_take_le8 _ _ (by decide) (by rw [List.length_take, List.length_drop]; omega) _ ?_
    have hs : su4 b = sm p := by rw [hp]; simpa using h4
    rw [← hs]
    unfold su4
    rw [BitVec.toNat_setWidth, BitVec.toNat_setWidth]
    have hb : (vn ((b.drop 2).take 4) 4).toNat < 2 ^ 32 := by rw [vn_ns _ _ (by decide)]; exact ns_lt _ 4
    omega
  unfold fr
  rw [e1, e2, hpl]
  conv => lhs; rw [e0]
  rw [hp]
  unfold pay
  simp only [List.append_assoc]
theorem fr_inj {p q : List UInt8} (hp : p.length ≤ 512) (hq : q.length ≤ 512) (h : fr p = fr q) : p = q := by
  have h1 := opn_fr p [] hp
  rw [h, opn_fr q [] hq] at h1
  exact (congrArg Prod.snd h1).symm
theorem opn_bad_app {b c : List UInt8} {e : Int} (h : (opn b).1 = e) (he : e ≠ 2) : opn (b ++ c) = opn b := by
  unfold opn at h ⊢
  split at h
  · exact absurd h.symm he
  rename_i h1
  rw [if_neg (by rw [List.length_append]; omega), if_neg h1, hd2_app (by omega)]
  split at h
  · rename_i h2
    rw [if_pos h2, if_pos h2]
  rename_i h2
  rw [if_neg h2, if_neg h2]
  split at h
  · exact absurd h.symm he
  rename_i h3
  rw [if_neg (by rw [List.length_append]; omega), if_neg h3, su4_app (by omega), pay_app (by omega)]
theorem opn_short {p : List UInt8} (hp : p.length ≤ 512) {n : Nat} (h : n < 6 + p.length) : opn ((fr p).take n) = (2, []) := by
  have hl : ((fr p).take n).length = n := by rw [List.length_take, fr_len]; omega
  unfold opn
  rw [hl]
  by_cases h2 : n < 2
  · rw [if_pos h2]
  have e : hd2 ((fr p).take n) = p.length := by
    have := hd2_fr p [] hp
    rw [List.append_nil] at this
    rw [← this]
    unfold hd2
    rw [List.take_take, Nat.min_eq_left (by omega)]
  rw [if_neg h2, e, if_neg (by omega), if_pos h]
theorem opn_fst (b : List UInt8) : (opn b).1 = 0 ∨ (opn b).1 = 2 ∧ (opn b).2 = [] ∨ (opn b).1 = 4 ∧ (opn b).2 = [] ∨ (opn b).1 = 5 ∧ (opn b).2 = [] := by
  unfold opn
  split
  · simp
  split
  · simp
  split
  · simp
  split
  · simp
  · simp

/-- Why frames end: there are no more bytes, or what stands there is none. -/
def stpR (r : List UInt8) (e : Int) : Prop := (r = [] ∧ e = 0) ∨ (r ≠ [] ∧ e ≠ 0 ∧ opn r = (e, []))
/-- Frames one behind the other, and what is behind them. -/
def AllS (b : List UInt8) (l : List (List UInt8)) (r : List UInt8) (e : Int) : Prop := b = l.flatMap fr ++ r ∧ (∀ p ∈ l, p.length ≤ 512) ∧ stpR r e
theorem opn_nil : opn [] = (2, []) := rfl
theorem allS_uniq {b : List UInt8} : ∀ {l l' : List (List UInt8)} {r r' : List UInt8} {e e' : Int}, AllS b l r e → AllS b l' r' e' → l = l' ∧ r = r' ∧ e = e' := by
  intro l
  induction l generalizing b with
  | nil =>
    intro l' r r' e e' h h'
    cases l' with
    | nil =>
      have e1 : r = r' := by rw [← (show b = r from by simpa using h.1)]; simpa using h'.1
      subst e1
      refine ⟨rfl, rfl, ?_⟩
      rcases h.2.2 with ⟨h1, h2⟩ | ⟨h1, h2, h3⟩
      · rcases h'.2.2 with ⟨h4, h5⟩ | ⟨h4, _⟩
        · rw [h2, h5]
        · exact absurd h1 h4
      · rcases h'.2.2 with ⟨h4, _⟩ | ⟨_, _, h5⟩
        · exact absurd h4 h1
        · rw [h3] at h5; exact congrArg Prod.fst h5
    | cons p l' =>
      have hb : b = fr p ++ (l'.flatMap fr ++ r') := by have := h'.1; simpa using this
      have hr : b = r := by simpa using h.1
      have ho := opn_fr p (l'.flatMap fr ++ r') (h'.2.1 p (by simp))
      rw [← hb, hr] at ho
      rcases h.2.2 with ⟨h1, _⟩ | ⟨_, h2, h3⟩
      · rw [h1, opn_nil] at ho; simp at ho
      · rw [h3] at ho; exact absurd (congrArg Prod.fst ho) h2
  | cons p l ih =>
    intro l' r r' e e' h h'
    have hb : b = fr p ++ (l.flatMap fr ++ r) := by have := h.1; simpa using this
    have ho := opn_fr p (l.flatMap fr ++ r) (h.2.1 p (by simp))
    rw [← hb] at ho
    cases l' with
    | nil =>
      have hr : b = r' := by simpa using h'.1
      rw [hr] at ho
      rcases h'.2.2 with ⟨h1, _⟩ | ⟨_, h2, h3⟩
      · rw [h1, opn_nil] at ho; simp at ho
      · rw [h3] at ho; exact absurd (congrArg Prod.fst ho) h2
    | cons p' l' =>
      have hb' : b = fr p' ++ (l'.flatMap fr ++ r') := by have := h'.1; simpa using this
      have ho' := opn_fr p' (l'.flatMap fr ++ r') (h'.2.1 p' (by simp))
      rw [← hb', ho] at ho'
      have e1 : p = p' := congrArg Prod.snd ho'
      subst e1
      have e2 : l.flatMap fr ++ r = l'.flatMap fr ++ r' := List.append_cancel_left (hb.symm.trans hb')
      obtain ⟨e3, e4, e5⟩ := ih (b := l.flatMap fr ++ r) ⟨rfl, fun q hq => h.2.1 q (by simp [hq]), h.2.2⟩ ⟨e2, fun q hq => h'.2.1 q (by simp [hq]), h'.2.2⟩
      exact ⟨by rw [e3], e4, e5⟩
theorem stpR_any (r : List UInt8) (h : (opn r).1 ≠ 0 ∨ r = []) : ∃ e, stpR r e := by
  by_cases hr : r = []
  · exact ⟨0, .inl ⟨hr, rfl⟩⟩
  · have h0 := h.resolve_right hr
    refine ⟨(opn r).1, .inr ⟨hr, h0, ?_⟩⟩
    rcases opn_fst r with h | h | h | h
    · exact absurd h h0
    all_goals exact Prod.ext rfl h.2
theorem flat_snoc (l : List (List UInt8)) (p : List UInt8) : (l ++ [p]).flatMap fr = l.flatMap fr ++ fr p := by simp



theorem w82 : (w8 2).toNat = 2 := rfl
theorem w84 : (w8 4).toNat = 4 := rfl
theorem sumOf_m (p : List UInt8) (h : p.length ≤ 100000) : m63_frame_sumOf p = some (sm p) := by
  unfold m63_frame_sumOf
  rw [U_m _ _ _ (by simp), w82, BitVec.ofInt_natCast]
  simp only [Option.bind_some, List.nil_append]
  rw [Crc.of_m _ (by rw [le8_len]; omega)]
  simp only [Option.bind_some]
  rw [Crc.more_m _ _ h]
  rfl
theorem U_short (n p : Nat) (d : List UInt8) (h1 : 1 ≤ n) (h8 : n ≤ 8) (hp : p ≤ d.length) (h : d.length < p + n) (hd : d.length ≤ 100000000) : m61_enc_Reader_Us n 0 p d = some (0#64, 2, (p : Int)) := by
  unfold m61_enc_Reader_Us m62_enc_Reader_Errs
  simp only [Option.bind_some]
  rw [if_neg (by simp), if_neg (by rw [decide_eq_true_eq]; omega), if_neg (by rw [decide_eq_true_eq]; omega)]
  unfold m61_enc_Reader_Us_k2
  rw [take_short _ _ _ hp (by omega) hd]
  rfl
theorem U_err (n e p : Int) (d : List UInt8) (he : e ≠ 0) : m61_enc_Reader_Us n e p d = some (0#64, e, p) := by
  unfold m61_enc_Reader_Us m62_enc_Reader_Errs
  simp only [Option.bind_some]
  rw [if_pos (by simpa using he)]
theorem hd2_lt {b : List UInt8} : hd2 b < 65536 := by
  unfold hd2
  rw [vn_ns _ _ (by decide)]
  exact ns_lt _ 2
theorem open_m (b : List UInt8) (hb : b.length ≤ 100000000) : ∃ w, m53_frame_open b = some (w, (opn b).1) ∧ w.payload_ = (opn b).2 ∧ w.head_.size_ = ((opn b).2.length : Int) := by
  unfold m53_frame_open m60_enc_News m62_enc_Reader_Errs
  simp only [Option.bind_some]
  by_cases h2 : b.length < 2
  · have e : opn b = (2, []) := by unfold opn; rw [if_pos h2]
    rw [show m61_enc_Reader_Us 2 0 0 b = some (0#64, 2, 0) from U_short 2 0 b (by decide) (by decide) (Nat.zero_le _) (by omega) hb, e]
    simp only [Option.bind_some]
    rw [if_neg (by decide), U_err _ _ _ _ (by decide)]
    exact ⟨_, rfl, rfl, rfl⟩
  rw [show m61_enc_Reader_Us 2 0 0 b = some (vn (b.take 2) 2, 0, 2) from U_read 2 0 b (by decide) (by decide) (by omega) hb]
  simp only [Option.bind_some]
  have hh : (vn (b.take 2) 2).toNat = hd2 b := rfl
  have hlt := hd2_lt (b := b)
  rw [hh, wI_id (n := (hd2 b : Int)) (by omega) (by omega)]
  by_cases h5 : 512 < hd2 b
  · have e : opn b = (5, []) := by unfold opn; rw [if_neg h2, if_pos h5]
    rw [if_pos (decide_eq_true (by omega)), e]
    exact ⟨_, rfl, rfl, rfl⟩
  rw [if_neg (by rw [decide_eq_true_eq]; omega)]
  have eo : opn b = if b.length < 6 + hd2 b then (2, []) else if su4 b ≠ sm (pay b) then (4, []) else (0, pay b) := by
    unfold opn; rw [if_neg h2, if_neg h5]
  by_cases h6 : b.length < 6
  · rw [show m61_enc_Reader_Us 4 0 2 b = some (0#64, 2, 2) from U_short 4 2 b (by decide) (by decide) (by omega) (by omega) hb, eo, if_pos (by omega)]
    simp only [Option.bind_some]
    rw [if_pos (by decide)]
    exact ⟨_, rfl, rfl, rfl⟩
  rw [show m61_enc_Reader_Us 4 0 2 b = some (vn ((b.drop 2).take 4) 4, 0, 6) from U_read 4 2 b (by decide) (by decide) (by omega) hb]
  simp only [Option.bind_some]
  rw [if_neg (by simp), wI_id (by omega) (by omega)]
  by_cases h7 : b.length < 6 + hd2 b
  · rw [if_pos (decide_eq_true (by omega)), eo, if_pos h7]
    exact ⟨_, rfl, rfl, rfl⟩
  rw [if_neg (by rw [decide_eq_true_eq]; omega), eo, if_neg h7]
  unfold m53_frame_open_k4
  rw [hh, wI_id (n := (hd2 b : Int)) (by omega) (by omega), wI_id (by omega) (by omega), cut_of (by omega) (by omega) (by omega)]
  simp only [Option.bind_some]
  have ep : (b.drop (6 : Int).toNat).take ((6 + (hd2 b : Int)).toNat - (6 : Int).toNat) = pay b := by
    unfold pay
    rw [show (6 + (hd2 b : Int)).toNat - (6 : Int).toNat = hd2 b from by omega]
    rfl
  have hpl : (pay b).length = hd2 b := by unfold pay; rw [List.length_take, List.length_drop]; omega
  rw [ep, sumOf_m _ (by omega)]
  simp only [Option.bind_some]
  have es : (vn ((b.drop 2).take 4) 4).setWidth 32 = su4 b := rfl
  rw [es]
  by_cases h8 : su4 b = sm (pay b)
  · rw [if_neg (by rw [h8]; simp), if_neg (by simp [h8])]
    exact ⟨_, rfl, rfl, by show (hd2 b : Int) = _; rw [hpl]⟩
  · rw [if_pos (by rw [Bool.not_eq_true', decide_eq_false_iff_not]; exact fun h => h8 (BitVec.eq_of_toNat_eq (by omega))), if_pos h8]
    exact ⟨_, rfl, rfl, rfl⟩

/-- What reading at a place gives. -/
def rdS (b : List UInt8) (at_ : Int) : List UInt8 × Int × Int :=
  if at_ < 0 ∨ (b.length : Int) < at_ then ([], 0, 1) else if (opn (b.drop at_.toNat)).1 = 0 then ((opn (b.drop at_.toNat)).2, at_ + 6 + (opn (b.drop at_.toNat)).2.length, 0) else ([], 0, (opn (b.drop at_.toNat)).1)
theorem rdS_at (b : List UInt8) (n : Nat) (h : n ≤ b.length) : rdS b (n : Int) = if (opn (b.drop n)).1 = 0 then ((opn (b.drop n)).2, (n : Int) + 6 + (opn (b.drop n)).2.length, 0) else ([], 0, (opn (b.drop n)).1) := by
  unfold rdS
  rw [if_neg (by omega), Int.toNat_natCast]
theorem opn_len {b : List UInt8} (h : (opn b).1 = 0) : (opn b).2.length ≤ 512 ∧ 6 + (opn b).2.length ≤ b.length := by
  have := opn_back (b := b) (p := (opn b).2) (Prod.ext h rfl)
  refine ⟨this.1, ?_⟩
  have hl := congrArg List.length this.2
  rw [List.length_append, fr_len, List.length_drop] at hl
  omega
theorem Read_m (b : List UInt8) (i : Int) (hb : b.length ≤ 100000000) : m48_frame_Read b i = some (rdS b i) := by
  unfold m48_frame_Read rdS
  by_cases h0 : i < 0
  · rw [if_pos (decide_eq_true h0), if_pos (.inl h0)]
  rw [if_neg (by rw [decide_eq_true_eq]; exact h0)]
  by_cases h1 : (b.length : Int) < i
  · rw [if_pos (decide_eq_true h1), if_pos (.inr h1)]
  rw [if_neg (by rw [decide_eq_true_eq]; exact h1), if_neg (by omega)]
  unfold m48_frame_Read_k1
  rw [cut_of (by omega) (by omega) (by omega)]
  simp only [Option.bind_some]
  have e : (b.drop i.toNat).take ((b.length : Int).toNat - i.toNat) = b.drop i.toNat := List.take_of_length_le (by rw [List.length_drop]; omega)
  rw [e]
  obtain ⟨w, hw, h2, h3⟩ := open_m (b.drop i.toNat) (by rw [List.length_drop]; omega)
  rw [hw]
  simp only [Option.bind_some]
  by_cases h4 : (opn (b.drop i.toNat)).1 = 0
  · have h5 := opn_len h4
    rw [if_neg (by simp [h4]), if_pos h4, h2, h3, m54_slices_Clone_m _ (by omega)]
    simp only [Option.bind_some]
    rw [wI_id (n := i + 6) (by omega) (by omega), wI_id (by omega) (by omega)]
  · rw [if_pos (by simpa using h4), if_neg h4]
theorem hd2_get (b : List UInt8) (h : 2 ≤ b.length) : hd2 b = b[0].toNat + 256 * b[1].toNat := by
  unfold hd2
  rw [vn_ns _ _ (by decide)]
  match b, h with
  | x :: y :: _, _ => simp [ns]; omega
theorem All_loop (b : List UInt8) (hb : b.length ≤ 1000000) {ρ : Type} {f : Int × List (List UInt8) → Option (LR (Int × List (List UInt8)) (Int × List (List UInt8)) ρ)} (mk : List (List UInt8) → Int → Int → ρ)
    (hf : ∀ s, f s = if (decide (s.1 < (b.length : Int))) then ((some (rdS b s.1)).bind fun v3 => if (!decide (v3.2.2 = 0)) then (some (.ret (mk s.2 s.1 v3.2.2))) else (if (s.2.length + [v3.1].length) * 24 ≤ 140737488355328 then (some (.cont (v3.2.1, (s.2 ++ [v3.1])))) else none)) else (some (.brk (s.1, s.2)))) :
    ∃ l r e x, AllS b l r e ∧ iter f fuel (0, []) = some x ∧ (match x with | .inl y => e ≠ 0 ∧ y = mk l ((l.flatMap fr).length : Int) e | .inr y => e = 0 ∧ y = (((l.flatMap fr).length : Int), l)) := by
  obtain ⟨x, hx, l, r, e, h1, h2⟩ := iter_inv (f := f) (P := fun s => ∃ l : List (List UInt8), (∀ p ∈ l, p.length ≤ 512) ∧ s = (((l.flatMap fr).length : Int), l) ∧ b = l.flatMap fr ++ b.drop (l.flatMap fr).length ∧ l.length ≤ (l.flatMap fr).length ∧ (l.flatMap fr).length ≤ b.length)
    (μ := fun s => b.length - s.1.toNat) (R := fun x => ∃ l r e, AllS b l r e ∧ (match x with | .inl y => e ≠ 0 ∧ y = mk l ((l.flatMap fr).length : Int) e | .inr y => e = 0 ∧ y = (((l.flatMap fr).length : Int), l))) (by
    rintro _ ⟨l, hl, rfl, hpre, hll, hle⟩
    rw [hf]
    dsimp only
    generalize hn : (l.flatMap fr).length = n at *
    rcases Nat.lt_or_ge n b.length with hlt | hge
    · rw [if_pos (decide_eq_true (by omega))]
      simp only [Option.bind_some]
      rw [rdS_at b n (by omega)]
      have hdl : (b.drop n).length = b.length - n := List.length_drop
      by_cases h0 : (opn (b.drop n)).1 = 0
      · left
        have h1 := opn_len h0
        have h3 := (opn_back (b := b.drop n) (p := (opn (b.drop n)).2) (Prod.ext h0 rfl)).2
        generalize (opn (b.drop n)).2 = p at h1 h3 ⊢
        rw [if_pos h0]
        try dsimp only
        rw [if_neg (by simp), if_pos (by simp only [List.length_cons, List.length_nil]; omega)]
        have hfl : ((l ++ [p]).flatMap fr).length = n + (6 + p.length) := by rw [flat_snoc, List.length_append, fr_len, hn]
        refine ⟨_, rfl, ⟨l ++ [p], fun q hq => ?_, ?_, ?_, ?_, ?_⟩, ?_⟩
        · rcases List.mem_append.1 hq with h | h
          · exact hl q h
          · rw [List.mem_singleton.1 h]; exact h1.1
        · rw [hfl]; exact Prod.ext (by show _ = _; omega) rfl
        · rw [hfl, flat_snoc, List.append_assoc]
          conv => lhs; rw [hpre, h3]
          rw [List.drop_drop]
        · rw [hfl, List.length_append]; simp only [List.length_cons, List.length_nil]; omega
        · rw [hfl]; omega
        · show b.length - ((n : Int) + 6 + p.length).toNat < b.length - (n : Int).toNat
          omega
      · right; right
        rw [if_neg h0]
        try dsimp only
        rw [if_pos (by simpa using h0)]
        refine ⟨_, rfl, l, b.drop n, (opn (b.drop n)).1, ⟨hpre, hl, .inr ⟨fun hc => by rw [hc] at hdl; simp at hdl; omega, h0, ?_⟩⟩, h0, by rw [hn]⟩
        rcases opn_fst (b.drop n) with h | h | h | h
        · exact absurd h h0
        all_goals exact Prod.ext rfl h.2
    · right; left
      rw [if_neg (by rw [decide_eq_true_eq]; omega)]
      refine ⟨_, rfl, l, [], 0, ⟨?_, hl, .inl ⟨rfl, rfl⟩⟩, rfl, by rw [hn]⟩
      rw [List.append_nil]
      conv => lhs; rw [hpre, List.drop_of_length_le hge, List.append_nil]) fuel (0, []) ⟨[], by simp, rfl, by simp, by simp, by simp⟩ (lt_fuel (by show b.length - 0 ≤ _; omega))
  exact ⟨l, r, e, x, h1, hx, h2⟩
theorem allS_ex (b : List UInt8) (hb : b.length ≤ 1000000) : ∃ l r e, AllS b l r e := by
  obtain ⟨l, r, e, _, h, _⟩ := All_loop b hb (fun a b c => (a, b, c)) (fun s => rfl)
  exact ⟨l, r, e, h⟩
end Go.Proofs.YtlnpkincpgbmcaaDoor.Abs
