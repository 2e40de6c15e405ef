/-
  Keys and ranges of them, as plain functions.
-/
import Derived.Test.YtiadgkkebmclgaaAbsC
namespace Go.Proofs.Ytiadgkkebmclgaa.Abs
open Go.RowKit

theorem u8_tri (x y : UInt8) : x < y ∨ x = y ∨ y < x := by
  rcases Nat.lt_trichotomy x.toNat y.toNat with h | h | h
  · exact .inl (UInt8.lt_iff_toNat_lt.2 h)
  · exact .inr (.inl (UInt8.toNat_inj.1 h))
  · exact .inr (.inr (UInt8.lt_iff_toNat_lt.2 h))
theorem u8_asymm {x y : UInt8} (h : x < y) : ¬ y < x := fun h' => by
  have := UInt8.lt_iff_toNat_lt.1 h
  have := UInt8.lt_iff_toNat_lt.1 h'
  omega
theorem u8_trans {x y z : UInt8} (h : x < y) (h' : y < z) : x < z := by
  have h1 := UInt8.lt_iff_toNat_lt.1 h
  have h2 := UInt8.lt_iff_toNat_lt.1 h'
  exact UInt8.lt_iff_toNat_lt.2 (by omega)

theorem cmpL_self : ∀ a : List UInt8, cmpL a a = 0
  | [] => rfl
  | x :: xs => by unfold cmpL; rw [if_neg (UInt8.lt_irrefl x), if_neg (UInt8.lt_irrefl x)]; exact cmpL_self xs
theorem cmpL_swap : ∀ a b : List UInt8, cmpL a b = -cmpL b a
  | [], [] => rfl
  | [], _ :: _ => rfl
  | _ :: _, [] => rfl
  | x :: xs, y :: ys => by
    unfold cmpL
    rcases u8_tri x y with h | h | h
    · rw [if_pos h, if_neg (u8_asymm h), if_pos h]
    · subst h
      rw [if_neg (UInt8.lt_irrefl x), if_neg (UInt8.lt_irrefl x), if_neg (UInt8.lt_irrefl x), if_neg (UInt8.lt_irrefl x)]; exact cmpL_swap xs ys
    · rw [if_neg (u8_asymm h), if_pos h, if_pos h]; rfl
theorem cmpL_range : ∀ a b : List UInt8, cmpL a b = -1 ∨ cmpL a b = 0 ∨ cmpL a b = 1
  | [], [] => .inr (.inl rfl)
  | [], _ :: _ => .inl rfl
  | _ :: _, [] => .inr (.inr rfl)
  | x :: xs, y :: ys => by
    unfold cmpL
    split
    · exact .inl rfl
    · split
      · exact .inr (.inr rfl)
      · exact cmpL_range xs ys
theorem cmpL_zero : ∀ {a b : List UInt8}, cmpL a b = 0 → a = b
  | [], [], _ => rfl
  | [], _ :: _, h => by cases h
  | _ :: _, [], h => by cases h
  | x :: xs, y :: ys, h => by
    unfold cmpL at h
    rcases u8_tri x y with h1 | h1 | h1
    · rw [if_pos h1] at h; cases h
    · subst h1
      rw [if_neg (UInt8.lt_irrefl x), if_neg (UInt8.lt_irrefl x)] at h
      rw [cmpL_zero h]
    · rw [if_neg (u8_asymm h1), if_pos h1] at h; cases h
theorem cmpL_trans : ∀ {a b c : List UInt8}, cmpL a b ≤ 0 → cmpL b c ≤ 0 → cmpL a c ≤ 0 ∧ (cmpL a b < 0 ∨ cmpL b c < 0 → cmpL a c < 0)
  | [], b, [], h1, h2 => ⟨Int.le_refl _, fun h => by
      cases b with
      | nil => rcases h with h | h <;> simp [cmpL] at h
      | cons y ys => simp [cmpL] at h2⟩
  | [], _, _ :: _, _, _ => ⟨by simp [cmpL], fun _ => by simp [cmpL]⟩
  | _ :: _, [], _, h1, _ => by simp [cmpL] at h1
  | _ :: _, _ :: _, [], _, h2 => by simp [cmpL] at h2
  | x :: xs, y :: ys, z :: zs, h1, h2 => by
    unfold cmpL at h1 h2 ⊢
    rcases u8_tri x y with e1 | e1 | e1
    · rcases u8_tri y z with e2 | e2 | e2
      · rw [if_pos (u8_trans e1 e2)]; exact ⟨by decide, fun _ => by decide⟩
      · subst e2; rw [if_pos e1]; exact ⟨by decide, fun _ => by decide⟩
      · rw [if_neg (u8_asymm e2), if_pos e2] at h2; exact absurd h2 (by decide)
    · subst e1
      rw [if_neg (UInt8.lt_irrefl x), if_neg (UInt8.lt_irrefl x)] at h1 ⊢
      rcases u8_tri x z with e2 | e2 | e2
      · rw [if_pos e2]; exact ⟨by decide, fun _ => by decide⟩
      · subst e2
        simp only [UInt8.lt_irrefl, if_false] at h2 ⊢
        exact cmpL_trans h1 h2
      · rw [if_neg (u8_asymm e2), if_pos e2] at h2; exact absurd h2 (by decide)
    · rw [if_neg (u8_asymm e1), if_pos e1] at h1; exact absurd h1 (by decide)
theorem cmpL_app0 : ∀ a : List UInt8, cmpL a (a ++ [0]) = -1
  | [] => rfl
  | x :: xs => by
    show (if x < x then (-1 : Int) else if x < x then 1 else cmpL xs (xs ++ [0])) = -1
    rw [if_neg (UInt8.lt_irrefl x), if_neg (UInt8.lt_irrefl x)]
    exact cmpL_app0 xs

theorem toList_data (l : List UInt8) : (⟨l.toArray⟩ : ByteArray).toList = l := by
  rw [ByteArray.toList_eq]

theorem str_eq (a b : List UInt8) : ((⟨a.toArray⟩ : ByteArray).toList == (⟨b.toArray⟩ : ByteArray).toList) = decide (a = b) := by
  rw [toList_data, toList_data]
  by_cases h : a = b <;> simp [h]

def hasM (lo hi : List UInt8) (o : Bool) (k : List UInt8) : Bool := decide (0 ≤ cmpL k lo) && (o || decide (cmpL k hi < 0))
def emptyM (lo hi : List UInt8) (o : Bool) : Bool := !o && (decide (lo = [] ∧ hi = [0]) || decide (cmpL hi lo ≤ 0))
def meetLo (lo lo' : List UInt8) : List UInt8 := if 0 < cmpL lo' lo then lo' else lo
def meetTake (hi : List UInt8) (o : Bool) (hi' : List UInt8) (o' : Bool) : Bool := !o' && (o || decide (cmpL hi' hi < 0))
def meetHi (hi : List UInt8) (o : Bool) (hi' : List UInt8) (o' : Bool) : List UInt8 := if meetTake hi o hi' o' = true then hi' else hi
def meetO (hi : List UInt8) (o : Bool) (hi' : List UInt8) (o' : Bool) : Bool := if meetTake hi o hi' o' = true then false else o
theorem empty_none {lo : List UInt8} {x : UInt8} (h1 : (lo.length : Int) = 0) (h2 : (x.toNat : Int) = 0) : emptyM lo [x] false = true := by
  have e1 : lo = [] := List.eq_nil_of_length_eq_zero (by omega)
  have e2 : x = 0 := UInt8.toNat_inj.1 (show x.toNat = (0 : UInt8).toNat by rw [show (0 : UInt8).toNat = 0 from rfl]; omega)
  subst e1; subst e2
  rfl
theorem empty_other {lo hi : List UInt8} (h : ¬ (lo = [] ∧ hi = [0])) : emptyM lo hi false = decide (cmpL hi lo ≤ 0) := by
  unfold emptyM
  rw [decide_eq_false h]; simp
def mE (lo hi : List UInt8) (o : Bool) (lo1 hi1 : List UInt8) (o1 : Bool) : Bool := emptyM (meetLo lo lo1) (meetHi hi o hi1 o1) (meetO hi o hi1 o1)
def mL (lo hi : List UInt8) (o : Bool) (lo1 hi1 : List UInt8) (o1 : Bool) : List UInt8 := if mE lo hi o lo1 hi1 o1 = true then [] else meetLo lo lo1
def mH (lo hi : List UInt8) (o : Bool) (lo1 hi1 : List UInt8) (o1 : Bool) : List UInt8 := if mE lo hi o lo1 hi1 o1 = true then [] else meetHi hi o hi1 o1
def mO (lo hi : List UInt8) (o : Bool) (lo1 hi1 : List UInt8) (o1 : Bool) : Bool := if mE lo hi o lo1 hi1 o1 = true then false else meetO hi o hi1 o1
theorem meet_empty {lo hi : List UInt8} {o : Bool} {lo1 hi1 : List UInt8} {o1 : Bool} {L Hh : List UInt8} {O : Bool} (h1 : meetLo lo lo1 = L) (h2 : meetHi hi o hi1 o1 = Hh) (h3 : meetO hi o hi1 o1 = O) (he : emptyM L Hh O = true) :
    mE lo hi o lo1 hi1 o1 = true ∧ mL lo hi o lo1 hi1 o1 = [] ∧ mH lo hi o lo1 hi1 o1 = [] ∧ mO lo hi o lo1 hi1 o1 = false := by
  have e : mE lo hi o lo1 hi1 o1 = true := by unfold mE; rw [h1, h2, h3]; exact he
  exact ⟨e, by unfold mL; rw [if_pos e], by unfold mH; rw [if_pos e], by unfold mO; rw [if_pos e]⟩
theorem meet_full {lo hi : List UInt8} {o : Bool} {lo1 hi1 : List UInt8} {o1 : Bool} {L Hh : List UInt8} {O : Bool} (h1 : meetLo lo lo1 = L) (h2 : meetHi hi o hi1 o1 = Hh) (h3 : meetO hi o hi1 o1 = O) (he : emptyM L Hh O = false) :
    mE lo hi o lo1 hi1 o1 = false ∧ mL lo hi o lo1 hi1 o1 = L ∧ mH lo hi o lo1 hi1 o1 = Hh ∧ mO lo hi o lo1 hi1 o1 = O := by
  have e : mE lo hi o lo1 hi1 o1 = false := by unfold mE; rw [h1, h2, h3]; exact he
  exact ⟨e, by unfold mL; rw [if_neg (by rw [e]; simp), h1], by unfold mH; rw [if_neg (by rw [e]; simp), h2], by unfold mO; rw [if_neg (by rw [e]; simp), h3]⟩
theorem take_yes {hi hi1 : List UInt8} {o o1 : Bool} (h : meetTake hi o hi1 o1 = true) : meetHi hi o hi1 o1 = hi1 ∧ meetO hi o hi1 o1 = false := ⟨if_pos h, if_pos h⟩
theorem take_no {hi hi1 : List UInt8} {o o1 : Bool} (h : meetTake hi o hi1 o1 = false) : meetHi hi o hi1 o1 = hi ∧ meetO hi o hi1 o1 = o := ⟨if_neg (by rw [h]; simp), if_neg (by rw [h]; simp)⟩
abbrev bsv (l : List UInt8) : Lf := .sl l.length (bl l)
abbrev rsv (lo hi : List UInt8) (o : Bool) : SV := .agg [bsv lo, bsv hi, .b o]

theorem cmpL_ge {a b : List UInt8} : 0 ≤ cmpL a b ↔ cmpL b a ≤ 0 := by rw [cmpL_swap a b]; omega
theorem hasM_iff {lo hi : List UInt8} {o : Bool} {k : List UInt8} : hasM lo hi o k = true ↔ cmpL lo k ≤ 0 ∧ (o = true ∨ cmpL k hi < 0) := by
  unfold hasM
  rw [Bool.and_eq_true, decide_eq_true_eq, cmpL_ge, Bool.or_eq_true, decide_eq_true_eq]
theorem has_between {lo hi : List UInt8} {o : Bool} {a b c : List UInt8} (h1 : hasM lo hi o a = true) (h2 : hasM lo hi o c = true) (h3 : cmpL a b ≤ 0) (h4 : cmpL b c ≤ 0) : hasM lo hi o b = true := by
  rw [hasM_iff] at h1 h2 ⊢
  refine ⟨(cmpL_trans h1.1 h3).1, ?_⟩
  rcases h2.2 with h | h
  · exact .inl h
  · exact .inr ((cmpL_trans h4 (Int.le_of_lt h)).2 (.inr h))
theorem cmpL_nil {a : List UInt8} (h : cmpL a [] ≤ 0) : a = [] := by
  cases a with
  | nil => rfl
  | cons x xs => simp [cmpL] at h
theorem cmpL_one {a : List UInt8} (h : cmpL a [0] < 0) : a = [] := by
  cases a with
  | nil => rfl
  | cons x xs =>
    unfold cmpL at h
    have h0 : ¬ x < 0 := fun h => by have := UInt8.lt_iff_toNat_lt.1 h; rw [show (0 : UInt8).toNat = 0 from rfl] at this; omega
    rw [if_neg h0] at h
    split at h
    · exact absurd h (by decide)
    · cases xs <;> simp [cmpL] at h
theorem empty_has {lo hi : List UInt8} {o : Bool} {k : List UInt8} (h : emptyM lo hi o = true) (hk : k ≠ []) : hasM lo hi o k = false := by
  cases hh : hasM lo hi o k with
  | false => rfl
  | true =>
    exfalso
    rw [hasM_iff] at hh
    unfold emptyM at h
    rw [Bool.and_eq_true, Bool.or_eq_true, decide_eq_true_eq, decide_eq_true_eq] at h
    have ho : o = false := by simpa using h.1
    rcases hh.2 with h2 | h2
    · rw [ho] at h2; cases h2
    · rcases h.2 with ⟨_, h3⟩ | h3
      · rw [h3] at h2; exact hk (cmpL_one h2)
      · have := (cmpL_trans (cmpL_trans (Int.le_of_lt h2) h3).1 hh.1).2
        have h5 := (cmpL_trans (Int.le_of_lt h2) h3).2 (.inl h2)
        have h6 := this (.inl h5)
        rw [cmpL_self] at h6
        omega
theorem meet_raw (lo hi : List UInt8) (o : Bool) (lo1 hi1 : List UInt8) (o1 : Bool) (k : List UInt8) :
    hasM (meetLo lo lo1) (meetHi hi o hi1 o1) (meetO hi o hi1 o1) k = (hasM lo hi o k && hasM lo1 hi1 o1 k) := by
  rw [Bool.eq_iff_iff, Bool.and_eq_true, hasM_iff, hasM_iff, hasM_iff]
  have hL : cmpL (meetLo lo lo1) k ≤ 0 ↔ cmpL lo k ≤ 0 ∧ cmpL lo1 k ≤ 0 := by
    unfold meetLo
    split
    · rename_i h
      have h' : cmpL lo lo1 ≤ 0 := by rw [cmpL_swap]; omega
      exact ⟨fun hk => ⟨(cmpL_trans h' hk).1, hk⟩, fun hk => hk.2⟩
    · rename_i h
      have h' : cmpL lo1 lo ≤ 0 := by omega
      exact ⟨fun hk => ⟨hk, (cmpL_trans h' hk).1⟩, fun hk => hk.1⟩
  have hH : (meetO hi o hi1 o1 = true ∨ cmpL k (meetHi hi o hi1 o1) < 0) ↔ (o = true ∨ cmpL k hi < 0) ∧ (o1 = true ∨ cmpL k hi1 < 0) := by
    cases ht : meetTake hi o hi1 o1 with
    | true =>
      rw [(take_yes ht).1, (take_yes ht).2]
      unfold meetTake at ht
      rw [Bool.and_eq_true, Bool.or_eq_true, decide_eq_true_eq] at ht
      have h1 : o1 = false := by simpa using ht.1
      rw [h1]
      constructor
      · rintro (h | h)
        · cases h
        · refine ⟨?_, .inr h⟩
          rcases ht.2 with h2 | h2
          · exact .inl h2
          · exact .inr ((cmpL_trans (Int.le_of_lt h) (Int.le_of_lt h2)).2 (.inl h))
      · exact fun h => h.2
    | false =>
      rw [(take_no ht).1, (take_no ht).2]
      constructor
      · intro h
        refine ⟨h, ?_⟩
        cases h1 : o1 with
        | true => exact .inl rfl
        | false =>
          right
          unfold meetTake at ht
          rw [h1] at ht
          simp only [Bool.not_false, Bool.true_and, Bool.or_eq_false_iff, decide_eq_false_iff_not] at ht
          rcases h with h | h
          · rw [ht.1] at h; cases h
          · have h' : cmpL hi hi1 ≤ 0 := by rw [cmpL_swap]; omega
            exact (cmpL_trans (Int.le_of_lt h) h').2 (.inl h)
      · exact fun h => h.1
  rw [hL, hH]
  constructor
  · exact fun h => ⟨⟨h.1.1, h.2.1⟩, h.1.2, h.2.2⟩
  · exact fun h => ⟨⟨h.1.1, h.2.1⟩, h.1.2, h.2.2⟩
theorem meet_has {lo hi : List UInt8} {o : Bool} {lo1 hi1 : List UInt8} {o1 : Bool} {k : List UInt8} (hk : k ≠ []) :
    (!mE lo hi o lo1 hi1 o1 && hasM (mL lo hi o lo1 hi1 o1) (mH lo hi o lo1 hi1 o1) (mO lo hi o lo1 hi1 o1) k) = (hasM lo hi o k && hasM lo1 hi1 o1 k) := by
  rw [← meet_raw]
  cases he : mE lo hi o lo1 hi1 o1 with
  | true => rw [empty_has (lo := meetLo lo lo1) (hi := meetHi hi o hi1 o1) (o := meetO hi o hi1 o1) he hk]; rfl
  | false =>
    have := meet_full (lo := lo) (hi := hi) (o := o) (lo1 := lo1) (hi1 := hi1) (o1 := o1) rfl rfl rfl he
    rw [this.2.1, this.2.2.1, this.2.2.2]; rfl
theorem meet_ok {lo hi : List UInt8} {o : Bool} {lo1 hi1 : List UInt8} {o1 : Bool} (he : mE lo hi o lo1 hi1 o1 = false) : emptyM (mL lo hi o lo1 hi1 o1) (mH lo hi o lo1 hi1 o1) (mO lo hi o lo1 hi1 o1) = false := by
  have := meet_full (lo := lo) (hi := hi) (o := o) (lo1 := lo1) (hi1 := hi1) (o1 := o1) rfl rfl rfl he
  rw [this.2.1, this.2.2.1, this.2.2.2]; exact he
theorem meetLo_comm (lo lo1 : List UInt8) : meetLo lo lo1 = meetLo lo1 lo := by
  unfold meetLo
  rcases cmpL_range lo1 lo with h | h | h
  · rw [if_neg (by omega), if_pos (by rw [cmpL_swap]; omega)]
  · rw [if_neg (by omega), if_neg (by rw [cmpL_swap]; omega)]; exact (cmpL_zero h).symm
  · rw [if_pos (by omega), if_neg (by rw [cmpL_swap]; omega)]
theorem mE_comm (lo hi : List UInt8) (o : Bool) (lo1 hi1 : List UInt8) (o1 : Bool) : mE lo hi o lo1 hi1 o1 = mE lo1 hi1 o1 lo hi o := by
  unfold mE
  rw [meetLo_comm]
  cases o <;> cases o1
  · have hs := cmpL_swap hi1 hi
    rcases cmpL_range hi1 hi with h | h | h
    · have t1 : meetTake hi false hi1 false = true := by simp [meetTake]; omega
      have t2 : meetTake hi1 false hi false = false := by simp [meetTake]; omega
      rw [(take_yes t1).1, (take_yes t1).2, (take_no t2).1, (take_no t2).2]
    · have e := cmpL_zero h
      subst e
      rfl
    · have t1 : meetTake hi false hi1 false = false := by simp [meetTake]; omega
      have t2 : meetTake hi1 false hi false = true := by simp [meetTake]; omega
      rw [(take_no t1).1, (take_no t1).2, (take_yes t2).1, (take_yes t2).2]
  · rfl
  · rfl
  · have t1 : meetTake hi true hi1 true = false := rfl
    have t2 : meetTake hi1 true hi true = false := rfl
    rw [(take_no t1).1, (take_no t1).2, (take_no t2).1, (take_no t2).2]
    rfl
theorem mE_self (lo hi : List UInt8) (o : Bool) : mE lo hi o lo hi o = emptyM lo hi o := by
  unfold mE
  have t : meetTake hi o hi o = false := by
    unfold meetTake
    rw [cmpL_self]
    cases o <;> rfl
  have e : meetLo lo lo = lo := by unfold meetLo; split <;> rfl
  rw [e, (take_no t).1, (take_no t).2]
theorem has_lo {lo hi : List UInt8} {o : Bool} {a : List UInt8} (h : hasM lo hi o a = true) : 0 ≤ cmpL a lo := cmpL_ge.2 (hasM_iff.1 h).1
theorem order_eq (a b : List UInt8) : (decide (cmpL a b = 0) == decide (a = b)) = true := by
  by_cases h : a = b
  · subst h; rw [cmpL_self]; simp
  · rw [decide_eq_false h, decide_eq_false (fun e => h (cmpL_zero e))]; rfl
theorem ne_nil_of {a : List UInt8} (h : ¬ (a.length : Int) = 0) : a ≠ [] := fun e => h (by rw [e]; rfl)

theorem fits_bytes {ls : List Lf} (h : Fits (.sl (.int .u8)) ls) : ∃ l : List UInt8, ls = [bsv l] := by
  obtain ⟨rows, hcl, hr, rfl⟩ := h
  clear hcl
  have : ∃ l : List UInt8, rows = l.map fun b => [.i .u8 b.toNat] := by
    induction rows with
    | nil => exact ⟨[], rfl⟩
    | cons r rows ih =>
      obtain ⟨l, hl⟩ := ih (fun r' h' => hr r' (List.mem_cons_of_mem _ h'))
      obtain ⟨n, hn, h3⟩ := hr r (List.mem_cons_self ..)
      have hn' : 0 ≤ n ∧ n ≤ 255 := by simpa [Lit.wf, IntKind.min, IntKind.max, IntKind.bits, IntKind.signed] using hn
      refine ⟨UInt8.ofNat n.toNat :: l, ?_⟩
      rw [hl, h3, List.map_cons]
      congr 3
      rw [UInt8.toNat_ofNat']
      omega
  obtain ⟨l, rfl⟩ := this
  clear hr
  refine ⟨l, ?_⟩
  have : (l.map fun b : UInt8 => [Lf.i .u8 b.toNat]).flatten = bl l := by
    induction l with
    | nil => rfl
    | cons b l ih =>
      rw [List.map_cons, List.flatten_cons, ih]
      rfl
  rw [this, List.length_map]
theorem fits_range {ls : List Lf} (h : Fits (.st (.pair (.sl (.int .u8)) (.pair (.sl (.int .u8)) (.pair .bool .unit)))) ls) : ∃ (lo hi : List UInt8) (o : Bool), ls = [bsv lo, bsv hi, .b o] := by
  obtain ⟨x, y, h1, ⟨z, w, h2, ⟨u, v, ⟨o, h3⟩, h4, h5⟩, h6⟩, h7⟩ := h
  obtain ⟨lo, rfl⟩ := fits_bytes h1
  obtain ⟨hi, rfl⟩ := fits_bytes h2
  subst h3 h5 h6 h7
  have h4 : v = [] := h4
  subst h4
  exact ⟨lo, hi, o, rfl⟩
end Go.Proofs.Ytiadgkkebmclgaa.Abs
