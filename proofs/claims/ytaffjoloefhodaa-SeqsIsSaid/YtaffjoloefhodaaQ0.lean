/-
  Windows of numbers seen, as plain functions.
-/
import Derived.Test.YtaffjoloefhodaaAbsC
namespace Go.Proofs.Ytaffjoloefhodaa.Abs
open Go.RowKit

abbrev wsv (b : Int) (u : BitVec 64) : SV := .agg [.i .i64 b, .i .u64 (u.toNat : Int)]
def saneSeqM (s : Int) : Bool := decide (0 ≤ s) && decide (s ≤ 4294967295)
def saneM (b : Int) (u : BitVec 64) : Bool := decide (0 ≤ b) && (decide (b ≤ 4294967296) && (!u.getLsbD 0 && decide (u >>> (4294967296 - b).toNat = 0#64)))
theorem digit_eq (u : BitVec 64) (n : Nat) : decide ((((u >>> n) &&& 1#64).toNat : Int) = 1) = u.getLsbD n := by
  have : ((((u >>> n) &&& 1#64).toNat : Int) = 1) ↔ u.getLsbD n = true := by
    rw [BitVec.toNat_and, BitVec.toNat_ushiftRight, show (1#64).toNat = 1 from rfl, Nat.and_one_is_mod, BitVec.getLsbD, Nat.testBit, Nat.one_and_eq_mod_two]
    have : (u.toNat >>> n) % 2 = 0 ∨ (u.toNat >>> n) % 2 = 1 := by omega
    rcases this with h | h <;> simp [h]
  cases h : u.getLsbD n with
  | true => exact decide_eq_true (this.2 h)
  | false => exact decide_eq_false (fun e => by rw [this.1 e] at h; cases h)
theorem u64_eq0 (x : BitVec 64) : ((x.toNat : Int) = 0) ↔ x = 0#64 := by
  rw [show (0 : Int) = ((0#64).toNat : Int) from rfl, Int.natCast_inj, BitVec.toNat_inj]
theorem saneM_iff (b : Int) (u : BitVec 64) : saneM b u = true ↔ 0 ≤ b ∧ b ≤ 4294967296 ∧ u.getLsbD 0 = false ∧ u >>> (4294967296 - b).toNat = 0#64 := by
  simp [saneM]
theorem saneSeqM_iff (s : Int) : saneSeqM s = true ↔ 0 ≤ s ∧ s ≤ 4294967295 := by simp [saneSeqM]

/-- How many digits from the lowest on are 1. -/
def tone (u : BitVec 64) : Nat := ((List.range 65).find? fun k => !u.getLsbD k).getD 0
theorem tone_of {u : BitVec 64} {k : Nat} (h1 : ∀ j, j < k → u.getLsbD j = true) (h2 : u.getLsbD k = false) : tone u = k := by
  have hk : k ≤ 64 := by
    apply Classical.byContradiction
    intro hn
    have := h1 64 (by omega)
    rw [BitVec.getLsbD_of_ge _ _ (Nat.le_refl _)] at this
    cases this
  have : (List.range 65).find? (fun k => !u.getLsbD k) = some k := by
    rw [List.find?_range_eq_some]
    exact ⟨by simp [h2], by simp; omega, fun j hj => by simp [h1 j hj]⟩
  unfold tone
  rw [this]; rfl
theorem tone_spec (u : BitVec 64) : (∀ j, j < tone u → u.getLsbD j = true) ∧ u.getLsbD (tone u) = false ∧ tone u ≤ 64 := by
  have : ∃ k, (∀ j, j < k → u.getLsbD j = true) ∧ u.getLsbD k = false ∧ k ≤ 64 := by
    have key : ∀ n, (∃ k, k ≤ n ∧ (∀ j, j < k → u.getLsbD j = true) ∧ u.getLsbD k = false) ∨ ∀ j, j ≤ n → u.getLsbD j = true := by
      intro n
      induction n with
      | zero =>
        cases h : u.getLsbD 0 with
        | false => exact .inl ⟨0, Nat.le_refl _, fun j hj => absurd hj (Nat.not_lt_zero _), h⟩
        | true => exact .inr (fun j hj => by have : j = 0 := by omega
                                             rw [this]; exact h)
      | succ n ih =>
        rcases ih with ⟨k, hk, h⟩ | ih
        · exact .inl ⟨k, by omega, h⟩
        · cases h : u.getLsbD (n + 1) with
          | false => exact .inl ⟨n + 1, Nat.le_refl _, fun j hj => ih j (by omega), h⟩
          | true => exact .inr (fun j hj => by
              by_cases e : j = n + 1
              · rw [e]; exact h
              · exact ih j (by omega))
    rcases key 64 with ⟨k, hk, h1, h2⟩ | h
    · exact ⟨k, h1, h2, hk⟩
    · have := h 64 (Nat.le_refl _)
      rw [BitVec.getLsbD_of_ge _ _ (Nat.le_refl _)] at this
      cases this
  obtain ⟨k, h1, h2, hk⟩ := this
  rw [tone_of h1 h2]
  exact ⟨h1, h2, hk⟩

def seenM (b : Int) (u : BitVec 64) (s : Int) : Bool := saneM b u && (saneSeqM s && (decide (s < b) || (decide (s - b < 64) && u.getLsbD (s - b).toNat)))
def acceptM (b : Int) (u : BitVec 64) (s : Int) : (Int × BitVec 64) × Int :=
  if saneM b u = false ∨ saneSeqM s = false then ((0, 0#64), 1)
  else if seenM b u s = true then ((0, 0#64), 7)
  else if s - b ≥ 64 then ((0, 0#64), 8)
  else ((b + tone (u ||| (1#64 <<< (s - b).toNat)), (u ||| (1#64 <<< (s - b).toNat)) >>> tone (u ||| (1#64 <<< (s - b).toNat))), 0)
theorem seen_ge {b : Int} {u : BitVec 64} {s : Int} (h1 : saneM b u = true) (h2 : saneSeqM s = true) (h : seenM b u s = false) : b ≤ s := by
  unfold seenM at h
  rw [h1, h2, Bool.true_and, Bool.true_and, Bool.or_eq_false_iff] at h
  have := of_decide_eq_false h.1
  omega
theorem accept_arg {b : Int} {u : BitVec 64} {s : Int} (h : saneM b u = false ∨ saneSeqM s = false) : acceptM b u s = ((0, 0#64), 1) := if_pos h
theorem accept_seen {b : Int} {u : BitVec 64} {s : Int} (h1 : saneM b u = true) (h2 : saneSeqM s = true) (h : seenM b u s = true) : acceptM b u s = ((0, 0#64), 7) := by
  unfold acceptM
  rw [if_neg (by rw [h1, h2]; simp), if_pos h]
theorem accept_far {b : Int} {u : BitVec 64} {s : Int} (h1 : saneM b u = true) (h2 : saneSeqM s = true) (h : seenM b u s = false) (h3 : 64 ≤ s - b) : acceptM b u s = ((0, 0#64), 8) := by
  unfold acceptM
  rw [if_neg (by rw [h1, h2]; simp), if_neg (by rw [h]; simp), if_pos h3]
theorem accept_ok {b : Int} {u : BitVec 64} {s : Int} (h1 : saneM b u = true) (h2 : saneSeqM s = true) (h : seenM b u s = false) (h3 : ¬ 64 ≤ s - b) :
    acceptM b u s = ((b + tone (u ||| (1#64 <<< (s - b).toNat)), (u ||| (1#64 <<< (s - b).toNat)) >>> tone (u ||| (1#64 <<< (s - b).toNat))), 0) := by
  unfold acceptM
  rw [if_neg (by rw [h1, h2]; simp), if_neg (by rw [h]; simp), if_neg h3]

theorem bit_or (u : BitVec 64) {n : Nat} (hn : n < 64) (j : Nat) : (u ||| (1#64 <<< n)).getLsbD j = (u.getLsbD j || decide (j = n)) := by
  rw [BitVec.getLsbD_or, BitVec.getLsbD_shiftLeft, BitVec.getLsbD_one]
  congr 1
  by_cases h : j = n
  · subst h; simp [hn]
  · by_cases h1 : j < n
    · simp [h1, h]
    · have : ¬ j - n = 0 := by omega
      simp [h, this]

theorem accept_spec {b : Int} {u : BitVec 64} {s : Int} (h1 : saneM b u = true) (h : (acceptM b u s).2 = 0) :
    saneM (acceptM b u s).1.1 (acceptM b u s).1.2 = true ∧ seenM b u s = false ∧ ∀ y, seenM (acceptM b u s).1.1 (acceptM b u s).1.2 y = (decide (y = s) || seenM b u y) := by
  have h2 : saneSeqM s = true := by
    cases hh : saneSeqM s with
    | true => rfl
    | false => rw [accept_arg (.inr hh)] at h; exact absurd h (by decide)
  have h3 : seenM b u s = false := by
    cases hh : seenM b u s with
    | false => rfl
    | true => rw [accept_seen h1 h2 hh] at h; exact absurd h (by decide)
  have h4 : ¬ 64 ≤ s - b := fun hh => by rw [accept_far h1 h2 h3 hh] at h; exact absurd h (by decide)
  rw [accept_ok h1 h2 h3 h4]
  refine ⟨?_, h3, ?_⟩
  all_goals
    have hge := seen_ge h1 h2 h3
    obtain ⟨g1, g2, g3, g4⟩ := (saneM_iff b u).1 h1
    obtain ⟨q1, q2⟩ := (saneSeqM_iff s).1 h2
    obtain ⟨n, hn⟩ : ∃ n : Nat, n = (s - b).toNat := ⟨_, rfl⟩
    rw [← hn]
    have hn64 : n < 64 := by omega
    have hbit := bit_or u hn64
    generalize u ||| (1#64 <<< n) = u1 at *
    obtain ⟨t1, t2, t3⟩ := tone_spec u1
    generalize tone u1 = k at *
    have hu : ∀ j, (4294967296 - b).toNat ≤ j → u.getLsbD j = false := by
      intro j hj
      have : (u >>> (4294967296 - b).toNat).getLsbD (j - (4294967296 - b).toNat) = false := by rw [g4]; simp
      rw [BitVec.getLsbD_ushiftRight] at this
      rwa [show (4294967296 - b).toNat + (j - (4294967296 - b).toNat) = j by omega] at this
    have hu1 : ∀ j, (4294967296 - b).toNat ≤ j → u1.getLsbD j = false := by
      intro j hj
      rw [hbit, hu j hj, decide_eq_false (by omega)]; rfl
    have hk : k ≤ (4294967296 - b).toNat := by
      apply Classical.byContradiction
      intro hh
      have e1 := t1 (4294967296 - b).toNat (by omega)
      rw [hu1 _ (Nat.le_refl _)] at e1
      cases e1
    have hs' : saneM (b + (k : Int)) (u1 >>> k) = true := by
      rw [saneM_iff]
      refine ⟨by omega, by omega, by rw [BitVec.getLsbD_ushiftRight]; exact t2, ?_⟩
      apply BitVec.eq_of_getLsbD_eq
      intro i hi
      rw [BitVec.getLsbD_ushiftRight, BitVec.getLsbD_ushiftRight, hu1 _ (by omega)]
      simp
  · exact hs'
  · intro y
    dsimp only
    cases hy : saneSeqM y with
    | false =>
      have : ¬ y = s := fun e => by rw [e, h2] at hy; cases hy
      simp [seenM, hy, this]
    | true =>
      unfold seenM
      rw [hs', h1, hy, Bool.true_and, Bool.true_and, Bool.true_and, Bool.true_and]
      by_cases hyb : y < b
      · rw [decide_eq_true hyb, decide_eq_true (show y < b + (k : Int) by omega)]; simp
      · obtain ⟨j, hj⟩ : ∃ j : Nat, j = (y - b).toNat := ⟨_, rfl⟩
        have hL : (decide (y < b + (k : Int)) || (decide (y - (b + (k : Int)) < 64) && (u1 >>> k).getLsbD (y - (b + (k : Int))).toNat)) = u1.getLsbD j := by
          by_cases hjk : j < k
          · rw [t1 j hjk, decide_eq_true (by omega)]; rfl
          · rw [decide_eq_false (by omega), Bool.false_or, BitVec.getLsbD_ushiftRight, show k + (y - (b + (k : Int))).toNat = j by omega]
            by_cases h64 : y - (b + (k : Int)) < 64
            · rw [decide_eq_true h64, Bool.true_and]
            · rw [decide_eq_false h64, Bool.false_and, BitVec.getLsbD_of_ge _ _ (by omega)]
        rw [hL, hbit, decide_eq_false hyb, Bool.false_or, ← hj, Bool.or_comm]
        congr 1
        · by_cases e : j = n
          · rw [decide_eq_true e, decide_eq_true (by omega)]
          · rw [decide_eq_false e, decide_eq_false (by omega)]
        · by_cases h64 : y - b < 64
          · rw [decide_eq_true h64, Bool.true_and]
          · rw [decide_eq_false h64, Bool.false_and, BitVec.getLsbD_of_ge _ _ (by omega)]

theorem accept7 {b : Int} {u : BitVec 64} {s : Int} (h1 : saneM b u = true) : (seenM b u s == decide ((acceptM b u s).2 = 7)) = true := by
  cases h2 : saneSeqM s with
  | false => rw [accept_arg (.inr h2)]; simp [seenM, h2]
  | true =>
    cases h3 : seenM b u s with
    | true => rw [accept_seen h1 h2 h3]; rfl
    | false =>
      by_cases h4 : 64 ≤ s - b
      · rw [accept_far h1 h2 h3 h4]; rfl
      · rw [accept_ok h1 h2 h3 h4]; rfl

def cntM (b : Int) (u : BitVec 64) (k : Int) : Int := if seenM b u k = true then 1 else 0
theorem cntM_zero (k : Int) : cntM 0 0#64 k = 0 := by
  unfold cntM
  rw [if_neg]
  intro h
  unfold seenM at h
  simp only [Bool.and_eq_true, Bool.or_eq_true, decide_eq_true_eq, BitVec.getLsbD_zero, Bool.false_eq_true, and_false, or_false] at h
  have := (saneSeqM_iff k).1 h.2.1
  omega
theorem cntM_le (b : Int) (u : BitVec 64) (k : Int) : 0 ≤ cntM b u k ∧ cntM b u k ≤ 1 := by unfold cntM; split <;> decide
theorem cntM_next {b : Int} {u : BitVec 64} {s k : Int} (h1 : saneM b u = true) (h : (acceptM b u s).2 = 0) : cntM (acceptM b u s).1.1 (acceptM b u s).1.2 k = if s = k then cntM b u k + 1 else cntM b u k := by
  obtain ⟨_, h3, h4⟩ := accept_spec h1 h
  unfold cntM
  rw [h4]
  by_cases e : s = k
  · subst e; rw [h3]; simp
  · rw [if_neg e, decide_eq_false (fun e' => e e'.symm), Bool.false_or]
theorem cntM_seen (b : Int) (u : BitVec 64) (k : Int) : (seenM b u k == decide (cntM b u k = 1)) = true := by
  unfold cntM
  cases seenM b u k <;> decide

/-- The numbers from b on, i of them looked at, that are not seen. -/
def unseenM (b : Int) (u : BitVec 64) : Nat → List Int
  | 0 => []
  | i + 1 => unseenM b u i ++ (if b + i ≤ 4294967295 ∧ u.getLsbD i = false then [b + i] else [])
theorem unseen_len (b : Int) (u : BitVec 64) (i : Nat) : (unseenM b u i).length ≤ i := by
  induction i with
  | zero => exact Nat.le_refl _
  | succ i ih =>
    unfold unseenM
    split <;> simp <;> omega
theorem unseen_take (b : Int) (u : BitVec 64) {i j : Nat} (h : i ≤ j) : (unseenM b u j).take (unseenM b u i).length = unseenM b u i := by
  induction j with
  | zero => have : i = 0 := by omega
            subst this; rfl
  | succ j ih =>
    by_cases e : i = j + 1
    · subst e; rw [List.take_length]
    · have hl : (unseenM b u i).length ≤ (unseenM b u j).length := by
        have := congrArg List.length (ih (by omega))
        rw [List.length_take] at this
        omega
      rw [unseenM, List.take_append_of_le_length hl]
      exact ih (by omega)
theorem unseen_far (b : Int) (u : BitVec 64) {i j : Nat} (h : i ≤ j) (hb : ¬ b + i ≤ 4294967295) : unseenM b u j = unseenM b u i := by
  induction j with
  | zero => have : i = 0 := by omega
            subst this; rfl
  | succ j ih =>
    by_cases e : i = j + 1
    · subst e; rfl
    · rw [unseenM, if_neg (by omega), List.append_nil]
      exact ih (by omega)
def missM (b : Int) (u : BitVec 64) (most : Int) : List Int := if saneM b u = true then (unseenM b u 64).take most.toNat else []
theorem miss_stop {b : Int} {u : BitVec 64} {most : Int} {i : Nat} (hs : saneM b u = true) (hi : i ≤ 64) (hl : i = 0 ∨ ((unseenM b u i).length : Int) ≤ most) (h : most ≤ ((unseenM b u i).length : Int)) : missM b u most = unseenM b u i := by
  unfold missM
  rw [if_pos hs]
  rcases hl with rfl | hl
  · have : (unseenM b u 0).length = 0 := rfl
    rw [show most.toNat = 0 by omega]; rfl
  · rw [show most.toNat = (unseenM b u i).length by omega]
    exact unseen_take b u hi
theorem miss_end {b : Int} {u : BitVec 64} {most : Int} {i : Nat} (hs : saneM b u = true) (hi : i ≤ 64) (hl : i = 0 ∨ ((unseenM b u i).length : Int) ≤ most) (h : i = 64 ∨ ¬ b + i ≤ 4294967295) : missM b u most = unseenM b u i := by
  have e : unseenM b u 64 = unseenM b u i := by
    rcases h with rfl | h
    · rfl
    · exact unseen_far b u hi h
  unfold missM
  rw [if_pos hs, e]
  rcases hl with rfl | hl
  · exact List.take_nil
  · exact List.take_of_length_le (by omega)
def fullM (b : Int) (u : BitVec 64) : Bool := saneM b u && decide (4294967295 < b)

/-- A number that is not seen, and near enough, is accepted. -/
theorem accept_zero {b : Int} {u : BitVec 64} {s : Int} (h1 : saneM b u = true) (h2 : saneSeqM s = true) (h3 : seenM b u s = false) (h4 : s - b < 64) : (acceptM b u s).2 = 0 ∧ b ≤ (acceptM b u s).1.1 := by
  rw [accept_ok h1 h2 h3 (by omega)]
  exact ⟨rfl, by dsimp only; omega⟩
/-- All seen: Base is past the last. -/
theorem base_past {b : Int} {u : BitVec 64} (h1 : saneM b u = true) (h : ∀ y, saneSeqM y = true → seenM b u y = true) : b = 4294967296 := by
  obtain ⟨g1, g2, g3, g4⟩ := (saneM_iff b u).1 h1
  apply Classical.byContradiction
  intro hne
  have hb : saneSeqM b = true := (saneSeqM_iff b).2 ⟨g1, by omega⟩
  have := h b hb
  unfold seenM at this
  rw [h1, hb, decide_eq_false (by omega), show b - b = 0 by omega, show (0 : Int).toNat = 0 from rfl, g3] at this
  cases this
theorem seen_past {u : BitVec 64} {y : Int} (h1 : saneM 4294967296 u = true) (h : saneSeqM y = true) : seenM 4294967296 u y = true := by
  have := (saneSeqM_iff y).1 h
  unfold seenM
  rw [h1, h, decide_eq_true (by omega)]
  rfl
theorem miss_past (u : BitVec 64) (most : Int) : missM 4294967296 u most = [] := by
  unfold missM
  have : ∀ i, unseenM 4294967296 u i = [] := by
    intro i
    rw [unseen_far 4294967296 u (Nat.zero_le i) (by decide)]; rfl
  rw [this]
  simp
def imask (n m : Int) : Int := IntKind.i64.wrap ((BitVec.ofInt (IntKind.bits .i64) n &&& BitVec.ofInt (IntKind.bits .i64) m).toNat : Int)
theorem imask_le (n : Int) {m : Int} (h0 : 0 ≤ m) (h1 : m ≤ 9223372036854775807) : 0 ≤ imask n m ∧ imask n m ≤ m := by
  have hm : (BitVec.ofInt (IntKind.bits .i64) m).toNat = m.toNat := by
    show (BitVec.ofInt 64 m).toNat = m.toNat
    rw [BitVec.toNat_ofInt]
    omega
  have h2 : (BitVec.ofInt (IntKind.bits .i64) n &&& BitVec.ofInt (IntKind.bits .i64) m).toNat ≤ m.toNat := by
    rw [BitVec.toNat_and, ← hm]
    exact Nat.and_le_right
  have h3 : imask n m = ((BitVec.ofInt (IntKind.bits .i64) n &&& BitVec.ofInt (IntKind.bits .i64) m).toNat : Int) := by
    unfold imask
    exact wrap_i64 (by omega) (by omega)
  rw [h3]
  omega
theorem opv_andc {P : Program} {c : Ctx} {st : AS} {n m : Int} {x y : Operand} {xt yt ty : TypeId} (hx : opnd st x = .s (.one (.i .i64 n))) (hy : opnd st y = .s (.one (.i .i64 m))) : OpV P c st (.binOp .and xt x y yt) ty (.s (.one (.i .i64 (imask n m)))) := opv_and hx hy

theorem miss_all {b : Int} {u : BitVec 64} (h : saneM b u = true) : missM b u 64 = unseenM b u 64 := by
  unfold missM
  rw [if_pos h]
  exact List.take_of_length_le (unseen_len b u 64)
theorem miss_none (b : Int) (u : BitVec 64) : missM b u 0 = [] := by
  unfold missM
  split <;> rfl
theorem mem_unseen {b : Int} {u : BitVec 64} {x : Int} : ∀ {i : Nat}, x ∈ unseenM b u i ↔ ∃ j : Nat, j < i ∧ x = b + j ∧ b + (j : Int) ≤ 4294967295 ∧ u.getLsbD j = false := by
  intro i
  induction i with
  | zero => simp [unseenM]
  | succ i ih =>
    unfold unseenM
    rw [List.mem_append, ih]
    constructor
    · rintro (⟨j, h1, h2⟩ | h)
      · exact ⟨j, by omega, h2⟩
      · split at h
        · rename_i hc
          have : x = b + i := by simpa using h
          exact ⟨i, by omega, this, hc.1, hc.2⟩
        · simp at h
    · rintro ⟨j, h1, h2, h3, h4⟩
      by_cases e : j = i
      · subst e
        right
        rw [if_pos ⟨h3, h4⟩, h2]; simp
      · exact .inl ⟨j, by omega, h2, h3, h4⟩
theorem unseen_not {b : Int} {u : BitVec 64} (hs : saneM b u = true) {x : Int} (h : x ∈ unseenM b u 64) : saneSeqM x = true ∧ seenM b u x = false ∧ x - b < 64 ∧ b ≤ x := by
  obtain ⟨j, h1, h2, h3, h4⟩ := mem_unseen.1 h
  have g := (saneM_iff b u).1 hs
  have hq : saneSeqM x = true := (saneSeqM_iff x).2 ⟨by omega, by omega⟩
  refine ⟨hq, ?_, by omega, by omega⟩
  unfold seenM
  rw [hs, hq, decide_eq_false (by omega), show (x - b).toNat = j by omega, h4]
  simp
theorem not_unseen {b : Int} {u : BitVec 64} (hs : saneM b u = true) {x : Int} (hq : saneSeqM x = true) (h : seenM b u x = false) (h64 : x - b < 64) : x ∈ unseenM b u 64 := by
  have g := (saneM_iff b u).1 hs
  have q := (saneSeqM_iff x).1 hq
  have hge := seen_ge hs hq h
  refine mem_unseen.2 ⟨(x - b).toNat, by omega, by omega, by omega, ?_⟩
  unfold seenM at h
  rw [hs, hq, decide_eq_false (by omega), decide_eq_true h64] at h
  simpa using h
/-- Digit i's number, seen or not. -/
theorem seen_digit {b : Int} {u : BitVec 64} (hs : saneM b u = true) {i : Nat} (hi : i < 64) (hm : b + (i : Int) < 4294967296) : seenM b u (b + (i : Int)) = u.getLsbD i := by
  have g := (saneM_iff b u).1 hs
  unfold seenM
  rw [hs, (saneSeqM_iff _).2 ⟨by omega, by omega⟩, decide_eq_false (show ¬ b + (i : Int) < b by omega), decide_eq_true (show b + (i : Int) - b < 64 by omega), show (b + (i : Int) - b).toNat = i by omega]
  simp
/-- The first that is not seen is the least. -/
theorem unseen_first {b : Int} {u : BitVec 64} {x y : Int} (h : (unseenM b u 64)[0]? = some x) (hy : y ∈ unseenM b u 64) : x ≤ y := by
  have key : ∀ i, i ≤ 64 → ∀ x y, (unseenM b u i)[0]? = some x → y ∈ unseenM b u i → x ≤ y := by
    intro i
    induction i with
    | zero => intro _ x y h1 h2; simp [unseenM] at h2
    | succ i ih =>
      intro hi x y h1 h2
      unfold unseenM at h1 h2
      cases hl : unseenM b u i with
      | nil =>
        rw [hl, List.nil_append] at h1 h2
        split at h1
        · rename_i hc
          rw [if_pos hc] at h2
          simp at h1 h2
          omega
        · simp at h1
      | cons z zs =>
        have h1' : (unseenM b u i)[0]? = some x := by rw [hl] at h1 ⊢; simpa using h1
        rcases List.mem_append.1 h2 with h2 | h2
        · exact ih (by omega) x y h1' h2
        · split at h2
          · have hy : y = b + i := by simpa using h2
            have hxm : x ∈ unseenM b u i := List.mem_of_getElem? h1'
            obtain ⟨j, q1, q2, _⟩ := mem_unseen.1 hxm
            omega
          · simp at h2
  exact key 64 (Nat.le_refl _) x y h hy
theorem unseen_get {b : Int} {u : BitVec 64} {i : Nat} (hi : i < 64) (h : b + (i : Int) ≤ 4294967295 ∧ u.getLsbD i = false) : (unseenM b u 64)[(unseenM b u i).length]? = some (b + (i : Int)) := by
  have h1 := unseen_take b u (show i + 1 ≤ 64 by omega)
  have h2 : unseenM b u (i + 1) = unseenM b u i ++ [b + (i : Int)] := by rw [unseenM, if_pos h]
  have h3 : ((unseenM b u 64).take (unseenM b u (i + 1)).length)[(unseenM b u i).length]? = some (b + (i : Int)) := by rw [h1, h2]; simp
  rw [List.getElem?_take] at h3
  split at h3
  · exact h3
  · cases h3
/-- What is missing after the first missing one was accepted is later. -/
theorem miss_later {b : Int} {u : BitVec 64} {x y : Int} (hs : saneM b u = true) (hx : (unseenM b u 64)[0]? = some x) (hy : (missM (acceptM b u x).1.1 (acceptM b u x).1.2 1)[0]? = some y) : x < y := by
  have hxm : x ∈ unseenM b u 64 := List.mem_of_getElem? hx
  obtain ⟨q1, q2, q3, q4⟩ := unseen_not hs hxm
  obtain ⟨z1, z2⟩ := accept_zero hs q1 q2 q3
  obtain ⟨s1, _, s3⟩ := accept_spec hs z1
  have hym : y ∈ unseenM (acceptM b u x).1.1 (acceptM b u x).1.2 64 := by
    have := List.mem_of_getElem? hy
    unfold missM at this
    rw [if_pos s1] at this
    exact List.mem_of_mem_take this
  obtain ⟨p1, p2, p3, p4⟩ := unseen_not s1 hym
  rw [s3, Bool.or_eq_false_iff, decide_eq_false_iff_not] at p2
  by_cases h64 : y - b < 64
  · have := unseen_first hx (not_unseen hs p1 p2.2 h64)
    omega
  · omega
theorem miss_later' {b b2 : Int} {u u2 : BitVec 64} {x y e2 : Int} (hs : saneM b u = true) (hx : (unseenM b u 64)[0]? = some x) (h : acceptM b u x = ((b2, u2), e2)) (hy : (missM b2 u2 1)[0]? = some y) : x < y :=
  miss_later hs hx (y := y) (by rw [h]; exact hy)
end Go.Proofs.Ytaffjoloefhodaa.Abs
