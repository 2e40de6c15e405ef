/-
  Windows of numbers seen, as plain functions (stage 15).
-/
import Derived.Test.YtlpanhfojeaamaaDoorAbsB
namespace Go.Proofs.YtlpanhfojeaamaaDoor.Abs
def saneSeqM (s : Int) : Bool := decide (0 ≤ s) && decide (s ≤ 4294967295)
def saneM (b : Int) (u : BitVec 64) : Bool := decide (0 ≤ b) && (decide (b ≤ 4294967296) && (!u.getLsbD 0 && decide (u >>> (4294967296 - b).toNat = 0#64)))
theorem digit_eq (u : BitVec 64) (n : Nat) : decide ((((u >>> n) &&& 1#64).toNat : Int) = 1) = u.getLsbD n := by
  have : ((((u >>> n) &&& 1#64).toNat : Int) = 1) ↔ u.getLsbD n = true := by
    rw [BitVec.toNat_and, BitVec.toNat_ushiftRight, show (1#64).toNat = 1 from rfl, Nat.and_one_is_mod, BitVec.getLsbD, Nat.testBit, Nat.one_and_eq_mod_two]
    have : (u.toNat >>> n) % 2 = 0 ∨ (u.toNat >>> n) % 2 = 1 := by omega
    rcases this with h | h <;> simp [h]
  cases h : u.getLsbD n with
  | true => exact decide_eq_true (this.2 h)
  | false => exact decide_eq_false (fun e => by rw [this.1 e] at h; cases h)
theorem u64_eq0 (x : BitVec 64) : ((x.toNat : Int) = 0) ↔ x = 0#64 := by
  rw [show (0 : Int) = ((0#64).toNat : Int) from rfl, Int.natCast_inj, BitVec.toNat_inj]
theorem saneM_iff (b : Int) (u : BitVec 64) : saneM b u = true ↔ 0 ≤ b ∧ b ≤ 4294967296 ∧ u.getLsbD 0 = false ∧ u >>> (4294967296 - b).toNat = 0#64 := by
  simp [saneM]
theorem saneSeqM_iff (s : Int) : saneSeqM s = true ↔ 0 ≤ s ∧ s ≤ 4294967295 := by simp [saneSeqM]

/-- How many digits from the lowest on are 1. -/
def tone (u : BitVec 64) : Nat := ((List.range 65).find? fun k => !u.getLsbD k).getD 0
theorem tone_of {u : BitVec 64} {k : Nat} (h1 : ∀ j, j < k → u.getLsbD j = true) (h2 : u.getLsbD k = false) : tone u = k := by
  have hk : k ≤ 64 := by
    apply Classical.byContradiction
    intro hn
    have := h1 64 (by omega)
    rw [BitVec.getLsbD_of_ge _ _ (Nat.le_refl _)] at this
    cases this
  have : (List.range 65).find? (fun k => !u.getLsbD k) = some k := by
    rw [List.find?_range_eq_some]
    exact ⟨by simp [h2], by simp; omega, fun j hj => by simp [h1 j hj]⟩
  unfold tone
  rw [this]; rfl
theorem tone_spec (u : BitVec 64) : (∀ j, j < tone u → u.getLsbD j = true) ∧ u.getLsbD (tone u) = false ∧ tone u ≤ 64 := by
  have : ∃ k, (∀ j, j < k → u.getLsbD j = true) ∧ u.getLsbD k = false ∧ k ≤ 64 := by
    have key : ∀ n, (∃ k, k ≤ n ∧ (∀ j, j < k → u.getLsbD j = true) ∧ u.getLsbD k = false) ∨ ∀ j, j ≤ n → u.getLsbD j = true := by
      intro n
      induction n with
      | zero =>
        cases h : u.getLsbD 0 with
        | false => exact .inl ⟨0, Nat.le_refl _, fun j hj => absurd hj (Nat.not_lt_zero _), h⟩
        | true => exact .inr (fun j hj => by have : j = 0 := by omega
                                             rw [this]; exact h)
      | succ n ih =>
        rcases ih with ⟨k, hk, h⟩ | ih
        · exact .inl ⟨k, by omega, h⟩
        · cases h : u.getLsbD (n + 1) with
          | false => exact .inl ⟨n + 1, Nat.le_refl _, fun j hj => ih j (by omega), h⟩
          | true => exact .inr (fun j hj => by
              by_cases e : j = n + 1
              · rw [e]; exact h
              · exact ih j (by omega))
    rcases key 64 with ⟨k, hk, h1, h2⟩ | h
    · exact ⟨k, h1, h2, hk⟩
    · have := h 64 (Nat.le_refl _)
      rw [BitVec.getLsbD_of_ge _ _ (Nat.le_refl _)] at this
      cases this
  obtain ⟨k, h1, h2, hk⟩ := this
  rw [tone_of h1 h2]
  exact ⟨h1, h2, hk⟩

def seenM (b : Int) (u : BitVec 64) (s : Int) : Bool := saneM b u && (saneSeqM s && (decide (s < b) || (decide (s - b < 64) && u.getLsbD (s - b).toNat)))
def acceptM (b : Int) (u : BitVec 64) (s : Int) : (Int × BitVec 64) × Int :=
  if saneM b u = false ∨ saneSeqM s = false then ((0, 0#64), 1)
  else if seenM b u s = true then ((0, 0#64), 7)
  else if s - b ≥ 64 then ((0, 0#64), 8)
  else ((b + tone (u ||| (1#64 <<< (s - b).toNat)), (u ||| (1#64 <<< (s - b).toNat)) >>> tone (u ||| (1#64 <<< (s - b).toNat))), 0)
theorem seen_ge {b : Int} {u : BitVec 64} {s : Int} (h1 : saneM b u = true) (h2 : saneSeqM s = true) (h : seenM b u s = false) : b ≤ s := by
  unfold seenM at h
  rw [h1, h2, Bool.true_and, Bool.true_and, Bool.or_eq_false_iff] at h
  have := of_decide_eq_false h.1
  omega
theorem accept_arg {b : Int} {u : BitVec 64} {s : Int} (h : saneM b u = false ∨ saneSeqM s = false) : acceptM b u s = ((0, 0#64), 1) := if_pos h
theorem accept_seen {b : Int} {u : BitVec 64} {s : Int} (h1 : saneM b u = true) (h2 : saneSeqM s = true) (h : seenM b u s = true) : acceptM b u s = ((0, 0#64), 7) := by
  unfold acceptM
  rw [if_neg (by rw [h1, h2]; simp), if_pos h]
theorem accept_far {b : Int} {u : BitVec 64} {s : Int} (h1 : saneM b u = true) (h2 : saneSeqM s = true) (h : seenM b u s = false) (h3 : 64 ≤ s - b) : acceptM b u s = ((0, 0#64), 8) := by
  unfold acceptM
  rw [if_neg (by rw [h1, h2]; simp), if_neg (by rw [h]; simp), if_pos h3]
theorem accept_ok {b : Int} {u : BitVec 64} {s : Int} (h1 : saneM b u = true) (h2 : saneSeqM s = true) (h : seenM b u s = false) (h3 : ¬ 64 ≤ s - b) :
    acceptM b u s = ((b + tone (u ||| (1#64 <<< (s - b).toNat)), (u ||| (1#64 <<< (s - b).toNat)) >>> tone (u ||| (1#64 <<< (s - b).toNat))), 0) := by
  unfold acceptM
  rw [if_neg (by rw [h1, h2]; simp), if_neg (by rw [h]; simp), if_neg h3]

theorem bit_or (u : BitVec 64) {n : Nat} (hn : n < 64) (j : Nat) : (u ||| (1#64 <<< n)).getLsbD j = (u.getLsbD j || decide (j = n)) := by
  rw [BitVec.getLsbD_or, BitVec.getLsbD_shiftLeft, BitVec.getLsbD_one]
  congr 1
  by_cases h : j = n
  · subst h; simp [hn]
  · by_cases h1 : j < n
    · simp [h1, h]
    · have : ¬ j - n = 0 := by omega
      simp [h, this]

theorem accept_spec {b : Int} {u : BitVec 64} {s : Int} (h1 : saneM b u = true) (h : (acceptM b u s).2 = 0) :
    saneM (acceptM b u s).1.1 (acceptM b u s).1.2 = true ∧ seenM b u s = false ∧ ∀ y, seenM (acceptM b u s).1.1 (acceptM b u s).1.2 y = (decide (y = s) || seenM b u y) := by
  have h2 : saneSeqM s = true := by
    cases hh : saneSeqM s with
    | true => rfl
    | false => rw [accept_arg (.inr hh)] at h; exact absurd h (by decide)
  have h3 : seenM b u s = false := by
    cases hh : seenM b u s with
    | false => rfl
    | true => rw [accept_seen h1 h2 hh] at h; exact absurd h (by decide)
  have h4 : ¬ 64 ≤ s - b := fun hh => by rw [accept_far h1 h2 h3 hh] at h; exact absurd h (by decide)
  rw [accept_ok h1 h2 h3 h4]
  refine ⟨?_, h3, ?_⟩
  all_goals
    have hge := seen_ge h1 h2 h3
    obtain ⟨g1, g2, g3, g4⟩ := (saneM_iff b u).1 h1
    obtain ⟨q1, q2⟩ := (saneSeqM_iff s).1 h2
    obtain ⟨n, hn⟩ : ∃ n : Nat, n = (s - b).toNat := ⟨_, rfl⟩
    rw [← hn]
    have hn64 : n < 64 := by omega
    have hbit := bit_or u hn64
    generalize u ||| (1#64 <<< n) = u1 at *
    obtain ⟨t1, t2, t3⟩ := tone_spec u1
    generalize tone u1 = k at *
    have hu : ∀ j, (4294967296 - b).toNat ≤ j → u.getLsbD j = false := by
      intro j hj
      have : (u >>> (4294967296 - b).toNat).getLsbD (j - (4294967296 - b).toNat) = false := by rw [g4]; simp
      rw [BitVec.getLsbD_ushiftRight] at this
      rwa [show (4294967296 - b).toNat + (j - (4294967296 - b).toNat) = j by omega] at this
    have hu1 : ∀ j, (4294967296 - b).toNat ≤ j → u1.getLsbD j = false := by
      intro j hj
      rw [hbit, hu j hj, decide_eq_false (by omega)]; rfl
    have hk : k ≤ (4294967296 - b).toNat := by
      apply Classical.byContradiction
      intro hh
      have e1 := t1 (4294967296 - b).toNat (by omega)
      rw [hu1 _ (Nat.le_refl _)] at e1
      cases e1
    have hs' : saneM (b + (k : Int)) (u1 >>> k) = true := by
      rw [saneM_iff]
      refine ⟨by omega, by omega, by rw [BitVec.getLsbD_ushiftRight]; exact t2, ?_⟩
      apply BitVec.eq_of_getLsbD_eq
      intro i hi
      rw [BitVec.getLsbD_ushiftRight, BitVec.getLsbD_ushiftRight, hu1 _ (by omega)]
      simp
  · exact hs'
  · intro y
    dsimp only
    cases hy : saneSeqM y with
    | false =>
      have : ¬ y = s := fun e => by rw [e, h2] at hy; cases hy
      simp [seenM, hy, this]
    | true =>
      unfold seenM
      rw [hs', h1, hy, Bool.true_and, Bool.true_and, Bool.true_and, Bool.true_and]
      by_cases hyb : y < b
      · rw [decide_eq_true hyb, decide_eq_true (show y < b + (k : Int) by omega)]; simp
      · obtain ⟨j, hj⟩ : ∃ j : Nat, j = (y - b).toNat := ⟨_, rfl⟩
        have hL : (decide (y < b + (k : Int)) || (decide (y - (b + (k : Int)) < 64) && (u1 >>> k).getLsbD (y - (b + (k : Int))).toNat)) = u1.getLsbD j := by
          by_cases hjk : j < k
          · rw [t1 j hjk, decide_eq_true (by omega)]; rfl
          · rw [decide_eq_false (by omega), Bool.false_or, BitVec.getLsbD_ushiftRight, show k + (y - (b + (k : Int))).toNat = j by omega]
            by_cases h64 : y - (b + (k : Int)) < 64
            · rw [decide_eq_true h64, Bool.true_and]
            · rw [decide_eq_false h64, Bool.false_and, BitVec.getLsbD_of_ge _ _ (by omega)]
        rw [hL, hbit, decide_eq_false hyb, Bool.false_or, ← hj, Bool.or_comm]
        congr 1
        · by_cases e : j = n
          · rw [decide_eq_true e, decide_eq_true (by omega)]
          · rw [decide_eq_false e, decide_eq_false (by omega)]
        · by_cases h64 : y - b < 64
          · rw [decide_eq_true h64, Bool.true_and]
          · rw [decide_eq_false h64, Bool.false_and, BitVec.getLsbD_of_ge _ _ (by omega)]

theorem accept7 {b : Int} {u : BitVec 64} {s : Int} (h1 : saneM b u = true) : (seenM b u s == decide ((acceptM b u s).2 = 7)) = true := by
  cases h2 : saneSeqM s with
  | false => rw [accept_arg (.inr h2)]; simp [seenM, h2]
  | true =>
    cases h3 : seenM b u s with
    | true => rw [accept_seen h1 h2 h3]; rfl
    | false =>
      by_cases h4 : 64 ≤ s - b
      · rw [accept_far h1 h2 h3 h4]; rfl
      · rw [accept_ok h1 h2 h3 h4]; rfl

/-- A number that is not seen, and near enough, is accepted. -/
theorem accept_zero {b : Int} {u : BitVec 64} {s : Int} (h1 : saneM b u = true) (h2 : saneSeqM s = true) (h3 : seenM b u s = false) (h4 : s - b < 64) : (acceptM b u s).2 = 0 ∧ b ≤ (acceptM b u s).1.1 := by
  rw [accept_ok h1 h2 h3 (by omega)]
  exact ⟨rfl, by dsimp only; omega⟩
end Go.Proofs.YtlpanhfojeaamaaDoor.Abs
