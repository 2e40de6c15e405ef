/-
  The document's windows (stage 15) are the program's.
-/
import Derived.Test.YtlpanhfojeaamaaDoorW16
namespace Go.Proofs.YtlpanhfojeaamaaDoor.Abs

theorem rdigit_m {u : BitVec 64} {i : Int} (h : 0 ≤ i) (h2 : i ≤ 4294967296) : m67_r15_digit u i = some (u.getLsbD i.toNat) := by
  unfold m67_r15_digit
  have e : ((BitVec.ofInt 64 i).toNat : Int).toNat = i.toNat := by
    rw [Int.toNat_natCast, BitVec.toNat_ofInt, Int.emod_eq_of_lt h (by omega)]
  rw [e, digit_eq]
theorem shr0_iff (u : BitVec 64) (n : Nat) : u >>> n = 0#64 ↔ ∀ j, j < 64 → n ≤ j → u.getLsbD j = false := by
  constructor
  · intro h j _ hj
    have : (u >>> n).getLsbD (j - n) = false := by rw [h]; simp
    rw [BitVec.getLsbD_ushiftRight] at this
    rwa [show n + (j - n) = j from by omega] at this
  · intro h
    apply BitVec.eq_of_getLsbD_eq
    intro i hi
    rw [BitVec.getLsbD_ushiftRight]
    by_cases h64 : n + i < 64
    · rw [h _ h64 (by omega)]; simp
    · rw [BitVec.getLsbD_of_ge _ _ (by omega)]; simp
theorem rsane_m (b : Int) (u : BitVec 64) : m46_r15_Sane (GR15Window.mk b u) = some (saneM b u) := by
  unfold m46_r15_Sane saneM
  dsimp only
  by_cases h0 : b < 0
  · rw [if_pos (decide_eq_true h0), decide_eq_false (by omega)]; rfl
  rw [if_neg (by rw [decide_eq_true_eq]; exact h0), decide_eq_true (show 0 ≤ b from by omega)]
  by_cases h1 : 4294967296 < b
  · rw [if_pos (decide_eq_true h1), decide_eq_false (by omega)]; rfl
  rw [if_neg (by rw [decide_eq_true_eq]; exact h1), decide_eq_true (show b ≤ 4294967296 from by omega), rdigit_m (by decide) (by decide)]
  simp only [Option.bind_some, Bool.true_and]
  rw [show (0 : Int).toNat = 0 from rfl]
  cases hd : u.getLsbD 0
  · rw [if_neg (by simp)]
    unfold m46_r15_Sane_k1
    obtain ⟨v, hv, hR⟩ := iter_inv (f := m46_r15_Sane_s3 (GR15Window.mk b u)) (P := fun s => ∃ k : Nat, k ≤ 64 ∧ s = (k : Int) ∧ ∀ j, j < k → u.getLsbD j = true → b + (j : Int) < 4294967296) (μ := fun s => 64 - s.toNat)
      (R := fun v => match v with | .inl v => v = false ∧ ∃ j : Nat, j < 64 ∧ u.getLsbD j = true ∧ 4294967296 ≤ b + (j : Int) | .inr _ => ∀ j, j < 64 → u.getLsbD j = true → b + (j : Int) < 4294967296) (by
      rintro _ ⟨k, hk, rfl, hlow⟩
      unfold m46_r15_Sane_s3
      dsimp only
      by_cases h64 : k < 64
      · rw [if_pos (decide_eq_true (by omega)), rdigit_m (by omega) (by omega)]
        simp only [Option.bind_some]
        rw [Int.toNat_natCast, wI_id (n := (k : Int) + 1) (by omega) (by omega), wI_id (by omega) (by omega)]
        cases hb : u.getLsbD k
        · rw [if_neg (by simp)]
          refine .inl ⟨_, rfl, ⟨k + 1, by omega, rfl, fun j hj hu => ?_⟩, by omega⟩
          by_cases e : j = k
          · rw [e, hb] at hu; cases hu
          · exact hlow j (by omega) hu
        · rw [if_pos rfl]
          by_cases hge : 4294967296 ≤ b + (k : Int)
          · rw [if_pos (decide_eq_true hge)]
            exact .inr (.inr ⟨false, rfl, rfl, k, h64, hb, hge⟩)
          · rw [if_neg (by rw [decide_eq_true_eq]; exact hge)]
            refine .inl ⟨_, rfl, ⟨k + 1, by omega, rfl, fun j hj hu => ?_⟩, by omega⟩
            by_cases e : j = k
            · rw [e]; omega
            · exact hlow j (by omega) hu
      · rw [if_neg (by rw [decide_eq_true_eq]; omega)]
        exact .inr (.inl ⟨(), rfl, fun j hj hu => hlow j (by omega) hu⟩)) fuel 0 ⟨0, by omega, rfl, fun j hj => by omega⟩ (lt_fuel (by omega))
    rw [hv]
    simp only [Bool.not_false, Bool.true_and]
    cases v with
    | inl v =>
      obtain ⟨rfl, j, hj, hu, hge⟩ := hR
      rw [decide_eq_false]
      · rfl
      · intro hz
        have := (shr0_iff u _).1 hz j hj (by omega)
        rw [hu] at this; cases this
    | inr x =>
      rw [decide_eq_true]
      · rfl
      · refine (shr0_iff u _).2 fun j hj hge => ?_
        cases hu : u.getLsbD j
        · rfl
        · have := (show ∀ j : Nat, j < 64 → u.getLsbD j = true → b + (j : Int) < 4294967296 from hR) j hj hu
          omega
  · rw [if_pos rfl]; rfl
theorem rseen_m (b : Int) (u : BitVec 64) (s : Int) : m47_r15_Seen (GR15Window.mk b u) s = some (seenM b u s) := by
  unfold m47_r15_Seen seenM saneSeqM
  rw [rsane_m]
  simp only [Option.bind_some]
  cases hs : saneM b u
  · rfl
  obtain ⟨g1, g2, g3, g4⟩ := (saneM_iff b u).1 hs
  rw [if_neg (by simp)]
  by_cases h0 : s < 0
  · rw [if_pos (decide_eq_true h0), decide_eq_false (by omega)]; rfl
  rw [if_neg (by rw [decide_eq_true_eq]; exact h0), decide_eq_true (show 0 ≤ s from by omega)]
  by_cases h1 : 4294967296 ≤ s
  · rw [if_pos (decide_eq_true h1), decide_eq_false (by omega)]; rfl
  rw [if_neg (by rw [decide_eq_true_eq]; exact h1), decide_eq_true (show s ≤ 4294967295 from by omega)]
  unfold m47_r15_Seen_k1
  dsimp only
  by_cases h : s < b
  · rw [if_pos (decide_eq_true h), decide_eq_true h]; rfl
  rw [if_neg (by rw [decide_eq_true_eq]; exact h), decide_eq_false h, wI_id (n := b + 64) (by omega) (by omega)]
  by_cases h2 : s < b + 64
  · rw [if_pos (decide_eq_true h2), wI_id (by omega) (by omega), rdigit_m (by omega) (by omega), decide_eq_true (by omega)]; rfl
  · rw [if_neg (by rw [decide_eq_true_eq]; exact h2), decide_eq_false (by omega)]; rfl
theorem shl_two {n : Nat} (hn : n + 1 < 64) : ((1#64) <<< n) * 2#64 = (1#64) <<< (n + 1) := by
  apply BitVec.eq_of_toNat_eq
  rw [BitVec.toNat_mul, BitVec.toNat_shiftLeft, BitVec.toNat_shiftLeft, Nat.shiftLeft_eq, Nat.shiftLeft_eq]
  have h1 : 2 ^ n < 2 ^ 64 := Nat.pow_lt_pow_right (by decide) (by omega)
  have h2 : 2 ^ (n + 1) < 2 ^ 64 := Nat.pow_lt_pow_right (by decide) hn
  rw [show (1#64).toNat = 1 from rfl, show (2#64).toNat = 2 from rfl, Nat.one_mul, Nat.one_mul, Nat.mod_eq_of_lt h1, ← Nat.pow_succ]
theorem shr_one (u : BitVec 64) : u / 2#64 = u >>> 1 := by
  apply BitVec.eq_of_toNat_eq
  rw [BitVec.toNat_udiv, BitVec.toNat_ushiftRight, Nat.shiftRight_eq_div_pow]; rfl
theorem low_bit (u : BitVec 64) : decide (((u % 2#64).toNat : Int) = 1) = u.getLsbD 0 := by
  have : u.getLsbD 0 = decide (u.toNat % 2 = 1) := by rw [BitVec.getLsbD, Nat.testBit_zero]
  rw [this, BitVec.toNat_umod, show (2#64).toNat = 2 from rfl]
  by_cases h : u.toNat % 2 = 1
  · rw [decide_eq_true h, decide_eq_true (by omega)]
  · rw [decide_eq_false h, decide_eq_false (by omega)]
theorem add_or {u : BitVec 64} {n : Nat} (hn : n < 64) (h : u.getLsbD n = false) : u + (1#64) <<< n = u ||| (1#64) <<< n := by
  apply BitVec.add_eq_or_of_and_eq_zero
  apply BitVec.eq_of_getLsbD_eq
  intro i hi
  rw [BitVec.getLsbD_and, BitVec.getLsbD_shiftLeft, BitVec.getLsbD_one]
  by_cases e : i = n
  · subst e; rw [h]; simp
  · by_cases h1 : i < n
    · simp [h1]
    · have : ¬ i - n = 0 := by omega
      simp [this]
theorem raccept_m {b : Int} {u : BitVec 64} {s : Int} (hs : saneM b u = true) (hq : saneSeqM s = true) (hn : seenM b u s = false) (h64 : s - b < 64) : m37_r15_Accept (GR15Window.mk b u) s = some (GR15Window.mk (acceptM b u s).1.1 (acceptM b u s).1.2, 0) := by
  obtain ⟨g1, g2, g3, g4⟩ := (saneM_iff b u).1 hs
  obtain ⟨q1, q2⟩ := (saneSeqM_iff s).1 hq
  have hge := seen_ge hs hq hn
  unfold m37_r15_Accept
  rw [rsane_m, hs]
  simp only [Option.bind_some]
  rw [if_neg (by simp), if_neg (by rw [decide_eq_true_eq]; omega), if_neg (by rw [decide_eq_true_eq]; omega)]
  unfold m37_r15_Accept_k1
  rw [rseen_m, hn]
  simp only [Option.bind_some]
  rw [if_neg (by simp)]
  rw [wI_id (by omega) (by omega), if_neg (by rw [decide_eq_true_eq]; omega)]
  obtain ⟨v, hv, rfl⟩ := iterB_inv (f := m37_r15_Accept_s7 s) (P := fun t => ∃ k : Nat, b + (k : Int) ≤ s ∧ t = ((1#64) <<< k, b + (k : Int))) (μ := fun t => (s - t.2).toNat) (R := fun v => v = (1#64) <<< (s - b).toNat) (by
    rintro _ ⟨k, hk, rfl⟩
    unfold m37_r15_Accept_s7
    dsimp only
    by_cases hlt : b + (k : Int) < s
    · rw [if_pos (decide_eq_true hlt), shl_two (by omega), wI_id (by omega) (by omega)]
      exact .inl ⟨_, rfl, ⟨k + 1, by omega, by rw [Int.natCast_add, Int.add_assoc]; rfl⟩, by dsimp only; omega⟩
    · rw [if_neg (by rw [decide_eq_true_eq]; exact hlt)]
      exact .inr ⟨_, rfl, by rw [show (s - b).toNat = k from by omega]⟩) fuel (1#64, b) ⟨0, by omega, by simp⟩ (lt_fuel (by dsimp only; omega))
  rw [hv]
  simp only [Option.bind_some]
  unfold m37_r15_Accept_k3
  dsimp only
  have hbit : u.getLsbD (s - b).toNat = false := by
    unfold seenM at hn
    rw [hs, hq, Bool.true_and, Bool.true_and, Bool.or_eq_false_iff, decide_eq_true h64, Bool.true_and] at hn
    exact hn.2
  rw [add_or (by omega) hbit, accept_ok hs hq hn (by omega)]
  generalize u ||| (1#64) <<< (s - b).toNat = u1
  obtain ⟨t1, t2, t3⟩ := tone_spec u1
  obtain ⟨v, hv, rfl⟩ := iterB_inv (f := m37_r15_Accept_s5) (P := fun s => ∃ k : Nat, k ≤ tone u1 ∧ s = (b + (k : Int), u1 >>> k)) (μ := fun s => (b + 64 - s.1).toNat) (R := fun v => v = (b + (tone u1 : Int), u1 >>> tone u1)) (by
    rintro _ ⟨k, hk, rfl⟩
    unfold m37_r15_Accept_s5
    dsimp only
    rw [low_bit, shr_one, BitVec.getLsbD_ushiftRight, Nat.add_zero]
    by_cases he : k < tone u1
    · left
      rw [t1 k he, if_pos rfl, show (u1 >>> k) >>> 1 = u1 >>> (k + 1) from shr_shr u1 k, wI_id (by omega) (by omega)]
      exact ⟨_, rfl, ⟨k + 1, by omega, by rw [Int.natCast_add, Int.add_assoc]; rfl⟩, by dsimp only; omega⟩
    · right
      have : k = tone u1 := by omega
      subst this
      rw [t2, if_neg (by simp)]
      exact ⟨_, rfl, rfl⟩) fuel (b, u1) ⟨0, Nat.zero_le _, by simp⟩ (lt_fuel (by dsimp only; omega))
  rw [hv]
  rfl
end Go.Proofs.YtlpanhfojeaamaaDoor.Abs
