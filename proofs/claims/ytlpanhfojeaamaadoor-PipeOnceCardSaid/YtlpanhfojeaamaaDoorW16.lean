/-
  The program's windows (stage 15) as plain functions.
-/
import Derived.Test.YtlpanhfojeaamaaDoorT16
import Derived.Test.YtlpanhfojeaamaaDoorAbsC
import Derived.Test.YtlpanhfojeaamaaDoorV16
namespace Go.Proofs.YtlpanhfojeaamaaDoor.Abs

theorem digit_m {u : BitVec 64} {i : Int} (h : 0 ≤ i) : m68_seqs_digit u i = some (u.getLsbD i.toNat) := by
  unfold m68_seqs_digit
  rw [if_pos h, digit_eq]
theorem saneSeq_m (s : Int) : m63_seqs_saneSeq s = some (saneSeqM s) := by
  unfold m63_seqs_saneSeq saneSeqM
  by_cases h : 0 ≤ s
  · rw [if_pos (decide_eq_true h), decide_eq_true h]; rfl
  · rw [if_neg (by rw [decide_eq_true_eq]; exact h), decide_eq_false h]; rfl
theorem sane_m (b : Int) (u : BitVec 64) : m62_seqs_Sane (GSeqsWindow.mk b u) = some (saneM b u) := by
  unfold m62_seqs_Sane saneM
  dsimp only
  by_cases h0 : b < 0
  · rw [if_pos (decide_eq_true h0), decide_eq_false (by omega)]; rfl
  rw [if_neg (by rw [decide_eq_true_eq]; exact h0), decide_eq_true (show 0 ≤ b from by omega)]
  by_cases h1 : 4294967296 < b
  · rw [if_pos (decide_eq_true h1), decide_eq_false (by omega)]; rfl
  rw [if_neg (by rw [decide_eq_true_eq]; exact h1), decide_eq_true (show b ≤ 4294967296 from by omega), digit_m (by decide)]
  simp only [Option.bind_some, Bool.true_and]
  rw [show (0 : Int).toNat = 0 from rfl]
  cases hd : u.getLsbD 0
  · rw [if_neg (by simp)]
    unfold m62_seqs_Sane_k1
    dsimp only
    rw [wI_id (by omega) (by omega), if_pos (by omega)]
    by_cases hz : u >>> (4294967296 - b).toNat = 0#64
    · rw [decide_eq_true hz, decide_eq_true (by rw [hz]; rfl)]; rfl
    · rw [decide_eq_false hz, decide_eq_false (fun h => hz ((u64_eq0 _).1 h))]; rfl
  · rw [if_pos rfl]; rfl
theorem sane_m' (w : GSeqsWindow) : m62_seqs_Sane w = some (saneM w.Base w.Bits) := sane_m w.Base w.Bits
theorem seen_m (b : Int) (u : BitVec 64) (s : Int) : m64_seqs_Seen (GSeqsWindow.mk b u) s = some (seenM b u s) := by
  unfold m64_seqs_Seen seenM
  rw [sane_m, saneSeq_m]
  simp only [Option.bind_some]
  cases hs : saneM b u
  · rfl
  cases hq : saneSeqM s
  · rfl
  obtain ⟨g1, g2, g3, g4⟩ := (saneM_iff b u).1 hs
  obtain ⟨q1, q2⟩ := (saneSeqM_iff s).1 hq
  simp only [Bool.not_true, Bool.false_eq_true, if_false, Bool.true_and]
  unfold m64_seqs_Seen_k1
  dsimp only
  by_cases h : s < b
  · rw [if_pos (decide_eq_true h), decide_eq_true h]; rfl
  rw [if_neg (by rw [decide_eq_true_eq]; exact h), decide_eq_false h, wI_id (by omega) (by omega)]
  by_cases h2 : s - b < 64
  · rw [if_pos (decide_eq_true h2), digit_m (by omega), decide_eq_true h2]; rfl
  · rw [if_neg (by rw [decide_eq_true_eq]; exact h2), decide_eq_false h2]; rfl
theorem shr_shr (u : BitVec 64) (k : Nat) : (u >>> k) >>> (1 : Int).toNat = u >>> (k + 1) := by
  apply BitVec.eq_of_getLsbD_eq
  intro i _
  rw [BitVec.getLsbD_ushiftRight, BitVec.getLsbD_ushiftRight, BitVec.getLsbD_ushiftRight]
  congr 1
  show k + (1 + i) = k + 1 + i
  omega
theorem settle_m {b : Int} {u : BitVec 64} (h0 : 0 ≤ b) (h1 : b ≤ 4294967296) : m65_seqs_settle (GSeqsWindow.mk b u) = some (GSeqsWindow.mk (b + tone u) (u >>> tone u)) := by
  obtain ⟨t1, t2, t3⟩ := tone_spec u
  unfold m65_seqs_settle
  obtain ⟨v, hv, rfl⟩ := iterB_inv (f := m65_seqs_settle_s2) (P := fun s => ∃ k : Nat, k ≤ tone u ∧ s = (b + (k : Int), u >>> k)) (μ := fun s => (b + 64 - s.1).toNat) (R := fun v => v = (b + (tone u : Int), u >>> tone u)) (by
    rintro _ ⟨k, hk, rfl⟩
    unfold m65_seqs_settle_s2
    rw [digit_m (by decide)]
    simp only [Option.bind_some]
    rw [BitVec.getLsbD_ushiftRight, show k + (0 : Int).toNat = k from by simp]
    by_cases he : k < tone u
    · left
      rw [t1 k he, if_pos rfl, shr_shr, wI_id (by omega) (by omega)]
      exact ⟨_, rfl, ⟨k + 1, by omega, by rw [Int.natCast_add, Int.add_assoc]; rfl⟩, by simp only; omega⟩
    · right
      have : k = tone u := by omega
      subst this
      rw [t2, if_neg (by simp)]
      exact ⟨_, rfl, rfl⟩) fuel (b, u) ⟨0, Nat.zero_le _, by simp⟩ (lt_fuel (by simp only; omega))
  rw [show iterB m65_seqs_settle_s2 fuel ((GSeqsWindow.mk b u).Base, (GSeqsWindow.mk b u).Bits) = _ from hv]
  rfl
theorem accept_m (b : Int) (u : BitVec 64) (s : Int) : m34_seqs_Accept (GSeqsWindow.mk b u) s = some (GSeqsWindow.mk (acceptM b u s).1.1 (acceptM b u s).1.2, (acceptM b u s).2) := by
  unfold m34_seqs_Accept
  rw [sane_m, saneSeq_m, seen_m]
  simp only [Option.bind_some]
  cases hs : saneM b u
  · rw [accept_arg (.inl hs)]; rfl
  cases hq : saneSeqM s
  · rw [accept_arg (.inr hq)]; rfl
  obtain ⟨g1, g2, g3, g4⟩ := (saneM_iff b u).1 hs
  obtain ⟨q1, q2⟩ := (saneSeqM_iff s).1 hq
  cases hn : seenM b u s
  · have hge := seen_ge hs hq hn
    simp only [Bool.not_true, Bool.false_eq_true, if_false]
    rw [wI_id (by omega) (by omega)]
    by_cases h : 64 ≤ s - b
    · rw [if_pos (decide_eq_true h), accept_far hs hq hn h]
    · rw [if_neg (by rw [decide_eq_true_eq]; exact h), if_pos (by omega), settle_m g1 g2, accept_ok hs hq hn h]; rfl
  · rw [accept_seen hs hq hn]; rfl
end Go.Proofs.YtlpanhfojeaamaaDoor.Abs
