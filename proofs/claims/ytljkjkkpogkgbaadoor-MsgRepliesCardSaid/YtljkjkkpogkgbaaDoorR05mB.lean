/-
  The law of replies.
-/
import Derived.Test.YtljkjkkpogkgbaaDoorR05lB
namespace Go.Proofs.YtljkjkkpogkgbaaDoor.Abs

theorem cl_within {x : Int} (hx : VU 8 x) : within (cl x) 1099511627776 = within x 1099511627776 ∧ (within x 1099511627776 = true → cl x = x) := by
  unfold VU at hx
  have hlt := (BitVec.ofInt 64 x).isLt
  rw [Nat.mod_eq_of_lt (by exact hlt)] at hx
  have e62 : (4611686018427387904#64).toNat = 4611686018427387904 := by decide
  have hcl : cl x = wI ((if 4611686018427387904 < (BitVec.ofInt 64 x).toNat then (4611686018427387904#64) else BitVec.ofInt 64 x).toNat : Int) := by
    unfold cl; rw [e62]
  generalize hn : (BitVec.ofInt 64 x).toNat = n at *
  by_cases hc : 4611686018427387904 < n
  · rw [if_pos hc, e62, wI_id (by decide) (by decide)] at hcl
    have hno : ¬ (0 ≤ x ∧ x ≤ 1099511627776) := by
      intro h
      have : BitVec.ofInt 64 x = BitVec.ofNat 64 x.toNat := by
        rw [← BitVec.ofInt_natCast, Int.toNat_of_nonneg h.1]
      rw [this, BitVec.toNat_ofNat, Nat.mod_eq_of_lt (by omega)] at hn
      omega
    have e1 : within x 1099511627776 = false := by
      cases h : within x 1099511627776 with
      | false => rfl
      | true =>
        simp only [within, Bool.and_eq_true, decide_eq_true_eq] at h
        exact absurd h hno
    rw [e1, hcl]
    exact ⟨by decide, fun h => by cases h⟩
  · rw [if_neg hc, hn] at hcl
    have h2 : cl x = x := hcl.trans hx
    rw [h2]
    exact ⟨rfl, fun _ => rfl⟩
theorem cl_sane {x : RepT} (hv : VS5 x) : saneRep (rp (repRef x)) = saneRep (repOf x) ∧ (saneRep (repOf x) = true → rp (repRef x) = repOf x) := by
  obtain ⟨x1, x2, x3, x4, x5, x6, x7, x8⟩ := x
  obtain ⟨_, _, _, _, h5, _⟩ := hv
  obtain ⟨k1, k2⟩ := cl_within h5
  constructor
  · show (x8.all okV && (okRep x1 && (within x2 4294967295 && (within x4 255 && (within (cl x5) 1099511627776 && _))))) = (x8.all okV && (okRep x1 && (within x2 4294967295 && (within x4 255 && (within x5 1099511627776 && _)))))
    rw [k1]; rfl
  · intro h
    have h3 : within x5 1099511627776 = true := by
      unfold saneRep saneRep1 at h
      simp only [Bool.and_eq_true] at h
      exact h.2.2.2.2.1
    have := k2 h3
    simp only [rp, repRef, repOf, this]

theorem readRep_same (d : List UInt8) (hd : d.length ≤ 100000000) : ∃ g h e, m25_msg_ReadReply d = some (g, e) ∧ m26_r05_ReadReply d = some (h, e) ∧ g = rp h ∧ g.List.length ≤ 1000000 := by
  obtain ⟨x, e, p, hr, hp, hv, hm⟩ := refRep_eq d hd
  rw [hm, readRep_eq d hd, hr]
  simp only [Option.bind_some]
  rw [end_m _ _ _ hp hd]
  simp only [Option.bind_some]
  by_cases he : e = 0
  · subst he
    by_cases hl : p < d.length
    · exact ⟨zrep, zrefp, 3, by simp [hl], by simp [hl], rfl, by decide⟩
    · have hV := hv rfl
      have hl8 : (repOf x).List.length ≤ 8 := hV.2.2.2.2.2.2.2.1
      rw [saneRep_m _ (by omega)]
      obtain ⟨h1, h2⟩ := cl_sane hV
      cases hs : saneRep (repOf x) with
      | true => exact ⟨repOf x, repRef x, 0, by simp [hl], by simp [hl, h1, hs], (h2 hs).symm, by omega⟩
      | false => exact ⟨zrep, zrefp, 3, by simp [hl], by simp [hl, h1, hs], rfl, by decide⟩
  · exact ⟨zrep, zrefp, e, by simp [he], by simp [he], rfl, by decide⟩

theorem msgReplies_true (a0 a1 : GR05Reply) (a2 : List UInt8) : m4_l05_MsgReplies a0 a1 a2 = some true := by
  unfold m4_l05_MsgReplies
  rw [awake5]
  simp only [Option.bind_some]
  obtain ⟨b1, h1, h1'⟩ := fewRep_m a0
  obtain ⟨b2, h2, h2'⟩ := fewRep_m a1
  rw [show m21_r05_FewReply (GR05Reply.mk a0.Kind a0.Seq a0.Code a0.N a0.Found a0.Val a0.List) = some b1 from h1, show m21_r05_FewReply (GR05Reply.mk a1.Kind a1.Seq a1.Code a1.N a1.Found a1.Val a1.List) = some b2 from h2]
  simp only [Option.bind_some]
  cases b1 with
  | false => rfl
  | true =>
  cases b2 with
  | false => rfl
  | true =>
  have l0 := h1' rfl
  have l1 := h2' rfl
  have l0' : (rp a0).List.length ≤ 1000000 := by show a0.List.length ≤ _; omega
  simp only [Bool.not_true, Bool.false_eq_true, if_false]
  by_cases hl : (1000 : Int) < (a2.length : Int)
  · rw [if_pos (decide_eq_true hl)]
  · rw [if_neg (by rw [decide_eq_true_eq]; exact hl)]
    obtain ⟨g, h, e, hg, hh, hgh, hgl⟩ := readRep_same a2 (by omega)
    obtain ⟨r, hr, hr2⟩ := sameRep_m (rp a0) (rp a1) l0'
    obtain ⟨r', hr', hr2'⟩ := refSameRep_m a0 a1 (by omega)
    obtain ⟨q, hq, hq2⟩ := refSameRep_m (GR05Reply.mk g.Kind g.Seq g.Code g.N g.Found g.Val g.List) h hgl
    have hqt : q = true := hq2.2 (by rw [← hgh]; rfl)
    subst hqt
    have hrr : (r == r') = true := by
      by_cases he : rp a0 = rp a1
      · rw [hr2.2 he, hr2'.2 he]; rfl
      · have e1 : r = false := by
          cases r with
          | false => rfl
          | true => exact absurd (hr2.1 rfl) he
        have e2 : r' = false := by
          cases r' with
          | false => rfl
          | true => exact absurd (hr2'.1 rfl) he
        rw [e1, e2]; rfl
    unfold m4_l05_MsgReplies_k2
    rw [show m23_l05_reply a0 = some (rp a0) from rfl]
    simp only [Option.bind_some]
    rw [putRep_m (rp a0) l0']
    simp only [Option.bind_some]
    rw [refPutRep_m a0 (by omega)]
    simp only [Option.bind_some]
    rw [hg]
    simp only [Option.bind_some]
    rw [hh]
    simp only [Option.bind_some, if_true, beq_self_eq_true, decide_true]
    rw [show m28_l05_told (GMsgReply.mk g.Kind g.Seq g.Code g.N g.Found g.Val g.List) = some (GR05Reply.mk g.Kind g.Seq g.Code g.N g.Found g.Val g.List) from rfl]
    simp only [Option.bind_some]
    rw [hq]
    simp only [Option.bind_some, if_true]
    rw [saneRep_m (rp a0) l0']
    simp only [Option.bind_some]
    rw [show m30_r05_SaneReply (GR05Reply.mk a0.Kind a0.Seq a0.Code a0.N a0.Found a0.Val a0.List) = some (saneRep (rp a0)) from saneRefRep_m a0 (by omega)]
    simp only [Option.bind_some, beq_self_eq_true, if_true]
    rw [show m23_l05_reply (GR05Reply.mk a1.Kind a1.Seq a1.Code a1.N a1.Found a1.Val a1.List) = some (rp a1) from rfl]
    simp only [Option.bind_some]
    rw [hr]
    simp only [Option.bind_some]
    rw [show m27_r05_SameReply (GR05Reply.mk a0.Kind a0.Seq a0.Code a0.N a0.Found a0.Val a0.List) (GR05Reply.mk a1.Kind a1.Seq a1.Code a1.N a1.Found a1.Val a1.List) = some r' from hr']
    simp only [Option.bind_some, hrr]
end Go.Proofs.YtljkjkkpogkgbaaDoor.Abs
