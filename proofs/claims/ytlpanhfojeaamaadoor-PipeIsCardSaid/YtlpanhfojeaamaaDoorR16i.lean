/-
  PipeIs.
-/
import Derived.Test.YtlpanhfojeaamaaDoorJ16
import Derived.Test.YtlpanhfojeaamaaDoorZ16
namespace Go.Proofs.YtlpanhfojeaamaaDoor.Abs

theorem offer_mk2 (p : GPipePipe) (r : GR05Req) (hf : FewP p) : m13_pipe_Offer (GPipePipe.mk (GSeqsWindow.mk p.Win.Base p.Win.Bits) p.Next p.Wait p.Past) (GMsgReq.mk (rq r).Kind (rq r).Seq (rq r).Token (rq r).Attempt (rq r).RO (rq r).Key (rq r).Val (GApiRange.mk (rq r).Rng.Lo (rq r).Rng.Hi (rq r).Rng.Open)) = some (offerM p (rq r)) := offer_m p (rq r) hf
theorem roffer_mk (a : GR16Pipe) (r : GR05Req) (hf : FewR a) (h : FewP (ou a)) : m15_r16_Offer (GR16Pipe.mk (GR15Window.mk a.Win.Base a.Win.Bits) a.Next a.Wait a.Past) (GR05Req.mk r.Kind r.Seq r.Token r.Attempt r.RO r.Key r.Val (GApiRange.mk r.Rng.Lo r.Rng.Hi r.Rng.Open)) = some (thO (offerM (ou a) (rq r))) := roffer_m a r hf h
theorem answer_mk (p : GPipePipe) (r : GMsgReply) (hf : FewP p) (hr : r.List.length ≤ 1000000) : m16_pipe_Answer (GPipePipe.mk (GSeqsWindow.mk p.Win.Base p.Win.Bits) p.Next p.Wait p.Past) r = some (answerM p r) := answer_m p r hf hr
theorem ranswer_mk (a : GR16Pipe) (r : GR05Reply) (hf : FewR a) (hr : r.List.length ≤ 1000000) : m18_r16_Answer (GR16Pipe.mk (GR15Window.mk a.Win.Base a.Win.Bits) a.Next a.Wait a.Past) (GR05Reply.mk r.Kind r.Seq r.Code r.N r.Found r.Val r.List) = some (th (answerM (ou a) (rp r)).1, pr (answerM (ou a) (rp r)).2.1, (answerM (ou a) (rp r)).2.2) := ranswer_m a r hf hr
theorem ready_mk (p : GPipePipe) (hf : FewP p) : m19_pipe_Ready (GPipePipe.mk (GSeqsWindow.mk p.Win.Base p.Win.Bits) p.Next p.Wait p.Past) = some (readyM p) := ready_m p hf
theorem rready_mk (a : GR16Pipe) (hf : FewR a) : m20_r16_Ready (GR16Pipe.mk (GR15Window.mk a.Win.Base a.Win.Bits) a.Next a.Wait a.Past) = some (qr (readyM (ou a)).1, (readyM (ou a)).2) := rready_m a hf
theorem rsaneP_mk (a : GR16Pipe) (hf : FewR a) : m28_r16_Sane (GR16Pipe.mk (GR15Window.mk a.Win.Base a.Win.Bits) a.Next a.Wait a.Past) = some (saneB (ou a)) := rsaneP_m a hf
/-- What Offer and Answer give is few as well. -/
theorem offer_few {p : GPipePipe} (hf : FewP p) (h1 : p.Wait.length ≤ 12) (r : GMsgReq) : FewP (offerM p r).1 ∧ (offerM p r).2.1.List.length ≤ 1000000 := by
  have hz : FewP zpipe := ⟨by decide, by decide, fun x hx => by cases hx⟩
  unfold offerM
  split
  · unfold offer1
    split
    · rename_i x hx
      exact ⟨hf, hf.v x (List.mem_of_find?_eq_some hx)⟩
    · split
      · exact ⟨hz, Nat.zero_le _⟩
      · split
        · exact ⟨hf, Nat.zero_le _⟩
        · split
          · exact ⟨hz, Nat.zero_le _⟩
          · exact ⟨⟨by show (insW r p.Wait).length ≤ _; rw [insW_len]; omega, hf.pl, hf.v⟩, Nat.zero_le _⟩
  · exact ⟨hz, Nat.zero_le _⟩
theorem answer_few {p : GPipePipe} (hf : FewP p) (h1 : p.Past.length ≤ 12) {r : GMsgReply} (hr : r.List.length ≤ 1000000) : FewP (answerM p r).1 ∧ (answerM p r).2.1.List.length ≤ 1000000 := by
  have hz : FewP zpipe := ⟨by decide, by decide, fun x hx => by cases hx⟩
  have hw := hf.w
  unfold answerM
  split
  · exact ⟨hz, Nat.zero_le _⟩
  · split
    · exact ⟨hz, Nat.zero_le _⟩
    · split
      · exact ⟨hz, Nat.zero_le _⟩
      · refine ⟨⟨by show (p.Wait.drop 1).length ≤ _; rw [List.length_drop]; omega, by show (pastM _ _).length ≤ _; unfold pastM; rw [List.length_drop, List.length_append, List.length_singleton]; omega, fun x hx => ?_⟩, hr⟩
        have hx' : x ∈ p.Past ++ [ansR (readyM p).1 r] := List.mem_of_mem_drop (show x ∈ (p.Past ++ [ansR (readyM p).1 r]).drop _ from hx)
        rcases List.mem_append.1 hx' with h | h
        · exact hf.v x h
        · rw [List.mem_singleton.1 h]; exact hr
theorem is_k12 (a : GR16Pipe) (r : GMsgReply) (hf : FewR a) (hp : FewP (ou a)) (ha : FewP (answerM (ou a) r).1) (hl : (answerM (ou a) r).2.1.List.length ≤ 1000000) :
    m3_l16_PipeIs_k12 a true (ou a) (answerM (ou a) r) (th (answerM (ou a) r).1, pr (answerM (ou a) r).2.1, (answerM (ou a) r).2.2) (readyM (ou a)) (qr (readyM (ou a)).1, (readyM (ou a)).2) () = some true := by
  unfold m3_l16_PipeIs_k12
  generalize answerM (ou a) r = x at *
  generalize readyM (ou a) = y
  rw [if_pos rfl, theirs_mk x.1 ha]
  simp only [Option.bind_some]
  rw [same_mk (th x.1) (th x.1) rfl (few_th ha)]
  simp only [Option.bind_some, if_true]
  rw [show m24_l16_told x.2.1 = some (pr x.2.1) from rfl]
  simp only [Option.bind_some]
  rw [refSameRep_self (pr x.2.1) hl]
  simp only [Option.bind_some, if_true, decide_true]
  rw [show m26_l16_asked _ = some (qr y.1) from rfl]
  simp only [Option.bind_some]
  rw [show m25_r05_SameReq _ _ = some true from refSame_self (qr y.1)]
  simp only [Option.bind_some, if_true, beq_self_eq_true]
  rw [saneP_mk (ou a) hp, rsaneP_mk a hf]
  simp only [Option.bind_some, if_true, beq_self_eq_true]
  rw [theirs_mk (ou a) hp]
  simp only [Option.bind_some]
  rw [same_mk (th (ou a)) a (th_ou a) hf]
  rfl
theorem pipeIs_true (a0 : GR16Pipe) (a1 : GR05Req) (a2 : GR05Reply) : m3_l16_PipeIs a0 a1 a2 = some true := by
  unfold m3_l16_PipeIs
  rw [awake16]
  simp only [Option.bind_some]
  obtain ⟨b, hb, hfew⟩ := fewPipe_m a0
  rw [show m9_r16_Few _ = some b from hb]
  cases b
  · simp only [Option.bind_some, Bool.not_false, if_true]
  simp only [Option.bind_some, Bool.not_true, Bool.false_eq_true, if_false]
  obtain ⟨b, hb⟩ := few_m a1
  rw [show m10_r05_Few _ = some b from hb]
  cases b
  · simp only [Option.bind_some, Bool.not_false, if_true]
  simp only [Option.bind_some, Bool.not_true, Bool.false_eq_true, if_false]
  obtain ⟨b, hb, hl2⟩ := fewReply_m a2
  rw [show m11_r05_FewReply _ = some b from hb]
  cases b
  · simp only [Option.bind_some, Bool.not_false, if_true]
  simp only [Option.bind_some, Bool.not_true, Bool.false_eq_true, if_false]
  have hf := hfew rfl
  obtain ⟨hfp, hfr⟩ := few_ou hf
  have hwl : (ou a0).Wait.length = a0.Wait.length := List.length_map ..
  have hpl : (ou a0).Past.length = a0.Past.length := List.length_map ..
  have hr : (rp a2).List.length ≤ 1000000 := by have := hl2 rfl; show a2.List.length ≤ _; omega
  obtain ⟨o1, o2⟩ := offer_few hfp (by omega) (rq a1)
  obtain ⟨n1, n2⟩ := answer_few hfp (by omega) hr
  unfold m3_l16_PipeIs_k2
  rw [show m12_l16_ours _ = some (ou a0) from ours_m a0 hfr.w hfr.pl]
  simp only [Option.bind_some]
  rw [show m14_l16_req _ = some (rq a1) from rfl]
  simp only [Option.bind_some]
  rw [offer_mk2 (ou a0) a1 hfp, roffer_mk a0 a1 hfr hfp]
  simp only [Option.bind_some]
  rw [show m17_l16_reply _ = some (rp a2) from rfl]
  simp only [Option.bind_some]
  rw [answer_mk (ou a0) (rp a2) hfp hr, ranswer_mk a0 a2 hfr hr, ready_mk (ou a0) hfp, rready_mk a0 hfr]
  simp only [Option.bind_some]
  have hk := is_k12 a0 (rp a2) hfr hfp n1 n2
  generalize offerM (ou a0) (rq a1) = x at *
  rw [theirs_mk x.1 o1]
  simp only [Option.bind_some]
  unfold thO
  dsimp only
  rw [same_mk (th x.1) (th x.1) rfl (few_th o1)]
  simp only [Option.bind_some, Bool.not_true, Bool.false_eq_true, if_false]
  rw [show m24_l16_told x.2.1 = some (pr x.2.1) from rfl]
  simp only [Option.bind_some]
  rw [refSameRep_self (pr x.2.1) o2]
  simp only [Option.bind_some, Bool.not_true, Bool.false_eq_true, if_false, beq_self_eq_true, decide_true]
  exact hk
end Go.Proofs.YtlpanhfojeaamaaDoor.Abs
