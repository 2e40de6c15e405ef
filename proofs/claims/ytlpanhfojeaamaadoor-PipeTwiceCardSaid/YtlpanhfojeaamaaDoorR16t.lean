/-
  PipeTwice.
-/
import Derived.Test.YtlpanhfojeaamaaDoorY16
namespace Go.Proofs.YtlpanhfojeaamaaDoor.Abs

theorem awake16 : m8_l16_awake = some true := by decide +kernel
theorem offer_cases (p : GPipePipe) (r : GMsgReq) : (∃ e, e ≠ 0 ∧ offerM p r = (zpipe, zreply, false, e)) ∨ (SaneP p ∧ ∃ x h, offerM p r = (p, x, h, 0)) ∨ (offerM p r = (offP p r, zreply, false, 0) ∧ SaneP p ∧ SaneP (offP p r) ∧ offerM (offP p r) r = (offP p r, zreply, false, 0)) := by
  unfold offerM
  by_cases hc : saneB p = true ∧ saneReq r = true
  · rw [if_pos hc]
    have hp := saneB_true.1 hc.1
    have hq := sane_seq hc.2
    unfold offer1
    cases hf : p.Past.find? fun x => decide (x.Seq = r.Seq) with
    | some x => exact .inr (.inl ⟨hp, x, true, rfl⟩)
    | none =>
      dsimp only
      by_cases h1 : r.Seq < p.Next
      · rw [if_pos h1]; exact .inl ⟨7, by decide, rfl⟩
      rw [if_neg h1]
      by_cases h2 : hasW p.Wait r.Seq = true
      · rw [if_pos h2]; exact .inr (.inl ⟨hp, zreply, false, rfl⟩)
      rw [if_neg h2]
      by_cases h3 : p.Next + 8 ≤ r.Seq
      · rw [if_pos h3]; exact .inl ⟨8, by decide, rfl⟩
      rw [if_neg h3]
      have hs := offP_sane hp hc.2 h1 (by simpa using h2) h3
      refine .inr (.inr ⟨rfl, hp, hs, ?_⟩)
      rw [if_pos ⟨saneB_true.2 hs, hc.2⟩]
      have hf2 : ((offP p r).Past.find? fun x => decide (x.Seq = r.Seq)) = none := hf
      rw [hf2]
      dsimp only
      rw [if_neg (show ¬ r.Seq < (offP p r).Next from h1), if_pos (show hasW (offP p r).Wait r.Seq = true by rw [show (offP p r).Wait = insW r p.Wait from rfl, hasW_ins, decide_eq_true rfl]; rfl)]
  · rw [if_neg hc]
    exact .inl ⟨1, by decide, rfl⟩
theorem few_ou {a : GR16Pipe} (h : a.Wait.length ≤ 12 ∧ a.Past.length ≤ 12 ∧ ∀ x ∈ a.Past, x.List.length ≤ 20) : FewP (ou a) ∧ FewR a := by
  refine ⟨⟨by show (a.Wait.map rq).length ≤ _; rw [List.length_map]; omega, by show (a.Past.map rp).length ≤ _; rw [List.length_map]; omega, fun x hx => ?_⟩, by omega, by omega, fun x hx => by have := h.2.2 x hx; omega⟩
  obtain ⟨y, hy, rfl⟩ := List.mem_map.1 (show x ∈ a.Past.map rp from hx)
  have := h.2.2 y hy
  show y.List.length ≤ _
  omega
theorem few_th {p : GPipePipe} (h : FewP p) : FewR (th p) := by
  have h1 := h.w
  have h2 := h.pl
  refine ⟨by show (p.Wait.map qr).length ≤ _; rw [List.length_map]; omega, by show (p.Past.map pr).length ≤ _; rw [List.length_map]; omega, fun x hx => ?_⟩
  obtain ⟨y, hy, rfl⟩ := List.mem_map.1 (show x ∈ p.Past.map pr from hx)
  exact h.v y hy
theorem offer_mk (p : GPipePipe) (r : GR05Req) (hf : FewP p) : m13_pipe_Offer (GPipePipe.mk (GSeqsWindow.mk p.Win.Base p.Win.Bits) p.Next p.Wait p.Past) (GMsgReq.mk r.Kind r.Seq r.Token r.Attempt r.RO r.Key r.Val (GApiRange.mk r.Rng.Lo r.Rng.Hi r.Rng.Open)) = some (offerM p (rq r)) := offer_m p (rq r) hf
theorem theirs_mk (p : GPipePipe) (hf : FewP p) : m22_l16_theirs (GPipePipe.mk (GSeqsWindow.mk p.Win.Base p.Win.Bits) p.Next p.Wait p.Past) = some (th p) := theirs_m p hf.w hf.pl
theorem same_mk (p q : GR16Pipe) (e : p = q) (hf : FewR q) : m21_r16_Same (GR16Pipe.mk (GR15Window.mk p.Win.Base p.Win.Bits) p.Next p.Wait p.Past) (GR16Pipe.mk (GR15Window.mk q.Win.Base q.Win.Bits) q.Next q.Wait q.Past) = some true := by subst e; exact same_self p hf
theorem saneP_mk (p : GPipePipe) (hf : FewP p) : m27_pipe_Sane (GPipePipe.mk (GSeqsWindow.mk p.Win.Base p.Win.Bits) p.Next p.Wait p.Past) = some (saneB p) := saneP_m p hf
theorem same_zero : m21_r16_Same (GR16Pipe.mk (GR15Window.mk (th zpipe).Win.Base (th zpipe).Win.Bits) (th zpipe).Next (th zpipe).Wait (th zpipe).Past) (GR16Pipe.mk (GR15Window.mk 0 (0#64)) 0 ([] : List GR05Req) ([] : List GR05Reply)) = some true := same_self (th zpipe) ⟨by decide, by decide, fun x hx => by cases hx⟩
theorem twice_k10 {p : GPipePipe} (hq : FewP p) (hs : SaneP p) (x y : GMsgReply) (h : Bool) : m6_l16_PipeTwice_k10 true (p, x, h, 0) (p, y, h, 0) () = some true := by
  unfold m6_l16_PipeTwice_k10
  simp only [if_true, decide_true, beq_self_eq_true]
  rw [theirs_mk p hq, saneP_mk p hq]
  simp only [Option.bind_some]
  rw [same_mk (th p) (th p) rfl (few_th hq), saneB_true.2 hs]
  rfl
theorem pipeTwice_true (a0 : GR16Pipe) (a1 : GR05Req) : m6_l16_PipeTwice a0 a1 = some true := by
  unfold m6_l16_PipeTwice
  rw [awake16]
  simp only [Option.bind_some]
  obtain ⟨b, hb, hfew⟩ := fewPipe_m a0
  rw [show m9_r16_Few _ = some b from hb]
  cases b
  · simp only [Option.bind_some, Bool.not_false, if_true]
  simp only [Option.bind_some, Bool.not_true, Bool.false_eq_true, if_false]
  obtain ⟨b, hb⟩ := few_m a1
  rw [show m10_r05_Few _ = some b from hb]
  cases b
  · simp only [Option.bind_some, Bool.not_false, if_true]
  simp only [Option.bind_some, Bool.not_true, Bool.false_eq_true, if_false]
  obtain ⟨hfp, hfr⟩ := few_ou (hfew rfl)
  unfold m6_l16_PipeTwice_k2
  rw [show m12_l16_ours _ = some (ou a0) from ours_m a0 hfr.w hfr.pl]
  simp only [Option.bind_some]
  unfold m14_l16_req
  simp only [Option.bind_some]
  rw [offer_mk (ou a0) a1 hfp]
  simp only [Option.bind_some]
  rcases offer_cases (ou a0) (rq a1) with ⟨e, he, h⟩ | ⟨hs, x, had, h⟩ | ⟨h, hs0, hs, h2⟩
  · rw [h]
    dsimp only
    rw [decide_eq_false he, if_pos (show (!false) = true from rfl), if_pos trivial, theirs_m zpipe (by decide) (by decide)]
    simp only [Option.bind_some]
    rw [same_zero]
    rfl
  · rw [h]
    dsimp only
    rw [decide_eq_true (show (0 : Int) = 0 from rfl), if_neg (show ¬ (!true) = true by simp)]
    rw [offer_mk (ou a0) a1 hfp, h]
    simp only [Option.bind_some]
    rw [twice_k10 hfp hs x x had]
    cases had
    · rfl
    · rw [if_pos rfl, theirs_mk (ou a0) hfp]
      simp only [Option.bind_some]
      rw [same_mk (th (ou a0)) a0 (th_ou a0) hfr]
      rfl
  · have hfo : FewP (offP (ou a0) (rq a1)) := offP_few hfp (by have := hs0.w8; omega) _
    rw [h]
    dsimp only
    rw [decide_eq_true (show (0 : Int) = 0 from rfl), if_neg (show ¬ (!true) = true by simp)]
    rw [offer_mk (offP (ou a0) (rq a1)) a1 hfo, h2]
    simp only [Option.bind_some]
    rw [twice_k10 hfo hs zreply zreply false]
    rfl
end Go.Proofs.YtlpanhfojeaamaaDoor.Abs
