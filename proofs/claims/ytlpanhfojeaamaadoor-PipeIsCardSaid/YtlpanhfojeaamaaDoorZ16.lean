/-
  What the laws of pipes share.
-/
import Derived.Test.YtlpanhfojeaamaaDoorY16
namespace Go.Proofs.YtlpanhfojeaamaaDoor.Abs

theorem awake16 : m8_l16_awake = some true := by decide +kernel
theorem few_ou {a : GR16Pipe} (h : a.Wait.length ≤ 12 ∧ a.Past.length ≤ 12 ∧ ∀ x ∈ a.Past, x.List.length ≤ 20) : FewP (ou a) ∧ FewR a := by
  refine ⟨⟨by show (a.Wait.map rq).length ≤ _; rw [List.length_map]; omega, by show (a.Past.map rp).length ≤ _; rw [List.length_map]; omega, fun x hx => ?_⟩, by omega, by omega, fun x hx => by have := h.2.2 x hx; omega⟩
  obtain ⟨y, hy, rfl⟩ := List.mem_map.1 (show x ∈ a.Past.map rp from hx)
  have := h.2.2 y hy
  show y.List.length ≤ _
  omega
theorem few_th {p : GPipePipe} (h : FewP p) : FewR (th p) := by
  have h1 := h.w
  have h2 := h.pl
  refine ⟨by show (p.Wait.map qr).length ≤ _; rw [List.length_map]; omega, by show (p.Past.map pr).length ≤ _; rw [List.length_map]; omega, fun x hx => ?_⟩
  obtain ⟨y, hy, rfl⟩ := List.mem_map.1 (show x ∈ p.Past.map pr from hx)
  exact h.v y hy
theorem offer_mk (p : GPipePipe) (r : GR05Req) (hf : FewP p) : m13_pipe_Offer (GPipePipe.mk (GSeqsWindow.mk p.Win.Base p.Win.Bits) p.Next p.Wait p.Past) (GMsgReq.mk r.Kind r.Seq r.Token r.Attempt r.RO r.Key r.Val (GApiRange.mk r.Rng.Lo r.Rng.Hi r.Rng.Open)) = some (offerM p (rq r)) := offer_m p (rq r) hf
theorem theirs_mk (p : GPipePipe) (hf : FewP p) : m22_l16_theirs (GPipePipe.mk (GSeqsWindow.mk p.Win.Base p.Win.Bits) p.Next p.Wait p.Past) = some (th p) := theirs_m p hf.w hf.pl
theorem same_mk (p q : GR16Pipe) (e : p = q) (hf : FewR q) : m21_r16_Same (GR16Pipe.mk (GR15Window.mk p.Win.Base p.Win.Bits) p.Next p.Wait p.Past) (GR16Pipe.mk (GR15Window.mk q.Win.Base q.Win.Bits) q.Next q.Wait q.Past) = some true := by subst e; exact same_self p hf
theorem saneP_mk (p : GPipePipe) (hf : FewP p) : m27_pipe_Sane (GPipePipe.mk (GSeqsWindow.mk p.Win.Base p.Win.Bits) p.Next p.Wait p.Past) = some (saneB p) := saneP_m p hf
end Go.Proofs.YtlpanhfojeaamaaDoor.Abs
