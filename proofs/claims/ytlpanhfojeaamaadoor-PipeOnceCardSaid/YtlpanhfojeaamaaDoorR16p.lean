/-
  PipeOnce.
-/
import Derived.Test.YtlpanhfojeaamaaDoorR16o
namespace Go.Proofs.YtlpanhfojeaamaaDoor.Abs

def rq0 (r : GR05Req) : GMsgReq := GMsgReq.mk r.Kind r.Seq r.Token r.Attempt r.RO r.Key r.Val (GApiRange.mk r.Rng.Lo r.Rng.Hi r.Rng.Open)
def rp0 (r : GR05Reply) : GMsgReply := GMsgReply.mk r.Kind r.Seq r.Code r.N r.Found r.Val r.List
theorem offer_mk0 (p : GPipePipe) (r : GR05Req) (hf : FewP p) : m13_pipe_Offer (GPipePipe.mk (GSeqsWindow.mk p.Win.Base p.Win.Bits) p.Next p.Wait p.Past) (GMsgReq.mk (rq0 r).Kind (rq0 r).Seq (rq0 r).Token (rq0 r).Attempt (rq0 r).RO (rq0 r).Key (rq0 r).Val (GApiRange.mk (rq0 r).Rng.Lo (rq0 r).Rng.Hi (rq0 r).Rng.Open)) = some (offerM p (rq0 r)) := offer_m p (rq0 r) hf
theorem answer_mk0 (p : GPipePipe) (r : GMsgReply) (hf : FewP p) (hr : r.List.length ≤ 1000000) : m16_pipe_Answer (GPipePipe.mk (GSeqsWindow.mk p.Win.Base p.Win.Bits) p.Next p.Wait p.Past) r = some (answerM p r) := answer_m p r hf hr
theorem ready_mk0 (p : GPipePipe) (hf : FewP p) : m19_pipe_Ready (GPipePipe.mk (GSeqsWindow.mk p.Win.Base p.Win.Bits) p.Next p.Wait p.Past) = some (readyM p) := ready_m p hf
theorem sane_mk0 (p : GPipePipe) (hf : FewP p) (hs : SaneP p) : m27_pipe_Sane (GPipePipe.mk (GSeqsWindow.mk p.Win.Base p.Win.Bits) p.Next p.Wait p.Past) = some true := (saneP_m p hf).trans (by rw [saneB_true.2 hs])
theorem ready_cases {p : GPipePipe} (hp : SaneP p) : (hasW p.Wait p.Next = false ∧ readyM p = (zq, false)) ∨ (hasW p.Wait p.Next = true ∧ ∃ x, readyM p = (x, true) ∧ x.Seq = p.Next) := by
  unfold readyM
  cases hw : hasW p.Wait p.Next
  · rw [posW_neg hw, if_pos (by decide)]
    exact .inl ⟨rfl, rfl⟩
  · obtain ⟨j, x, e, hx, hs⟩ := posW_pos hw
    rw [e, if_neg (by omega), saneB_true.2 hp, if_neg (by simp), Int.toNat_natCast, List.getD_eq_getElem?_getD, hx]
    exact .inr ⟨rfl, x, rfl, hs⟩
theorem offer_all {p : GPipePipe} (h : SaneP p) (r : GMsgReq) : offerM p r = (zpipe, zreply, false, 1) ∨ (∃ x, offerM p r = (p, x, true, 0) ∧ (p.Past.find? fun y => decide (y.Seq = r.Seq)) = some x) ∨ (offerM p r = (zpipe, zreply, false, 7) ∧ 0 ≤ r.Seq ∧ r.Seq < p.Next ∧ (p.Past.find? fun y => decide (y.Seq = r.Seq)) = none) ∨ offerM p r = (p, zreply, false, 0) ∨ offerM p r = (zpipe, zreply, false, 8) ∨ (offerM p r = (offP p r, zreply, false, 0) ∧ saneReq r = true ∧ ¬ r.Seq < p.Next ∧ hasW p.Wait r.Seq = false ∧ ¬ p.Next + 8 ≤ r.Seq) := by
  unfold offerM
  rw [saneB_true.2 h]
  cases hsr : saneReq r
  · rw [if_neg (fun h => absurd h.2 (by simp))]; exact .inl rfl
  rw [if_pos ⟨rfl, rfl⟩]
  have hq := sane_seq hsr
  unfold offer1
  cases hfi : p.Past.find? fun x => decide (x.Seq = r.Seq) with
  | some x => exact .inr (.inl ⟨x, rfl, rfl⟩)
  | none =>
    dsimp only
    by_cases h1 : r.Seq < p.Next
    · rw [if_pos h1]; exact .inr (.inr (.inl ⟨rfl, hq.1, h1, rfl⟩))
    rw [if_neg h1]
    by_cases h2 : hasW p.Wait r.Seq = true
    · rw [if_pos h2]; exact .inr (.inr (.inr (.inl rfl)))
    rw [if_neg h2]
    by_cases h3 : p.Next + 8 ≤ r.Seq
    · rw [if_pos h3]; exact .inr (.inr (.inr (.inr (.inl rfl))))
    rw [if_neg h3]
    exact .inr (.inr (.inr (.inr (.inr ⟨rfl, rfl, h1, by simpa using h2, h3⟩))))
abbrev stP (i : Nat) (p : GPipePipe) (g : List GMsgReply) : Int × Int × (BitVec 64) × Int × (List GMsgReq) × (List GMsgReply) × (List GMsgReply) := ((i : Int), p.Win.Base, p.Win.Bits, p.Next, p.Wait, p.Past, g)
def Good (i : Nat) (s : Int × Int × (BitVec 64) × Int × (List GMsgReq) × (List GMsgReply) × (List GMsgReply)) : Prop := ∃ p g, s = stP i p g ∧ Inv p g ∧ g.length ≤ i
theorem k17_m {i : Nat} (hi : i ≤ 60) (s4 : Int × Int × (BitVec 64) × Int × (List GMsgReq) × (List GMsgReply) × (List GMsgReply)) (g : List GMsgReply) (h1 : s4.1 = (i : Int)) (h2 : s4.2.2.2.2.2.2 = g) (p : GPipePipe) (h : Inv p g) : m4_l16_PipeOnce_k17 s4 (p.Win.Base, p.Win.Bits, p.Next, p.Wait, p.Past) = some (.cont (stP (i + 1) p g)) := by
  unfold m4_l16_PipeOnce_k17
  dsimp only
  rw [sane_mk0 p h.f h.s]
  simp only [Option.bind_some]
  rw [h2, h1, if_neg (show ¬ (!true) = true by simp), decide_eq_true h.n, if_neg (show ¬ (!true) = true by simp), wI_id (by omega) (by omega)]
  rfl
theorem step_offer {p : GPipePipe} {g : List GMsgReply} {i : Nat} {l : List GL16Act} (h : Inv p g) (hi : i ≤ 60) (hg : g.length ≤ i) {a : GL16Act} (ha : l[i]? = some a) (hlt : i < l.length) (hw : ¬ 2 < a.What) : ∃ s', m4_l16_PipeOnce_s4 l (stP i p g) = some (.cont s') ∧ Good (i + 1) s' := by
  unfold m4_l16_PipeOnce_s4
  rw [if_pos (decide_eq_true (by show (i : Int) < _; omega))]
  dsimp only
  rw [idx_nat, ha]
  simp only [Option.bind_some]
  rw [if_neg (by rw [decide_eq_true_eq]; exact hw), show m14_l16_req _ = some (rq0 a.Req) from rfl]
  simp only [Option.bind_some]
  rw [offer_mk0 p a.Req h.f]
  simp only [Option.bind_some]
  have hk : ∀ q : GPipePipe, Inv q g → ∃ s', m4_l16_PipeOnce_k17 (stP i p g) (q.Win.Base, q.Win.Bits, q.Next, q.Wait, q.Past) = some (.cont s') ∧ Good (i + 1) s' := fun q hq => ⟨_, k17_m hi _ g rfl rfl q hq, q, g, rfl, hq, by omega⟩
  have k0 : ∀ (x : GMsgReply) (d : Bool) (q : GPipePipe), Inv q g → ∃ s', m4_l16_PipeOnce_k16 (stP i p g) (q, x, d, 0) () = some (.cont s') ∧ Good (i + 1) s' := fun x d q hq => by
    unfold m4_l16_PipeOnce_k16
    dsimp only
    rw [decide_eq_true (show (0 : Int) = 0 from rfl), if_pos rfl]
    exact hk q hq
  have kn : ∀ (x : GMsgReply) (d : Bool) (q : GPipePipe) (e : Int), e ≠ 0 → ∃ s', m4_l16_PipeOnce_k16 (stP i p g) (q, x, d, e) () = some (.cont s') ∧ Good (i + 1) s' := fun x d q e he => by
    unfold m4_l16_PipeOnce_k16
    dsimp only
    rw [decide_eq_false he, if_neg (by simp)]
    exact hk p h
  have hsq : (rq0 a.Req).Seq = a.Req.Seq := rfl
  rcases offer_all h.s (rq0 a.Req) with e | ⟨x, e, hfi⟩ | ⟨e, hq0, h1, hfi⟩ | e | e | ⟨e, hsr, h1, h2, h3⟩
  · rw [e]
    dsimp only
    rw [if_neg (by simp), decide_eq_false (by decide), if_neg (by simp)]
    exact kn _ _ _ _ (by decide)
  · rw [hsq] at hfi
    obtain ⟨f1, f2, f3, f4⟩ := h.found hfi
    rw [e]
    dsimp only
    rw [if_pos rfl, if_neg (by rw [decide_eq_true_eq]; omega), if_neg (by rw [decide_eq_true_eq]; omega)]
    have hix : idx g a.Req.Seq = some x := by
      unfold idx
      rw [if_pos f1]; exact f3
    rw [hix]
    simp only [Option.bind_some]
    rw [sameRep_self x f4]
    simp only [Option.bind_some]
    rw [if_neg (show ¬ (!true) = true by simp), decide_eq_false (by decide), if_neg (by simp)]
    exact k0 _ _ p h
  · rw [hsq] at hq0 h1 hfi
    rw [e]
    dsimp only
    have hN := h.n
    have : ¬ (g.length : Int) - 8 ≤ a.Req.Seq := fun hge => h.kept hge hq0 h1 hfi
    rw [if_neg (by simp), decide_eq_true (show (7 : Int) = 7 from rfl), if_pos rfl, wI_id (by omega) (by omega), if_neg (by rw [decide_eq_true_eq]; exact this), if_neg (by rw [decide_eq_true_eq]; omega)]
    exact kn _ _ _ _ (by decide)
  · rw [e]
    dsimp only
    rw [if_neg (by simp), decide_eq_false (by decide), if_neg (by simp)]
    exact k0 _ _ p h
  · rw [e]
    dsimp only
    rw [if_neg (by simp), decide_eq_false (by decide), if_neg (by simp)]
    exact kn _ _ _ _ (by decide)
  · rw [e]
    dsimp only
    rw [if_neg (by simp), decide_eq_false (by decide), if_neg (by simp)]
    exact k0 _ _ _ (h.offer hsr h1 h2 h3)
theorem step_answer {p : GPipePipe} {g : List GMsgReply} {i : Nat} {l : List GL16Act} (h : Inv p g) (hi : i ≤ 60) (hg : g.length ≤ i) {a : GL16Act} (ha : l[i]? = some a) (hlt : i < l.length) (hw : 2 < a.What) (hr : a.Reply.List.length ≤ 20) : ∃ s', m4_l16_PipeOnce_s4 l (stP i p g) = some (.cont s') ∧ Good (i + 1) s' := by
  unfold m4_l16_PipeOnce_s4
  rw [if_pos (decide_eq_true (by show (i : Int) < _; omega))]
  dsimp only
  rw [idx_nat, ha]
  simp only [Option.bind_some]
  rw [if_pos (decide_eq_true hw), ready_mk0 p h.f]
  simp only [Option.bind_some]
  rw [show m17_l16_reply _ = some (rp0 a.Reply) from rfl]
  simp only [Option.bind_some]
  have hrl : (rp0 a.Reply).List.length ≤ 1000000 := by show a.Reply.List.length ≤ _; omega
  rw [answer_mk0 p _ h.f hrl]
  simp only [Option.bind_some]
  unfold answerM
  rw [saneB_true.2 h.s, if_neg (show ¬ (true = false) by simp)]
  have kn : ∀ (v6 : GMsgReq × Bool) (q : GPipePipe) (x : GMsgReply) (e : Int), e ≠ 0 → ∃ s', m4_l16_PipeOnce_k10 (stP i p g) v6 (q, x, e) () = some (.cont s') ∧ Good (i + 1) s' := fun v6 q x e he => by
    unfold m4_l16_PipeOnce_k10
    dsimp only
    rw [decide_eq_false he, if_neg (by simp), wI_id (by omega) (by omega)]
    exact ⟨_, rfl, p, g, rfl, h, by omega⟩
  rcases ready_cases h.s with ⟨_, e⟩ | ⟨hwt, x, e, hx⟩
  · rw [e]
    dsimp only
    rw [if_pos rfl, decide_eq_true (show (7 : Int) = 7 from rfl), if_neg (by simp), if_neg (by simp)]
    exact kn _ _ _ _ (by decide)
  · rw [e]
    dsimp only
    rw [if_neg (show ¬ (true = false) by simp)]
    have hsq : decide (x.Seq = (g.length : Int)) = true := decide_eq_true (by rw [hx, h.n])
    cases hsr : saneRep (ansR x (rp0 a.Reply))
    · rw [if_pos rfl]
      dsimp only
      rw [decide_eq_false (by decide), if_neg (by simp), if_pos rfl, hsq, if_neg (by simp)]
      exact kn _ _ _ _ (by decide)
    · rw [if_neg (show ¬ (true = false) by simp)]
      dsimp only
      rw [decide_eq_false (by decide), if_neg (by simp), if_pos rfl, hsq, if_neg (by simp)]
      unfold m4_l16_PipeOnce_k10
      dsimp only
      rw [decide_eq_true (show (0 : Int) = 0 from rfl), if_pos rfl, if_pos (by rw [List.length_singleton]; omega), decide_eq_true (show x.Seq = x.Seq from rfl), if_neg (by simp), decide_eq_true (show x.Kind = x.Kind from rfl), if_neg (by simp), wI_id (by omega) (by omega)]
      exact ⟨_, rfl, ansP p (ansR x (rp0 a.Reply)), g ++ [ansR x (rp0 a.Reply)], rfl, h.answer hwt hsr hx hrl (by omega), by rw [List.length_append, List.length_singleton]; omega⟩
theorem inv0 : Inv zpipe [] := by
  have hb : saneB zpipe = true := by
    have h1 := saneP_m zpipe ⟨by decide, by decide, fun x hx => by cases hx⟩
    have h2 : m27_pipe_Sane zpipe = some true := by decide +kernel
    rw [h2] at h1
    exact (Option.some.inj h1).symm
  refine ⟨saneB_true.1 hb, ⟨by decide, by decide, fun x hx => by cases hx⟩, rfl, fun s h1 h2 => ?_, rfl⟩
  have hs0 : 0 ≤ s := h1
  show seenM 0 0#64 s = false
  unfold seenM
  rw [decide_eq_false (show ¬ s < 0 by omega)]
  simp
theorem pipeOnce_true (a0 : List GL16Act) : m4_l16_PipeOnce a0 = some true := by
  unfold m4_l16_PipeOnce
  rw [awake16]
  simp only [Option.bind_some]
  obtain ⟨b, hb, hsm⟩ := small_m a0
  rw [hb]
  cases b
  · simp only [Option.bind_some, Bool.not_false, if_true]
  simp only [Option.bind_some, Bool.not_true, Bool.false_eq_true, if_false]
  obtain ⟨hl, hv⟩ := hsm rfl
  obtain ⟨v, hv2, e, rfl⟩ := iter_inv (f := m4_l16_PipeOnce_s4 a0) (P := fun s => ∃ i, i ≤ a0.length ∧ Good i s) (μ := fun s => a0.length - s.1.toNat) (R := fun v => ∃ e, v = .inr e)
    (fun s hs => by
      obtain ⟨i, hi, p, g, rfl, hI, hg⟩ := hs
      rcases Nat.lt_or_ge i a0.length with hlt | hge
      · left
        have ha : a0[i]? = some a0[i] := List.getElem?_eq_getElem hlt
        have hst : ∃ s', m4_l16_PipeOnce_s4 a0 (stP i p g) = some (.cont s') ∧ Good (i + 1) s' := by
          by_cases hw : 2 < (a0[i]).What
          · exact step_answer hI (by omega) hg ha hlt hw (hv _ (List.getElem_mem hlt))
          · exact step_offer hI (by omega) hg ha hlt hw
        obtain ⟨s', h1, h2⟩ := hst
        refine ⟨s', h1, ⟨i + 1, hlt, h2⟩, ?_⟩
        obtain ⟨p', g', rfl, _, _⟩ := h2
        show a0.length - ((i + 1 : Nat) : Int).toNat < a0.length - ((i : Nat) : Int).toNat
        omega
      · right; left
        refine ⟨(p.Win.Base, p.Win.Bits, p.Next, p.Wait, p.Past), ?_, _, rfl⟩
        unfold m4_l16_PipeOnce_s4
        rw [if_neg (by rw [decide_eq_true_eq]; show ¬ (i : Int) < _; omega)]) fuel (0, 0, 0#64, 0, ([] : List GMsgReq), ([] : List GMsgReply), ([] : List GMsgReply)) ⟨0, Nat.zero_le _, zpipe, [], rfl, inv0, Nat.le_refl _⟩ (lt_fuel (by dsimp only; omega))
  rw [hv2]
  rfl
end Go.Proofs.YtlpanhfojeaamaaDoor.Abs
