/-
  What is ready, and what is answered: the program's, and the document's.
-/
import Derived.Test.YtlpanhfojeaamaaDoorI16
namespace Go.Proofs.YtlpanhfojeaamaaDoor.Abs

abbrev zq : GMsgReq := GMsgReq.mk 0 0 0 0 false ([] : List UInt8) ([] : List UInt8) (GApiRange.mk ([] : List UInt8) ([] : List UInt8) false)
noncomputable def readyM (p : GPipePipe) : GMsgReq × Bool := if posW p.Wait p.Next < 0 then (zq, false) else if saneB p = false then (zq, false) else (p.Wait.getD (posW p.Wait p.Next).toNat zq, true)
theorem posW_get {l : List GMsgReq} {s : Int} (h : ¬ posW l s < 0) : ∃ (j : Nat) (x : GMsgReq), posW l s = (j : Int) ∧ l[j]? = some x ∧ x.Seq = s := by
  cases hw : hasW l s
  · rw [posW_neg hw] at h; exact absurd (by decide) h
  · exact posW_pos hw
theorem ready_m (p : GPipePipe) (hf : FewP p) : m19_pipe_Ready p = some (readyM p) := by
  unfold m19_pipe_Ready readyM
  rw [show (GPipePipe.mk (GSeqsWindow.mk p.Win.Base p.Win.Bits) p.Next p.Wait p.Past) = p from mkp_eq p, waiting_m _ _ hf.w, saneP_m p hf]
  simp only [Option.bind_some]
  by_cases h : posW p.Wait p.Next < 0
  · rw [if_pos (decide_eq_true h), if_pos h]
  rw [if_neg (by rw [decide_eq_true_eq]; exact h), if_neg h]
  cases hs : saneB p
  · rfl
  rw [if_neg (by simp), if_neg (by simp)]
  unfold m19_pipe_Ready_k2
  obtain ⟨j, x, e, hx, _⟩ := posW_get h
  rw [e, idx_nat, hx, Int.toNat_natCast, List.getD_eq_getElem?_getD, hx]
  rfl
theorem rready_m (a : GR16Pipe) (hf : FewR a) : m20_r16_Ready a = some (qr (readyM (ou a)).1, (readyM (ou a)).2) := by
  unfold m20_r16_Ready readyM
  rw [show m36_r16_waits _ a.Next = some (posW (a.Wait.map rq) a.Next) from waits_m a a.Next hf.w, show m28_r16_Sane _ = some (saneB (ou a)) from rsaneP_m a hf]
  simp only [Option.bind_some]
  rw [show (ou a).Next = a.Next from rfl, show (ou a).Wait = a.Wait.map rq from rfl]
  by_cases h : posW (a.Wait.map rq) a.Next < 0
  · rw [if_pos (decide_eq_true h), if_pos h]; rfl
  rw [if_neg (by rw [decide_eq_true_eq]; exact h), if_neg h]
  cases hs : saneB (ou a)
  · rfl
  rw [if_neg (by simp), if_neg (by simp)]
  unfold m20_r16_Ready_k2
  obtain ⟨j, x, e, hx, _⟩ := posW_get h
  rw [e, idx_nat, Int.toNat_natCast, List.getD_eq_getElem?_getD, hx]
  rw [List.getElem?_map] at hx
  cases hy : a.Wait[j]? with
  | none => rw [hy] at hx; cases hx
  | some y =>
    rw [hy] at hx
    cases hx
    show some (y, true) = some (qr (rq y), true)
    rw [qr_rq]

abbrev ansR (q : GMsgReq) (r : GMsgReply) : GMsgReply := GMsgReply.mk q.Kind q.Seq r.Code r.N r.Found r.Val r.List
def pastM (l : List GMsgReply) (r : GMsgReply) : List GMsgReply := (l ++ [r]).drop (l.length + 1 - 8)
def ansP (p : GPipePipe) (r : GMsgReply) : GPipePipe := GPipePipe.mk (GSeqsWindow.mk p.Win.Base p.Win.Bits) (p.Next + 1) (p.Wait.drop 1) (pastM p.Past r)
noncomputable def answerM (p : GPipePipe) (r : GMsgReply) : GPipePipe × GMsgReply × Int :=
  if saneB p = false then (zpipe, zreply, 1) else if (readyM p).2 = false then (zpipe, zreply, 7) else if saneRep (ansR (readyM p).1 r) = false then (zpipe, zreply, 1) else (ansP p (ansR (readyM p).1 r), ansR (readyM p).1 r, 0)
theorem own_eq (l : List GMsgReply) (n : Nat) (h : n = l.length + 1) (z : GMsgReply) : l.take (List.replicate n z).length ++ (List.replicate n z).drop l.length = l ++ [z] := by
  subst h
  rw [List.length_replicate, List.take_of_length_le (by omega), List.drop_replicate, show l.length + 1 - l.length = 1 from by omega]
  rfl
theorem passed_m (l : List GMsgReply) (r : GMsgReply) (hl : l.length ≤ 8) : m40_pipe_passed l r = some (pastM l r) := by
  unfold m40_pipe_passed pastM
  rw [wI_id (n := (l.length : Int) + 1) (by omega) (by omega), wI_id (by omega) (by omega), if_pos ⟨by omega, by omega, by omega⟩, show ((l.length : Int) + 1).toNat = l.length + 1 from by omega, own_eq l _ rfl, show (l.length : Int) + 1 - 1 = (l.length : Int) from by omega, idx_nat, Int.toNat_natCast]
  have hset : (l ++ [GMsgReply.mk 0 0 0 0 false ([] : List UInt8) ([] : List GApiKV)]).set l.length r = l ++ [r] := by
    rw [List.set_append_right _ _ (Nat.le_refl _), Nat.sub_self]; rfl
  rw [hset, List.getElem?_append_right (Nat.le_refl _), Nat.sub_self]
  simp only [List.getElem?_cons_zero, Option.bind_some]
  have hlen : (l ++ [r]).length = l.length + 1 := by rw [List.length_append, List.length_singleton]
  by_cases h : (l.length : Int) + 1 ≤ 8
  · rw [if_pos (decide_eq_true h), cut_of (by omega) (by omega) (by omega)]
    simp only [Option.bind_some]
    rw [if_pos ⟨by omega, by omega⟩, show l.length + 1 - 8 = 0 from by omega, List.drop_zero]
    rw [show (0 : Int).toNat = 0 from rfl, List.drop_zero, List.take_of_length_le (by omega)]
  · rw [if_neg (by rw [decide_eq_true_eq]; exact h), if_pos ⟨by decide, by omega, by omega⟩, show (1 : Int).toNat = 1 from rfl]
    have hL : ((l ++ [r]).drop 1).length = l.length := by rw [List.length_drop, hlen]; omega
    rw [cut_of (by omega) (by omega) (by rw [List.length_append, hL, List.length_drop]; omega)]
    simp only [Option.bind_some]
    rw [if_pos ⟨by omega, by rw [List.length_append, hL, List.length_drop]; omega⟩, show l.length + 1 - 8 = 1 from by omega]
    congr 1
    rw [show (0 : Int).toNat = 0 from rfl, List.drop_zero, Int.toNat_natCast, Nat.sub_zero, List.take_append_of_le_length (by omega), List.take_of_length_le (by omega)]
theorem answer_m (p : GPipePipe) (r : GMsgReply) (hf : FewP p) (hr : r.List.length ≤ 1000000) : m16_pipe_Answer p r = some (answerM p r) := by
  unfold m16_pipe_Answer answerM
  rw [show (GPipePipe.mk (GSeqsWindow.mk p.Win.Base p.Win.Bits) p.Next p.Wait p.Past) = p from mkp_eq p, saneP_m p hf, ready_m p hf]
  simp only [Option.bind_some]
  cases hs : saneB p
  · rfl
  rw [if_neg (show ¬ (!true) = true by simp), if_neg (show ¬ (true = false) by simp)]
  have hp := saneB_true.1 hs
  cases hq : (readyM p).2
  · rfl
  rw [if_neg (show ¬ (!true) = true by simp), if_neg (show ¬ (true = false) by simp), saneRep_m (ansR (readyM p).1 r) hr]
  simp only [Option.bind_some]
  show (if (!saneRep (ansR (readyM p).1 r)) = true then _ else _) = _
  cases hsr : saneRep (ansR (readyM p).1 r)
  · rfl
  rw [if_neg (show ¬ (!true) = true by simp), if_neg (show ¬ (true = false) by simp)]
  have hpos : ¬ posW p.Wait p.Next < 0 := fun h => by
    unfold readyM at hq
    rw [if_pos h] at hq; cases hq
  obtain ⟨j, x, _, hx, _⟩ := posW_get hpos
  have hl : j < p.Wait.length := (List.getElem?_eq_some_iff.1 hx).1
  have hw := hf.w
  have n0 := hp.n0
  have n1 := hp.n1
  have w8 := hp.w8
  have p8 := hp.p8
  rw [cut_of (by decide) (by omega) (by omega)]
  simp only [Option.bind_some]
  have e1 : List.take ((p.Wait.length : Int).toNat - (1 : Int).toNat) (List.drop (1 : Int).toNat p.Wait) = p.Wait.drop 1 := by
    rw [Int.toNat_natCast, show (1 : Int).toNat = 1 from rfl, List.take_of_length_le (by rw [List.length_drop]; omega)]
  rw [e1, m39_slices_Clone_m _ (by rw [List.length_drop]; omega), passed_m _ _ (by omega), wI_id (by omega) (by omega)]
  rfl
theorem ranswer_m (a : GR16Pipe) (r : GR05Reply) (hf : FewR a) (hr : r.List.length ≤ 1000000) : m18_r16_Answer a r = some (th (answerM (ou a) (rp r)).1, pr (answerM (ou a) (rp r)).2.1, (answerM (ou a) (rp r)).2.2) := by
  unfold m18_r16_Answer answerM
  rw [show m28_r16_Sane _ = some (saneB (ou a)) from rsaneP_m a hf, show m20_r16_Ready _ = _ from rready_m a hf]
  simp only [Option.bind_some]
  cases hs : saneB (ou a)
  · rfl
  rw [if_neg (show ¬ (!true) = true by simp), if_neg (show ¬ (true = false) by simp)]
  have hp := saneB_true.1 hs
  cases hq : (readyM (ou a)).2
  · rfl
  rw [if_neg (show ¬ (!true) = true by simp), if_neg (show ¬ (true = false) by simp), saneRefRep_m (GR05Reply.mk (qr (readyM (ou a)).1).Kind (qr (readyM (ou a)).1).Seq r.Code r.N r.Found r.Val r.List) hr]
  simp only [Option.bind_some]
  have ea : ∀ q : GMsgReq, rp (GR05Reply.mk (qr q).Kind (qr q).Seq r.Code r.N r.Found r.Val r.List) = ansR q (rp r) := fun q => rfl
  rw [ea]
  cases hsr : saneRep (ansR (readyM (ou a)).1 (rp r))
  · rfl
  rw [if_neg (show ¬ (!true) = true by simp), if_neg (show ¬ (true = false) by simp)]
  have hpos : ¬ posW (ou a).Wait (ou a).Next < 0 := fun h => by
    unfold readyM at hq
    rw [if_pos h] at hq; cases hq
  obtain ⟨j, x, _, hx, _⟩ := posW_get hpos
  have hl : j < (ou a).Wait.length := (List.getElem?_eq_some_iff.1 hx).1
  have hwl : (ou a).Wait.length = a.Wait.length := List.length_map ..
  have hpl : (ou a).Past.length = a.Past.length := List.length_map ..
  have hw := hf.w
  have n0 : 0 ≤ a.Next := hp.n0
  have n1 : a.Next ≤ 4294967296 := hp.n1
  have w8 := hp.w8
  have p8 := hp.p8
  rw [cut_of (by decide) (by omega) (by omega)]
  simp only [Option.bind_some]
  have e1 : List.take ((a.Wait.length : Int).toNat - (1 : Int).toNat) (List.drop (1 : Int).toNat a.Wait) = a.Wait.drop 1 := by
    rw [Int.toNat_natCast, show (1 : Int).toNat = 1 from rfl, List.take_of_length_le (by rw [List.length_drop]; omega)]
  rw [e1]
  generalize hrr : GR05Reply.mk (qr (readyM (ou a)).1).Kind (qr (readyM (ou a)).1).Seq r.Code r.N r.Found r.Val r.List = rr
  have hrr2 : ansR (readyM (ou a)).1 (rp r) = rp rr := by rw [← hrr]; rfl
  have hlen : (([] : List GR05Reply) ++ a.Past ++ [rr]).length = a.Past.length + 1 := by simp
  rw [if_pos (by rw [List.length_nil, List.length_drop]; omega), if_pos (by rw [List.length_nil]; omega), if_pos (by rw [List.length_append, List.length_nil, List.length_singleton]; omega), hlen, wI_id (by omega) (by omega), wI_id (n := a.Next + 1) (by omega) (by omega)]
  have hmx : (if ((a.Past.length + 1 : Nat) : Int) - 8 > 0 then ((a.Past.length + 1 : Nat) : Int) - 8 else 0) = ((a.Past.length + 1 - 8 : Nat) : Int) := by split <;> omega
  rw [hmx, cut_of (by omega) (by omega) (by omega)]
  simp only [Option.bind_some]
  rw [hrr2]
  have e2 : List.take (((a.Past.length + 1 : Nat) : Int).toNat - ((a.Past.length + 1 - 8 : Nat) : Int).toNat) (List.drop ((a.Past.length + 1 - 8 : Nat) : Int).toNat (([] : List GR05Reply) ++ a.Past ++ [rr])) = (a.Past ++ [rr]).drop (a.Past.length + 1 - 8) := by
    rw [Int.toNat_natCast, Int.toNat_natCast, List.nil_append, List.take_of_length_le (by rw [List.length_drop, List.length_append, List.length_singleton]; omega)]
  rw [e2, List.nil_append]
  show some (GR16Pipe.mk (GR15Window.mk a.Win.Base a.Win.Bits) (a.Next + 1) (a.Wait.drop 1) ((a.Past ++ [rr]).drop (a.Past.length + 1 - 8)), rr, (0 : Int)) = some (GR16Pipe.mk (GR15Window.mk a.Win.Base a.Win.Bits) (a.Next + 1) (((a.Wait.map rq).drop 1).map qr) ((((a.Past.map rp) ++ [rp rr]).drop ((a.Past.map rp).length + 1 - 8)).map pr), pr (rp rr), 0)
  rw [pr_rp, List.length_map, ← List.map_drop, List.map_map, show qr ∘ rq = id from funext qr_rq, List.map_id]
  have e3 : ((a.Past.map rp) ++ [rp rr]) = (a.Past ++ [rr]).map rp := by rw [List.map_append]; rfl
  rw [e3, ← List.map_drop, List.map_map, show pr ∘ rp = id from funext pr_rp, List.map_id]
end Go.Proofs.YtlpanhfojeaamaaDoor.Abs
