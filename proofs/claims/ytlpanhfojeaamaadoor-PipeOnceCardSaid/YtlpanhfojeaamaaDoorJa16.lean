/-
  What is ready, and what is answered: the program's.
-/
import Derived.Test.YtlpanhfojeaamaaDoorX16
namespace Go.Proofs.YtlpanhfojeaamaaDoor.Abs

abbrev zq : GMsgReq := GMsgReq.mk 0 0 0 0 false ([] : List UInt8) ([] : List UInt8) (GApiRange.mk ([] : List UInt8) ([] : List UInt8) false)
noncomputable def readyM (p : GPipePipe) : GMsgReq × Bool := if posW p.Wait p.Next < 0 then (zq, false) else if saneB p = false then (zq, false) else (p.Wait.getD (posW p.Wait p.Next).toNat zq, true)
theorem posW_get {l : List GMsgReq} {s : Int} (h : ¬ posW l s < 0) : ∃ (j : Nat) (x : GMsgReq), posW l s = (j : Int) ∧ l[j]? = some x ∧ x.Seq = s := by
  cases hw : hasW l s
  · rw [posW_neg hw] at h; exact absurd (by decide) h
  · exact posW_pos hw
theorem ready_m (p : GPipePipe) (hf : FewP p) : m19_pipe_Ready p = some (readyM p) := by
  unfold m19_pipe_Ready readyM
  rw [show (GPipePipe.mk (GSeqsWindow.mk p.Win.Base p.Win.Bits) p.Next p.Wait p.Past) = p from mkp_eq p, waiting_m _ _ hf.w, saneP_m p hf]
  simp only [Option.bind_some]
  by_cases h : posW p.Wait p.Next < 0
  · rw [if_pos (decide_eq_true h), if_pos h]
  rw [if_neg (by rw [decide_eq_true_eq]; exact h), if_neg h]
  cases hs : saneB p
  · rfl
  rw [if_neg (by simp), if_neg (by simp)]
  unfold m19_pipe_Ready_k2
  obtain ⟨j, x, e, hx, _⟩ := posW_get h
  rw [e, idx_nat, hx, Int.toNat_natCast, List.getD_eq_getElem?_getD, hx]
  rfl
abbrev ansR (q : GMsgReq) (r : GMsgReply) : GMsgReply := GMsgReply.mk q.Kind q.Seq r.Code r.N r.Found r.Val r.List
def pastM (l : List GMsgReply) (r : GMsgReply) : List GMsgReply := (l ++ [r]).drop (l.length + 1 - 8)
def ansP (p : GPipePipe) (r : GMsgReply) : GPipePipe := GPipePipe.mk (GSeqsWindow.mk p.Win.Base p.Win.Bits) (p.Next + 1) (p.Wait.drop 1) (pastM p.Past r)
noncomputable def answerM (p : GPipePipe) (r : GMsgReply) : GPipePipe × GMsgReply × Int :=
  if saneB p = false then (zpipe, zreply, 1) else if (readyM p).2 = false then (zpipe, zreply, 7) else if saneRep (ansR (readyM p).1 r) = false then (zpipe, zreply, 1) else (ansP p (ansR (readyM p).1 r), ansR (readyM p).1 r, 0)
theorem own_eq (l : List GMsgReply) (n : Nat) (h : n = l.length + 1) (z : GMsgReply) : l.take (List.replicate n z).length ++ (List.replicate n z).drop l.length = l ++ [z] := by
  subst h
  rw [List.length_replicate, List.take_of_length_le (by omega), List.drop_replicate, show l.length + 1 - l.length = 1 from by omega]
  rfl
theorem passed_m (l : List GMsgReply) (r : GMsgReply) (hl : l.length ≤ 8) : m40_pipe_passed l r = some (pastM l r) := by
  unfold m40_pipe_passed pastM
  rw [wI_id (n := (l.length : Int) + 1) (by omega) (by omega), wI_id (by omega) (by omega), if_pos ⟨by omega, by omega, by omega⟩, show ((l.length : Int) + 1).toNat = l.length + 1 from by omega, own_eq l _ rfl, show (l.length : Int) + 1 - 1 = (l.length : Int) from by omega, idx_nat, Int.toNat_natCast]
  have hset : (l ++ [GMsgReply.mk 0 0 0 0 false ([] : List UInt8) ([] : List GApiKV)]).set l.length r = l ++ [r] := by
    rw [List.set_append_right _ _ (Nat.le_refl _), Nat.sub_self]; rfl
  rw [hset, List.getElem?_append_right (Nat.le_refl _), Nat.sub_self]
  simp only [List.getElem?_cons_zero, Option.bind_some]
  have hlen : (l ++ [r]).length = l.length + 1 := by rw [List.length_append, List.length_singleton]
  by_cases h : (l.length : Int) + 1 ≤ 8
  · rw [if_pos (decide_eq_true h), cut_of (by omega) (by omega) (by omega)]
    simp only [Option.bind_some]
    rw [if_pos ⟨by omega, by omega⟩, show l.length + 1 - 8 = 0 from by omega, List.drop_zero]
    rw [show (0 : Int).toNat = 0 from rfl, List.drop_zero, List.take_of_length_le (by omega)]
  · rw [if_neg (by rw [decide_eq_true_eq]; exact h), if_pos ⟨by decide, by omega, by omega⟩, show (1 : Int).toNat = 1 from rfl]
    have hL : ((l ++ [r]).drop 1).length = l.length := by rw [List.length_drop, hlen]; omega
    rw [cut_of (by omega) (by omega) (by rw [List.length_append, hL, List.length_drop]; omega)]
    simp only [Option.bind_some]
    rw [if_pos ⟨by omega, by rw [List.length_append, hL, List.length_drop]; omega⟩, show l.length + 1 - 8 = 1 from by omega]
    congr 1
    rw [show (0 : Int).toNat = 0 from rfl, List.drop_zero, Int.toNat_natCast, Nat.sub_zero, List.take_append_of_le_length (by omega), List.take_of_length_le (by omega)]
theorem answer_m (p : GPipePipe) (r : GMsgReply) (hf : FewP p) (hr : r.List.length ≤ 1000000) : m16_pipe_Answer p r = some (answerM p r) := by
  unfold m16_pipe_Answer answerM
  rw [show (GPipePipe.mk (GSeqsWindow.mk p.Win.Base p.Win.Bits) p.Next p.Wait p.Past) = p from mkp_eq p, saneP_m p hf, ready_m p hf]
  simp only [Option.bind_some]
  cases hs : saneB p
  · rfl
  rw [if_neg (show ¬ (!true) = true by simp), if_neg (show ¬ (true = false) by simp)]
  have hp := saneB_true.1 hs
  cases hq : (readyM p).2
  · rfl
  rw [if_neg (show ¬ (!true) = true by simp), if_neg (show ¬ (true = false) by simp), saneRep_m (ansR (readyM p).1 r) hr]
  simp only [Option.bind_some]
  show (if (!saneRep (ansR (readyM p).1 r)) = true then _ else _) = _
  cases hsr : saneRep (ansR (readyM p).1 r)
  · rfl
  rw [if_neg (show ¬ (!true) = true by simp), if_neg (show ¬ (true = false) by simp)]
  have hpos : ¬ posW p.Wait p.Next < 0 := fun h => by
    unfold readyM at hq
    rw [if_pos h] at hq; cases hq
  obtain ⟨j, x, _, hx, _⟩ := posW_get hpos
  have hl : j < p.Wait.length := (List.getElem?_eq_some_iff.1 hx).1
  have hw := hf.w
  have n0 := hp.n0
  have n1 := hp.n1
  have w8 := hp.w8
  have p8 := hp.p8
  rw [cut_of (by decide) (by omega) (by omega)]
  simp only [Option.bind_some]
  have e1 : List.take ((p.Wait.length : Int).toNat - (1 : Int).toNat) (List.drop (1 : Int).toNat p.Wait) = p.Wait.drop 1 := by
    rw [Int.toNat_natCast, show (1 : Int).toNat = 1 from rfl, List.take_of_length_le (by rw [List.length_drop]; omega)]
  rw [e1, m39_slices_Clone_m _ (by rw [List.length_drop]; omega), passed_m _ _ (by omega), wI_id (by omega) (by omega)]
  rfl
end Go.Proofs.YtlpanhfojeaamaaDoor.Abs
