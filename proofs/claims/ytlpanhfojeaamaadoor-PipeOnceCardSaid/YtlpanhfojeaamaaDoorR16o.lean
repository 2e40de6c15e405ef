/-
  PipeOnce: what stays true of a pipe that began empty.
-/
import Derived.Test.YtlpanhfojeaamaaDoorJa16
import Derived.Test.YtlpanhfojeaamaaDoorYf16
namespace Go.Proofs.YtlpanhfojeaamaaDoor.Abs

theorem awake16 : m8_l16_awake = some true := by decide +kernel
theorem sameRep_self (a : GMsgReply) (hl : a.List.length ≤ 1000000) : m30_msg_SameReply a a = some true := by
  unfold m30_msg_SameReply
  rw [decide_eq_true rfl, if_neg (show ¬ (!true) = true by simp)]
  obtain ⟨b, hb, hR⟩ := iter_inv (f := m30_msg_SameReply_s3 a a) (P := fun t => ∃ i : Nat, i ≤ a.List.length ∧ t = (i : Int)) (μ := fun t => a.List.length - t.toNat) (R := fun v => v = .inr ()) (by
    rintro _ ⟨i, hi, rfl⟩
    unfold m30_msg_SameReply_s3 m48_bytes_Equal
    rcases Nat.lt_or_ge i a.List.length with hlt | hge
    · rw [if_pos (decide_eq_true (by omega)), idx_nat, List.getElem?_eq_getElem hlt]
      simp only [Option.bind_some, beq_self_eq_true, Bool.not_true, Bool.false_eq_true, if_false]
      rw [wI_id (by omega) (by omega)]
      exact .inl ⟨_, rfl, ⟨i + 1, by omega, rfl⟩, by omega⟩
    · rw [if_neg (by rw [decide_eq_true_eq]; omega)]
      exact .inr (.inl ⟨(), rfl, rfl⟩)) fuel 0 ⟨0, Nat.zero_le _, rfl⟩ (lt_fuel (by omega))
  subst hR
  rw [hb]
  show m30_msg_SameReply_k1 a a () = some true
  unfold m30_msg_SameReply_k1 m48_bytes_Equal
  simp
theorem small_m (l : List GL16Act) : ∃ b, m29_l16_small l = some b ∧ (b = true → l.length ≤ 60 ∧ ∀ x ∈ l, x.Reply.List.length ≤ 20) := by
  unfold m29_l16_small
  by_cases h1 : (60 : Int) < (l.length : Int)
  · exact ⟨false, by rw [if_pos (decide_eq_true h1)], by simp⟩
  rw [if_neg (by rw [decide_eq_true_eq]; exact h1)]
  obtain ⟨b, hb, hR⟩ := iter_inv (f := m29_l16_small_s2 l) (P := fun s => ∃ i : Nat, i ≤ l.length ∧ s = (i : Int) ∧ ∀ j x, j < i → l[j]? = some x → x.Reply.List.length ≤ 20) (μ := fun s => l.length - s.toNat) (R := fun v => v = .inl false ∨ (v = .inr () ∧ ∀ x ∈ l, x.Reply.List.length ≤ 20))
    (fun s hs => by
      obtain ⟨i, hi, rfl, hlow⟩ := hs
      unfold m29_l16_small_s2
      by_cases h0 : i < l.length
      · rw [if_pos (by rw [decide_eq_true_eq]; omega), idx_nat, List.getElem?_eq_getElem h0]
        simp only [Option.bind_some]
        obtain ⟨q, hq⟩ := few_m (l[i]).Req
        rw [show m10_r05_Few _ = some q from hq]
        cases q
        · exact .inr (.inr ⟨false, rfl, .inl rfl⟩)
        simp only [Option.bind_some]
        obtain ⟨q, hq, hq2⟩ := fewReply_m (l[i]).Reply
        rw [show m11_r05_FewReply _ = some q from hq]
        cases q
        · exact .inr (.inr ⟨false, rfl, .inl rfl⟩)
        · refine .inl ⟨((i + 1 : Nat) : Int), by simp only [Option.bind_some]; rw [if_neg (by simp), if_neg (by simp), wI_id (by omega) (by omega)]; rfl, ⟨i + 1, by omega, rfl, fun j x hj hx => ?_⟩, by omega⟩
          by_cases e : j = i
          · subst e
            rw [List.getElem?_eq_getElem h0] at hx
            cases hx
            exact hq2 rfl
          · exact hlow j x (by omega) hx
      · refine .inr (.inl ⟨(), by rw [if_neg (by rw [decide_eq_true_eq]; omega)], .inr ⟨rfl, fun x hx => ?_⟩⟩)
        obtain ⟨j, hj, e⟩ := List.getElem_of_mem hx
        exact hlow j x (by omega) (by rw [List.getElem?_eq_getElem hj, e])) fuel 0 ⟨0, by omega, rfl, fun j x hj => by omega⟩ (lt_fuel (by omega))
  rw [hb]
  rcases hR with rfl | ⟨rfl, h⟩
  · exact ⟨false, rfl, by simp⟩
  · exact ⟨true, rfl, fun _ => ⟨by omega, h⟩⟩

/-! What stays true -/
structure Inv (p : GPipePipe) (gone : List GMsgReply) : Prop where
  s : SaneP p
  f : FewP p
  n : p.Next = gone.length
  e : ∀ s : Int, p.Next ≤ s → s ≤ 4294967295 → seenM p.Win.Base p.Win.Bits s = hasW p.Wait s
  g : p.Past = gone.drop (gone.length - 8)
theorem okPa_get : ∀ {s : Int} {l : List GMsgReply}, okPa s l = true → ∀ (i : Nat) (x : GMsgReply), l[i]? = some x → x.Seq = s + i
  | _, [], _, i, x, h => by cases i <;> cases h
  | s, r :: l, h, i, x, hx => by
    simp only [okPa, Bool.and_eq_true, decide_eq_true_eq] at h
    cases i with
    | zero => cases hx; rw [h.2.1]; simp
    | succ i =>
      have := okPa_get h.2.2 i x hx
      rw [this]; omega
theorem okPa_snoc : ∀ {s : Int} {l : List GMsgReply} {r : GMsgReply}, okPa s l = true → saneRep r = true → r.Seq = s + l.length → okPa s (l ++ [r]) = true
  | s, [], r, _, h1, h2 => by
    simp only [List.nil_append, okPa, Bool.and_eq_true, decide_eq_true_eq]
    exact ⟨h1, by rw [h2]; simp, trivial⟩
  | s, x :: l, r, h, h1, h2 => by
    simp only [List.cons_append, okPa, Bool.and_eq_true, decide_eq_true_eq] at h ⊢
    exact ⟨h.1, h.2.1, okPa_snoc h.2.2 h1 (by rw [h2, List.length_cons]; omega)⟩
theorem okPa_drop : ∀ {s : Int} {l : List GMsgReply} (k : Nat), okPa s l = true → okPa (s + k) (l.drop k) = true
  | s, [], k, _ => by rw [List.drop_nil]; rfl
  | s, x :: l, 0, h => by rw [List.drop_zero]; simpa using h
  | s, x :: l, k + 1, h => by
    simp only [okPa, Bool.and_eq_true] at h
    have := okPa_drop k h.2.2
    rw [List.drop_succ_cons, show s + ((k + 1 : Nat) : Int) = s + 1 + k from by omega]
    exact this
theorem Inv.past {p : GPipePipe} {gone : List GMsgReply} (h : Inv p gone) : (p.Past.length : Int) = min (gone.length : Int) 8 := by
  rw [h.g, List.length_drop]; omega
/-- What had passed is what was told. -/
theorem Inv.found {p : GPipePipe} {gone : List GMsgReply} (h : Inv p gone) {s : Int} {x : GMsgReply} (hx : (p.Past.find? fun y => decide (y.Seq = s)) = some x) : 0 ≤ s ∧ s < gone.length ∧ gone[s.toNat]? = some x ∧ x.List.length ≤ 1000000 := by
  have hm := List.mem_of_find?_eq_some hx
  have hs : x.Seq = s := by simpa using List.find?_some hx
  obtain ⟨i, hi, e⟩ := List.getElem_of_mem hm
  have hi' : p.Past[i]? = some x := by rw [List.getElem?_eq_getElem hi, e]
  have hq := okPa_get h.s.pa i x hi'
  have hp := h.past
  have hn := h.n
  have hg := h.g
  have : s = ((gone.length - 8 + i : Nat) : Int) := by omega
  refine ⟨by omega, by omega, ?_, h.f.v x hm⟩
  rw [hg, List.getElem?_drop] at hi'
  rw [this, Int.toNat_natCast]
  exact hi'
theorem Inv.kept {p : GPipePipe} {gone : List GMsgReply} (h : Inv p gone) {s : Int} (h0 : (gone.length : Int) - 8 ≤ s) (h1 : 0 ≤ s) (h2 : s < p.Next) : (p.Past.find? fun y => decide (y.Seq = s)) ≠ none := by
  intro hn
  have hp := h.past
  have hN := h.n
  obtain ⟨i, hi⟩ : ∃ i : Nat, s = p.Next - p.Past.length + i := ⟨(s - (p.Next - p.Past.length)).toNat, by omega⟩
  have hlt : i < p.Past.length := by omega
  have hx : p.Past[i]? = some p.Past[i] := List.getElem?_eq_getElem hlt
  have hq := okPa_get h.s.pa i _ hx
  have := List.find?_eq_none.1 hn p.Past[i] (List.getElem_mem hlt)
  simp only [decide_eq_true_eq] at this
  exact this (by rw [hq]; exact hi.symm)
theorem Inv.offer {p : GPipePipe} {gone : List GMsgReply} (h : Inv p gone) {r : GMsgReq} (hr : saneReq r = true) (h1 : ¬ r.Seq < p.Next) (h2 : hasW p.Wait r.Seq = false) (h3 : ¬ p.Next + 8 ≤ r.Seq) : Inv (offP p r) gone := by
  have hq := sane_seq hr
  obtain ⟨g1, g2, g3, g4, g5⟩ := win_accept h.s (by omega) (by omega) hq.2 h2
  obtain ⟨a1, a2, a3⟩ := accept_spec h.s.s g4
  refine ⟨offP_sane h.s hr h1 h2 h3, offP_few h.f (by have := h.s.w8; omega) r, h.n, fun s b1 b2 => ?_, h.g⟩
  show seenM (acceptM p.Win.Base p.Win.Bits r.Seq).1.1 (acceptM p.Win.Base p.Win.Bits r.Seq).1.2 s = hasW (insW r p.Wait) s
  rw [a3, hasW_ins, h.e s b1 b2]
  congr 1
  by_cases e : s = r.Seq
  · rw [decide_eq_true e, decide_eq_true e.symm]
  · rw [decide_eq_false e, decide_eq_false (fun h => e h.symm)]
theorem okW_up {N : Int} : ∀ {f : Int} {l : List GMsgReq}, okW N f l = true → okW (N + 1) f l = true
  | _, [], _ => rfl
  | f, r :: l, h => by
    simp only [okW, Bool.and_eq_true, Bool.not_eq_true', decide_eq_false_iff_not] at h ⊢
    exact ⟨h.1, h.2.1, by omega, okW_up h.2.2.2⟩
theorem okW_first {N f : Int} {l : List GMsgReq} (h : okW N f l = true) (hw : hasW l f = true) : ∃ x t, l = x :: t ∧ x.Seq = f ∧ okW N (f + 1) t = true ∧ saneReq x = true := by
  cases l with
  | nil => cases hw
  | cons x t =>
    simp only [okW, Bool.and_eq_true, Bool.not_eq_true', decide_eq_false_iff_not] at h
    have : x.Seq = f := by
      unfold hasW at hw
      rw [List.any_cons, Bool.or_eq_true] at hw
      rcases hw with hw | hw
      · exact of_decide_eq_true hw
      · obtain ⟨y, hy, he⟩ := List.any_eq_true.1 hw
        have := (okW_mem h.2.2.2 y hy).1
        have := of_decide_eq_true he
        omega
    exact ⟨x, t, rfl, this, by rw [← this]; exact h.2.2.2, h.1⟩
theorem Inv.answer {p : GPipePipe} {gone : List GMsgReply} (h : Inv p gone) (hw : hasW p.Wait p.Next = true) {r : GMsgReply} (hr : saneRep r = true) (hs : r.Seq = p.Next) (hl : r.List.length ≤ 1000000) (hg : gone.length ≤ 1000) : Inv (ansP p r) (gone ++ [r]) := by
  obtain ⟨x, t, hwt, hx, ht, hxs⟩ := okW_first h.s.w hw
  have hxq := sane_seq hxs
  have hpl := h.past
  have n0 := h.s.n0
  have hsn := (saneM_iff _ _).1 h.s.s
  have hb : p.Win.Base ≠ p.Next := fun e => by
    have hse := h.e p.Next (Int.le_refl _) (by omega)
    rw [hw, ← e] at hse
    unfold seenM at hse
    rw [decide_eq_false (show ¬ p.Win.Base < p.Win.Base by omega), show p.Win.Base - p.Win.Base = 0 from by omega, show (0 : Int).toNat = 0 from rfl, hsn.2.2.1] at hse
    simp at hse
  have hE : ∀ s : Int, p.Next + 1 ≤ s → s ≤ 4294967295 → seenM p.Win.Base p.Win.Bits s = hasW (p.Wait.drop 1) s := fun s b1 b2 => by
    rw [h.e s (by omega) b2, hwt]
    unfold hasW
    rw [List.any_cons, decide_eq_false (show ¬ x.Seq = s by omega), Bool.false_or]
    rfl
  have w8 := h.s.w8
  have p8 := h.s.p8
  have hlen : (pastM p.Past r).length = p.Past.length + 1 - (p.Past.length + 1 - 8) := by
    unfold pastM; rw [List.length_drop, List.length_append, List.length_singleton]
  have hs' : SaneP (ansP p r) := by
    refine ⟨by show 0 ≤ p.Next + 1; omega, by show p.Next + 1 ≤ _; omega, ?_, ?_, ?_, ?_, h.s.s, ?_, ?_, fun s b1 _ b3 => hE s b1 b3⟩
    · show okW (p.Next + 1) (p.Next + 1) (p.Wait.drop 1) = true
      rw [hwt]
      exact okW_up ht
    · show ((p.Wait.drop 1).length : Int) ≤ 8
      rw [List.length_drop]; omega
    · show okPa (p.Next + 1 - ((pastM p.Past r).length : Nat)) (pastM p.Past r) = true
      have := okPa_drop (p.Past.length + 1 - 8) (okPa_snoc h.s.pa hr (by rw [hs]; omega))
      rw [hlen]
      rw [show p.Next + 1 - ((p.Past.length + 1 - (p.Past.length + 1 - 8) : Nat) : Int) = p.Next - p.Past.length + ((p.Past.length + 1 - 8 : Nat) : Int) from by omega]
      exact this
    · show ((pastM p.Past r).length : Int) ≤ 8
      rw [hlen]; omega
    · show p.Next + 1 ≤ p.Win.Base
      have := h.s.b0
      omega
    · show p.Win.Base ≤ p.Next + 1 + 8
      have := h.s.b8
      omega
  refine ⟨hs', ⟨by show (p.Wait.drop 1).length ≤ _; rw [List.length_drop]; omega, by show (pastM p.Past r).length ≤ _; rw [hlen]; omega, fun y hy => ?_⟩, ?_, hE, ?_⟩
  · have hy' : y ∈ p.Past ++ [r] := List.mem_of_mem_drop (show y ∈ (p.Past ++ [r]).drop _ from hy)
    rcases List.mem_append.1 hy' with h' | h'
    · exact h.f.v y h'
    · rw [List.mem_singleton.1 h']; exact hl
  · show p.Next + 1 = _
    rw [h.n, List.length_append, List.length_singleton]; rfl
  · show pastM p.Past r = _
    unfold pastM
    rw [List.length_append, List.length_singleton]
    have hpl2 : p.Past.length = gone.length - (gone.length - 8) := by rw [h.g, List.length_drop]
    rw [hpl2, h.g, ← List.drop_append_of_le_length (by omega), List.drop_drop]
    congr 1
    omega
end Go.Proofs.YtlpanhfojeaamaaDoor.Abs
