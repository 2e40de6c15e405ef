/-
  What is offered: the program's Offer as a plain function, and that what may be stays so.
-/
import Derived.Test.YtlpanhfojeaamaaDoorU16
import Derived.Test.YtlpanhfojeaamaaDoorS16
namespace Go.Proofs.YtlpanhfojeaamaaDoor.Abs

/-! In its place -/
def insW (r : GMsgReq) : List GMsgReq → List GMsgReq
  | [] => [r]
  | x :: l => if x.Seq < r.Seq then x :: insW r l else r :: x :: l
theorem insW_at (r : GMsgReq) : ∀ (l : List GMsgReq) (k : Nat), k ≤ l.length → (∀ i x, i < k → l[i]? = some x → x.Seq < r.Seq) → (∀ x, l[k]? = some x → ¬ x.Seq < r.Seq) → insW r l = l.take k ++ r :: l.drop k
  | [], k, hk, _, _ => by
    have : k = 0 := by simpa using hk
    subst this; rfl
  | x :: l, 0, _, _, h => by
    unfold insW
    rw [if_neg (h x rfl)]; rfl
  | x :: l, k + 1, hk, h, h2 => by
    unfold insW
    rw [if_pos (h 0 x (by omega) rfl), insW_at r l k (by simpa using hk) (fun i y hi hy => h (i + 1) y (by omega) hy) h2]
    rfl
theorem insW_len (r : GMsgReq) (l : List GMsgReq) : (insW r l).length = l.length + 1 := by
  induction l with
  | nil => rfl
  | cons x l ih => unfold insW; split <;> simp [ih]
theorem hasW_ins (r : GMsgReq) (l : List GMsgReq) (s : Int) : hasW (insW r l) s = (decide (r.Seq = s) || hasW l s) := by
  induction l with
  | nil => rfl
  | cons x l ih =>
    unfold insW
    split
    · unfold hasW at ih ⊢
      rw [List.any_cons, ih, List.any_cons, ← Bool.or_assoc, ← Bool.or_assoc, Bool.or_comm (decide (x.Seq = s))]
    · rfl
theorem okW_mem {N : Int} : ∀ {f : Int} {l : List GMsgReq}, okW N f l = true → ∀ x ∈ l, f ≤ x.Seq ∧ x.Seq < N + 8 ∧ saneReq x = true
  | _, [], _, _, hx => by cases hx
  | f, r :: l, h, x, hx => by
    simp only [okW, Bool.and_eq_true, Bool.not_eq_true', decide_eq_false_iff_not] at h
    rcases List.mem_cons.1 hx with rfl | hx
    · exact ⟨by omega, by omega, h.1⟩
    · obtain ⟨a1, a2, a3⟩ := okW_mem h.2.2.2 x hx
      exact ⟨by omega, a2, a3⟩
theorem okW_len {N : Int} : ∀ {f : Int} {l : List GMsgReq}, okW N f l = true → l ≠ [] → f + l.length ≤ N + 8
  | _, [], _, hx => absurd rfl hx
  | f, [r], h, _ => by
    simp only [okW, Bool.and_eq_true, Bool.not_eq_true', decide_eq_false_iff_not] at h
    simp only [List.length_singleton]; omega
  | f, r :: x :: l, h, _ => by
    have h' := h
    rw [okW] at h'
    simp only [Bool.and_eq_true, Bool.not_eq_true', decide_eq_false_iff_not] at h'
    have := okW_len h'.2.2.2 (by simp)
    simp only [List.length_cons] at this ⊢
    omega
theorem okW_ins {N : Int} {r : GMsgReq} (hr : saneReq r = true) (h8 : r.Seq < N + 8) : ∀ {f : Int} {l : List GMsgReq}, okW N f l = true → f ≤ r.Seq → hasW l r.Seq = false → okW N f (insW r l) = true
  | f, [], _, hf, _ => by
    simp only [insW, okW, Bool.and_eq_true, Bool.not_eq_true', decide_eq_false_iff_not]
    exact ⟨hr, by omega, by omega, trivial⟩
  | f, x :: l, h, hf, hn => by
    have h' := h
    simp only [okW, Bool.and_eq_true, Bool.not_eq_true', decide_eq_false_iff_not] at h
    unfold hasW at hn
    rw [List.any_cons, Bool.or_eq_false_iff] at hn
    have hne := of_decide_eq_false hn.1
    unfold insW
    by_cases hlt : x.Seq < r.Seq
    · rw [if_pos hlt]
      simp only [okW, Bool.and_eq_true, Bool.not_eq_true', decide_eq_false_iff_not]
      exact ⟨h.1, h.2.1, h.2.2.1, okW_ins hr h8 h.2.2.2 (by omega) hn.2⟩
    · rw [if_neg hlt]
      simp only [okW, Bool.and_eq_true, Bool.not_eq_true', decide_eq_false_iff_not]
      exact ⟨hr, by omega, by omega, h.1, by omega, h.2.2.1, h.2.2.2⟩
theorem inOrder_m (l : List GMsgReq) (r : GMsgReq) (hl : l.length ≤ 1000000) : m35_pipe_inOrder l r = some (insW r l) := by
  unfold m35_pipe_inOrder
  obtain ⟨k, hk, k1, hR⟩ := iterB_inv (f := m35_pipe_inOrder_s5 l r) (P := fun s => ∃ i : Nat, i ≤ l.length ∧ s = (i : Int) ∧ ∀ j x, j < i → l[j]? = some x → x.Seq < r.Seq) (μ := fun s => l.length - s.toNat)
    (R := fun v => ∃ k : Nat, v = (k : Int) ∧ k ≤ l.length ∧ insW r l = l.take k ++ r :: l.drop k) (by
    rintro _ ⟨i, hi, rfl, hlow⟩
    unfold m35_pipe_inOrder_s5
    rcases Nat.lt_or_ge i l.length with hlt | hge
    · rw [if_pos (decide_eq_true (by omega)), idx_nat, List.getElem?_eq_getElem hlt]
      simp only [Option.bind_some]
      by_cases h : (l[i]).Seq < r.Seq
      · rw [if_pos (decide_eq_true h), wI_id (by omega) (by omega)]
        refine .inl ⟨_, rfl, ⟨i + 1, by omega, rfl, fun j x hj hx => ?_⟩, by omega⟩
        by_cases e : j = i
        · subst e
          rw [List.getElem?_eq_getElem hlt] at hx
          cases hx
          exact h
        · exact hlow j x (by omega) hx
      · rw [if_neg (by rw [decide_eq_true_eq]; exact h)]
        refine .inr ⟨_, rfl, i, rfl, hi, insW_at r l i hi hlow fun x hx => ?_⟩
        rw [List.getElem?_eq_getElem hlt] at hx
        cases hx
        exact h
    · rw [if_neg (by rw [decide_eq_true_eq]; omega)]
      refine .inr ⟨_, rfl, i, rfl, hi, insW_at r l i hi hlow fun x hx => ?_⟩
      rw [List.getElem?_eq_none hge] at hx
      cases hx) fuel 0 ⟨0, Nat.zero_le _, rfl, fun j x hj => by omega⟩ (lt_fuel (by omega))
  obtain ⟨rfl, hkl, hins⟩ := hR
  rw [hk]
  simp only [Option.bind_some]
  unfold m35_pipe_inOrder_k1
  rw [cut_of (by omega) (by omega) (by omega), cut_of (by omega) (by omega) (by omega)]
  simp only [Option.bind_some]
  have e1 : List.take ((k1 : Int).toNat - (0 : Int).toNat) (List.drop (0 : Int).toNat l) = l.take k1 := by simp
  have e2 : List.take (((l.length : Nat) : Int).toNat - (k1 : Int).toNat) (List.drop (k1 : Int).toNat l) = l.drop k1 := by
    rw [Int.toNat_natCast, Int.toNat_natCast, List.take_of_length_le (by rw [List.length_drop]; omega)]
  rw [e1, e2]
  have ef : ([l.take k1, [mkr r], l.drop k1] : List (List GMsgReq)).flatten = insW r l := by
    rw [hins, mkr_eq]; simp
  rw [show m66_slices_Concat _ = some _ from m66_slices_Concat_m [l.take k1, [mkr r], l.drop k1] (by rw [ef, insW_len]; omega) (by simp), ef]
  rfl

/-! Offer -/
abbrev zpipe : GPipePipe := GPipePipe.mk (GSeqsWindow.mk 0 (0#64)) 0 ([] : List GMsgReq) ([] : List GMsgReply)
abbrev zreply : GMsgReply := GMsgReply.mk 0 0 0 0 false ([] : List UInt8) ([] : List GApiKV)
def offP (p : GPipePipe) (r : GMsgReq) : GPipePipe := GPipePipe.mk (GSeqsWindow.mk (acceptM p.Win.Base p.Win.Bits r.Seq).1.1 (acceptM p.Win.Base p.Win.Bits r.Seq).1.2) p.Next (insW r p.Wait) p.Past
def offer1 (p : GPipePipe) (r : GMsgReq) : GPipePipe × GMsgReply × Bool × Int :=
  match p.Past.find? fun x => decide (x.Seq = r.Seq) with
  | some x => (p, x, true, 0)
  | none => if r.Seq < p.Next then (zpipe, zreply, false, 7) else if hasW p.Wait r.Seq = true then (p, zreply, false, 0) else if p.Next + 8 ≤ r.Seq then (zpipe, zreply, false, 8) else (offP p r, zreply, false, 0)
noncomputable def offerM (p : GPipePipe) (r : GMsgReq) : GPipePipe × GMsgReply × Bool × Int := if saneB p = true ∧ saneReq r = true then offer1 p r else (zpipe, zreply, false, 1)
theorem win_accept {p : GPipePipe} (hp : SaneP p) {s : Int} (h0 : p.Next ≤ s) (h1 : s < p.Next + 8) (h2 : s ≤ 4294967295) (hn : hasW p.Wait s = false) :
    saneSeqM s = true ∧ seenM p.Win.Base p.Win.Bits s = false ∧ s - p.Win.Base < 64 ∧ (acceptM p.Win.Base p.Win.Bits s).2 = 0 ∧ p.Win.Base ≤ (acceptM p.Win.Base p.Win.Bits s).1.1 := by
  have hq : saneSeqM s = true := (saneSeqM_iff s).2 ⟨by have := hp.n0; omega, h2⟩
  have hse : seenM p.Win.Base p.Win.Bits s = false := by rw [hp.e s h0 (by omega) h2]; exact hn
  have h64 : s - p.Win.Base < 64 := by have := hp.b0; omega
  exact ⟨hq, hse, h64, accept_zero hp.s hq hse h64⟩
theorem offer_m (p : GPipePipe) (r : GMsgReq) (hf : FewP p) : m13_pipe_Offer p r = some (offerM p r) := by
  unfold m13_pipe_Offer offerM
  rw [show (GPipePipe.mk (GSeqsWindow.mk p.Win.Base p.Win.Bits) p.Next p.Wait p.Past) = p from mkp_eq p, saneP_m p hf, saneReq_m]
  simp only [Option.bind_some]
  rw [show (GMsgReq.mk r.Kind r.Seq r.Token r.Attempt r.RO r.Key r.Val (GApiRange.mk r.Rng.Lo r.Rng.Hi r.Rng.Open)) = r from mkr_eq r]
  cases hsp : saneB p with
  | false => rw [if_pos (show (!false) = true from rfl), if_neg (fun h => absurd h.1 (by simp))]
  | true =>
    cases hsr : saneReq r with
    | false => rw [if_neg (show ¬ (!true) = true by simp), if_pos (show (!false) = true from rfl), if_neg (fun h => absurd h.2 (by simp))]
    | true =>
      have hp := saneB_true.1 hsp
      rw [if_neg (show ¬ (!true) = true by simp), if_neg (show ¬ (!true) = true by simp), if_pos ⟨rfl, rfl⟩]
      unfold m13_pipe_Offer_k1 offer1
      have hpl := hf.pl
      obtain ⟨b, hb, hR⟩ := iter_inv (f := m13_pipe_Offer_s6 p r) (P := fun t => ∃ i : Nat, i ≤ p.Past.length ∧ t = (i : Int) ∧ (p.Past.find? fun x => decide (x.Seq = r.Seq)) = (p.Past.drop i).find? fun x => decide (x.Seq = r.Seq)) (μ := fun t => p.Past.length - t.toNat)
        (R := fun v => match v with | .inl v => ∃ x, (p.Past.find? fun x => decide (x.Seq = r.Seq)) = some x ∧ v = (p, x, true, 0) | .inr _ => (p.Past.find? fun x => decide (x.Seq = r.Seq)) = none) (by
        rintro _ ⟨i, hi, rfl, he⟩
        unfold m13_pipe_Offer_s6
        rcases Nat.lt_or_ge i p.Past.length with hlt | hge
        · rw [if_pos (decide_eq_true (by omega)), idx_nat, List.getElem?_eq_getElem hlt]
          simp only [Option.bind_some]
          rw [List.drop_eq_getElem_cons hlt, List.find?_cons] at he
          by_cases h : (p.Past[i]).Seq = r.Seq
          · rw [decide_eq_true h] at he ⊢
            rw [if_pos rfl]
            exact .inr (.inr ⟨_, rfl, _, he, rfl⟩)
          · rw [decide_eq_false h] at he ⊢
            rw [if_neg (by simp), wI_id (by omega) (by omega)]
            exact .inl ⟨_, rfl, ⟨i + 1, by omega, rfl, he⟩, by omega⟩
        · rw [if_neg (by rw [decide_eq_true_eq]; omega)]
          rw [List.drop_eq_nil_of_le hge] at he
          exact .inr (.inl ⟨(), rfl, he⟩)) fuel 0 ⟨0, Nat.zero_le _, rfl, rfl⟩ (lt_fuel (by omega))
      rw [hb]
      cases b with
      | inl v =>
        obtain ⟨x, hx, rfl⟩ := hR
        rw [hx]; rfl
      | inr u =>
        rw [show (p.Past.find? fun x => decide (x.Seq = r.Seq)) = none from hR]
        simp only [Option.bind_some]
        unfold m13_pipe_Offer_k2
        have hq := sane_seq hsr
        have n0 := hp.n0
        have n1 := hp.n1
        by_cases h1 : r.Seq < p.Next
        · rw [if_pos (decide_eq_true h1), if_pos h1]
        rw [if_neg (by rw [decide_eq_true_eq]; exact h1), if_neg h1, show (GPipePipe.mk (GSeqsWindow.mk p.Win.Base p.Win.Bits) p.Next p.Wait p.Past) = p from mkp_eq p, waiting_m _ _ hf.w]
        simp only [Option.bind_some]
        rw [posW_nonneg]
        by_cases h2 : hasW p.Wait r.Seq = true
        · rw [if_pos h2, if_pos h2]
        rw [if_neg h2, if_neg h2, wI_id (by omega) (by omega)]
        by_cases h3 : p.Next + 8 ≤ r.Seq
        · rw [if_pos (decide_eq_true h3), if_pos h3]
        rw [if_neg (by rw [decide_eq_true_eq]; exact h3), if_neg h3, accept_m]
        simp only [Option.bind_some]
        obtain ⟨_, _, _, hz, _⟩ := win_accept hp (by omega) (by omega) hq.2 (by simpa using h2)
        rw [hz, show (GMsgReq.mk r.Kind r.Seq r.Token r.Attempt r.RO r.Key r.Val (GApiRange.mk r.Rng.Lo r.Rng.Hi r.Rng.Open)) = r from mkr_eq r, inOrder_m _ _ hf.w]
        rfl
theorem offP_sane {p : GPipePipe} (hp : SaneP p) {r : GMsgReq} (hr : saneReq r = true) (h1 : ¬ r.Seq < p.Next) (h2 : hasW p.Wait r.Seq = false) (h3 : ¬ p.Next + 8 ≤ r.Seq) : SaneP (offP p r) := by
  have hq := sane_seq hr
  obtain ⟨g1, g2, g3, g4, g5⟩ := win_accept hp (by omega) (by omega) hq.2 h2
  obtain ⟨a1, a2, a3⟩ := accept_spec hp.s g4
  have hw : okW p.Next p.Next (insW r p.Wait) = true := okW_ins hr (by omega) hp.w (by omega) h2
  have hE : WinOk (offP p r) := fun s b1 b2 b3 => by
    show seenM (acceptM p.Win.Base p.Win.Bits r.Seq).1.1 (acceptM p.Win.Base p.Win.Bits r.Seq).1.2 s = hasW (insW r p.Wait) s
    rw [a3, hasW_ins, hp.e s b1 b2 b3]
    congr 1
    by_cases e : s = r.Seq
    · rw [decide_eq_true e, decide_eq_true e.symm]
    · rw [decide_eq_false e, decide_eq_false (fun h => e h.symm)]
  refine ⟨hp.n0, hp.n1, hw, ?_, hp.pa, hp.p8, a1, by have := hp.b0; show p.Next ≤ (acceptM p.Win.Base p.Win.Bits r.Seq).1.1; omega, ?_, hE⟩
  · have := okW_len hw (by intro h; have := insW_len r p.Wait; rw [h] at this; simp at this)
    show ((insW r p.Wait).length : Int) ≤ 8
    omega
  · show (acceptM p.Win.Base p.Win.Bits r.Seq).1.1 ≤ p.Next + 8
    apply Classical.byContradiction
    intro hgt
    have s1 := (saneM_iff _ _).1 a1
    have hsq : saneSeqM (p.Next + 8) = true := (saneSeqM_iff _).2 ⟨by have := hp.n0; omega, by omega⟩
    have hseen : seenM (acceptM p.Win.Base p.Win.Bits r.Seq).1.1 (acceptM p.Win.Base p.Win.Bits r.Seq).1.2 (p.Next + 8) = true := by
      unfold seenM
      rw [a1, hsq, decide_eq_true (by omega)]; rfl
    have := hE (p.Next + 8) (by show p.Next ≤ _; omega) (by show _ < p.Next + 64; omega) (by omega)
    rw [show seenM (offP p r).Win.Base (offP p r).Win.Bits (p.Next + 8) = true from hseen] at this
    unfold hasW at this
    obtain ⟨x, hx, he⟩ := List.any_eq_true.1 this.symm
    have := (okW_mem hw x hx).2.1
    have := of_decide_eq_true he
    omega
theorem offP_few {p : GPipePipe} (hf : FewP p) (h8 : p.Wait.length ≤ 8) (r : GMsgReq) : FewP (offP p r) := ⟨by show (insW r p.Wait).length ≤ _; rw [insW_len]; omega, hf.pl, hf.v⟩
end Go.Proofs.YtlpanhfojeaamaaDoor.Abs
