/-
  The document's pipes: its Sane and its Offer are the program's.
-/
import Derived.Test.YtlpanhfojeaamaaDoorY16
import Derived.Test.YtlpanhfojeaamaaDoorG16
import Derived.Test.YtlpanhfojeaamaaDoorPb16
namespace Go.Proofs.YtlpanhfojeaamaaDoor.Abs

theorem waits_m (a : GR16Pipe) (s : Int) (hl : a.Wait.length ≤ 1000000) : m36_r16_waits a s = some (posW (a.Wait.map rq) s) := by
  unfold m36_r16_waits
  have hlen : (a.Wait.map rq).length = a.Wait.length := List.length_map ..
  obtain ⟨b, hb, hR⟩ := iter_inv (f := m36_r16_waits_s2 a s) (P := fun t => ∃ i : Nat, i ≤ a.Wait.length ∧ t = (i : Int) ∧ posW (a.Wait.map rq) s = posFrom i s ((a.Wait.map rq).drop i)) (μ := fun t => a.Wait.length - t.toNat) (R := fun r => match r with | .inl r => r = posW (a.Wait.map rq) s | .inr _ => posW (a.Wait.map rq) s = -1)
    (fun t ht => by
      obtain ⟨i, hi, rfl, he⟩ := ht
      unfold m36_r16_waits_s2
      rcases Nat.lt_or_ge i a.Wait.length with hlt | hge
      · rw [if_pos (decide_eq_true (by omega)), idx_nat, List.getElem?_eq_getElem hlt]
        simp only [Option.bind_some]
        rw [List.drop_eq_getElem_cons (by rw [hlen]; exact hlt), posFrom, List.getElem_map] at he
        by_cases h : (a.Wait[i]).Seq = s
        · rw [if_pos (decide_eq_true h)]
          rw [if_pos (show (rq a.Wait[i]).Seq = s from h)] at he
          exact .inr (.inr ⟨_, rfl, he.symm⟩)
        · rw [if_neg (by rw [decide_eq_true_eq]; exact h), wI_id (by omega) (by omega)]
          rw [if_neg (show ¬ (rq a.Wait[i]).Seq = s from h)] at he
          exact .inl ⟨_, rfl, ⟨i + 1, by omega, rfl, he⟩, by omega⟩
      · rw [if_neg (by rw [decide_eq_true_eq]; omega)]
        rw [List.drop_eq_nil_of_le (by rw [hlen]; exact hge)] at he
        exact .inr (.inl ⟨(), rfl, he⟩)) fuel 0 ⟨0, Nat.zero_le _, rfl, rfl⟩ (lt_fuel (by omega))
  rw [hb]
  cases b with
  | inl r => rw [show r = _ from hR]; rfl
  | inr u => rw [show posW (a.Wait.map rq) s = -1 from hR]; rfl

theorem rwait_loop (a : GR16Pipe) (h0 : 0 ≤ a.Next) (h1 : a.Next ≤ 4294967296) (hl : a.Wait.length ≤ 1000000) : (iter (m28_r16_Sane_s15 a) fuel 0 = some (.inl false) ∧ okW a.Next a.Next (a.Wait.map rq) = false) ∨ (iter (m28_r16_Sane_s15 a) fuel 0 = some (.inr ()) ∧ okW a.Next a.Next (a.Wait.map rq) = true) := by
  have hlen : (a.Wait.map rq).length = a.Wait.length := List.length_map ..
  obtain ⟨b, hb, hR⟩ := iter_inv (f := m28_r16_Sane_s15 a) (P := fun t => ∃ (i : Nat) (f : Int), i ≤ a.Wait.length ∧ t = (i : Int) ∧ okW a.Next a.Next (a.Wait.map rq) = okW a.Next f ((a.Wait.map rq).drop i) ∧ (i = 0 → f = a.Next) ∧ ∀ x, 0 < i → a.Wait[i - 1]? = some x → f = x.Seq + 1 ∧ a.Next ≤ x.Seq) (μ := fun t => a.Wait.length - t.toNat) (R := fun r => (r = .inl false ∧ okW a.Next a.Next (a.Wait.map rq) = false) ∨ (r = .inr () ∧ okW a.Next a.Next (a.Wait.map rq) = true))
    (fun t ht => by
      obtain ⟨i, f, hi, rfl, he, hz, hp⟩ := ht
      unfold m28_r16_Sane_s15
      rcases Nat.lt_or_ge i a.Wait.length with hlt | hge
      · rw [if_pos (decide_eq_true (by omega)), idx_nat, List.getElem?_eq_getElem hlt]
        simp only [Option.bind_some]
        rw [show m31_r05_SaneReq _ = some (saneReq (rq a.Wait[i])) from saneRef_m _]
        simp only [Option.bind_some]
        rw [List.drop_eq_getElem_cons (by rw [hlen]; exact hlt), okW, List.getElem_map] at he
        have hx : a.Wait[i]? = some a.Wait[i] := List.getElem?_eq_getElem hlt
        generalize a.Wait[i] = x at he hx ⊢
        cases hs : saneReq (rq x)
        · rw [hs] at he
          exact .inr (.inr ⟨false, rfl, .inl ⟨rfl, he⟩⟩)
        rw [hs, Bool.true_and] at he
        have hq : 0 ≤ x.Seq ∧ x.Seq ≤ 4294967295 := sane_seq hs
        rw [show (rq x).Seq = x.Seq from rfl] at he
        rw [if_neg (by simp), wI_id (n := a.Next + 8) (by omega) (by omega)]
        have hfN : a.Next ≤ f := by
          rcases Nat.eq_zero_or_pos i with e | e
          · rw [hz e]; exact Int.le_refl _
          · have := hp _ e (List.getElem?_eq_getElem (show i - 1 < a.Wait.length by omega))
            omega
        by_cases h2 : x.Seq < a.Next
        · rw [if_pos (decide_eq_true h2)]
          rw [decide_eq_true (show x.Seq < f by omega)] at he
          exact .inr (.inr ⟨false, rfl, .inl ⟨rfl, he⟩⟩)
        rw [if_neg (by rw [decide_eq_true_eq]; exact h2)]
        by_cases h3 : a.Next + 8 ≤ x.Seq
        · rw [if_pos (decide_eq_true h3)]
          rw [decide_eq_true h3, Bool.not_true, Bool.false_and, Bool.and_false] at he
          exact .inr (.inr ⟨false, rfl, .inl ⟨rfl, he⟩⟩)
        rw [if_neg (by rw [decide_eq_true_eq]; exact h3)]
        rw [decide_eq_false h3, Bool.not_false, Bool.true_and] at he
        have next : ¬ x.Seq < f → (∃ (k : Nat) (g : Int), k ≤ a.Wait.length ∧ ((i : Int) + 1) = (k : Int) ∧ okW a.Next a.Next (a.Wait.map rq) = okW a.Next g ((a.Wait.map rq).drop k) ∧ (k = 0 → g = a.Next) ∧ ∀ y, 0 < k → a.Wait[k - 1]? = some y → g = y.Seq + 1 ∧ a.Next ≤ y.Seq) := fun h4 => by
          rw [decide_eq_false h4, Bool.not_false, Bool.true_and] at he
          refine ⟨i + 1, x.Seq + 1, by omega, rfl, he, fun h => by omega, fun y _ hy => ?_⟩
          rw [Nat.add_sub_cancel, hx] at hy
          cases hy
          exact ⟨rfl, by omega⟩
        by_cases hi0 : (0 : Int) < (i : Int)
        · rw [if_pos (decide_eq_true hi0), wI_id (n := (i : Int) - 1) (by omega) (by omega), show (i : Int) - 1 = ((i - 1 : Nat) : Int) from by omega, idx_nat, List.getElem?_eq_getElem (show i - 1 < a.Wait.length by omega)]
          simp only [Option.bind_some]
          have hy := hp _ (by omega) (List.getElem?_eq_getElem (show i - 1 < a.Wait.length by omega))
          by_cases h4 : x.Seq ≤ (a.Wait[i - 1]).Seq
          · rw [if_pos (decide_eq_true h4)]
            rw [decide_eq_true (show x.Seq < f by omega)] at he
            exact .inr (.inr ⟨false, rfl, .inl ⟨rfl, he⟩⟩)
          · rw [if_neg (by rw [decide_eq_true_eq]; exact h4), wI_id (by omega) (by omega)]
            exact .inl ⟨_, rfl, next (by omega), by omega⟩
        · rw [if_neg (by rw [decide_eq_true_eq]; exact hi0), wI_id (by omega) (by omega)]
          have := hz (by omega)
          exact .inl ⟨_, rfl, next (by omega), by omega⟩
      · rw [if_neg (by rw [decide_eq_true_eq]; omega)]
        rw [List.drop_eq_nil_of_le (by rw [hlen]; exact hge)] at he
        exact .inr (.inl ⟨(), rfl, .inr ⟨rfl, he⟩⟩)) fuel 0 ⟨0, a.Next, Nat.zero_le _, rfl, rfl, fun _ => rfl, fun x h => by omega⟩ (lt_fuel (by omega))
  rcases hR with ⟨rfl, h⟩ | ⟨rfl, h⟩
  · exact .inl ⟨hb, h⟩
  · exact .inr ⟨hb, h⟩
theorem rpast_loop (a : GR16Pipe) (h0 : 0 ≤ a.Next) (h1 : a.Next ≤ 4294967296) (hl : a.Past.length ≤ 1000000) (hv : ∀ x ∈ a.Past, x.List.length ≤ 1000000) : (iter (m28_r16_Sane_s10 a) fuel 0 = some (.inl false) ∧ okPa (a.Next - a.Past.length) (a.Past.map rp) = false) ∨ (iter (m28_r16_Sane_s10 a) fuel 0 = some (.inr ()) ∧ okPa (a.Next - a.Past.length) (a.Past.map rp) = true) := by
  have hlen : (a.Past.map rp).length = a.Past.length := List.length_map ..
  obtain ⟨b, hb, hR⟩ := iter_inv (f := m28_r16_Sane_s10 a) (P := fun t => ∃ i : Nat, i ≤ a.Past.length ∧ t = (i : Int) ∧ okPa (a.Next - a.Past.length) (a.Past.map rp) = okPa (a.Next - a.Past.length + i) ((a.Past.map rp).drop i)) (μ := fun t => a.Past.length - t.toNat) (R := fun r => (r = .inl false ∧ okPa (a.Next - a.Past.length) (a.Past.map rp) = false) ∨ (r = .inr () ∧ okPa (a.Next - a.Past.length) (a.Past.map rp) = true))
    (fun t ht => by
      obtain ⟨i, hi, rfl, he⟩ := ht
      unfold m28_r16_Sane_s10
      rcases Nat.lt_or_ge i a.Past.length with hlt | hge
      · rw [if_pos (decide_eq_true (by omega)), idx_nat, List.getElem?_eq_getElem hlt]
        simp only [Option.bind_some]
        rw [saneRefRep_m _ (hv _ (List.getElem_mem hlt))]
        simp only [Option.bind_some]
        rw [List.drop_eq_getElem_cons (by rw [hlen]; exact hlt), okPa, List.getElem_map] at he
        cases hs : saneRep (rp a.Past[i])
        · rw [hs] at he
          exact .inr (.inr ⟨false, rfl, .inl ⟨rfl, he⟩⟩)
        rw [hs, Bool.true_and, show (rp a.Past[i]).Seq = (a.Past[i]).Seq from rfl] at he
        rw [if_neg (by simp), wI_id (n := a.Next - _) (by omega) (by omega), wI_id (by omega) (by omega)]
        by_cases h2 : (a.Past[i]).Seq = a.Next - a.Past.length + i
        · rw [decide_eq_true h2, Bool.not_true, if_neg (by simp), wI_id (by omega) (by omega)]
          rw [decide_eq_true h2, Bool.true_and] at he
          exact .inl ⟨_, rfl, ⟨i + 1, by omega, rfl, by rw [he]; congr 1; omega⟩, by omega⟩
        · rw [decide_eq_false h2, Bool.not_false, if_pos rfl]
          rw [decide_eq_false h2] at he
          exact .inr (.inr ⟨false, rfl, .inl ⟨rfl, he⟩⟩)
      · rw [if_neg (by rw [decide_eq_true_eq]; omega)]
        rw [List.drop_eq_nil_of_le (by rw [hlen]; exact hge)] at he
        exact .inr (.inl ⟨(), rfl, .inr ⟨rfl, he⟩⟩)) fuel 0 ⟨0, Nat.zero_le _, rfl, by simp⟩ (lt_fuel (by omega))
  rcases hR with ⟨rfl, h⟩ | ⟨rfl, h⟩
  · exact .inl ⟨hb, h⟩
  · exact .inr ⟨hb, h⟩
theorem seen_below {b : Int} {u : BitVec 64} {s : Int} (hs : saneM b u = true) (h0 : 0 ≤ s) (h : s < b) : seenM b u s = true := by
  have g := (saneM_iff b u).1 hs
  have hq : saneSeqM s = true := (saneSeqM_iff s).2 ⟨h0, by omega⟩
  unfold seenM
  rw [hs, hq, decide_eq_true h]; rfl
theorem rwin_loop (a : GR16Pipe) (h0 : 0 ≤ a.Next) (h1 : a.Next ≤ 4294967296) (hl : a.Wait.length ≤ 1000000) (hs : saneM a.Win.Base a.Win.Bits = true) : ∃ b, m28_r16_Sane_k3 a () = some b ∧ (b = true ↔ a.Next ≤ a.Win.Base ∧ a.Win.Base ≤ a.Next + 8 ∧ WinOk (ou a)) := by
  unfold m28_r16_Sane_k3
  rw [wI_id (by omega) (by omega)]
  have hst : (if a.Next - 70 > 0 then a.Next - 70 else 0) = max 0 (a.Next - 70) := by
    split <;> omega
  rw [hst]
  obtain ⟨b, hb, hR⟩ := iter_inv (f := m28_r16_Sane_s5 a) (P := fun t => 0 ≤ t ∧ t ≤ a.Next + 64 ∧ ∀ s : Int, a.Next ≤ s → s < t → s ≤ 4294967295 → seenM a.Win.Base a.Win.Bits s = hasW (a.Wait.map rq) s) (μ := fun t => (a.Next + 64 - t).toNat) (R := fun r => (r = .inl false ∧ ¬ (a.Next ≤ a.Win.Base ∧ a.Win.Base ≤ a.Next + 8 ∧ WinOk (ou a))) ∨ (r = .inr () ∧ WinOk (ou a)))
    (fun t ht => by
      obtain ⟨g1, g2, g3⟩ := ht
      unfold m28_r16_Sane_s5
      rw [wI_id (n := a.Next + 64) (by omega) (by omega)]
      by_cases h4 : t < a.Next + 64
      · rw [if_pos (decide_eq_true h4)]
        by_cases h5 : t < 4294967296
        · rw [if_pos (decide_eq_true h5)]
          unfold m28_r16_Sane_k6
          rw [rseen_m]
          simp only [Option.bind_some]
          by_cases h6 : t < a.Next
          · rw [if_pos (decide_eq_true h6)]
            cases hse : seenM a.Win.Base a.Win.Bits t
            · rw [if_pos (by rfl)]
              refine .inr (.inr ⟨false, rfl, .inl ⟨rfl, fun h => ?_⟩⟩)
              rw [seen_below hs g1 (by omega)] at hse
              cases hse
            · rw [if_neg (by simp), wI_id (by omega) (by omega)]
              exact .inl ⟨_, rfl, ⟨by omega, by omega, fun s a1 a2 a3 => by omega⟩, by omega⟩
          · rw [if_neg (by rw [decide_eq_true_eq]; exact h6), show m36_r16_waits _ t = some (posW (a.Wait.map rq) t) from waits_m a t hl]
            simp only [Option.bind_some]
            rw [posW_nonneg]
            by_cases h7 : seenM a.Win.Base a.Win.Bits t = hasW (a.Wait.map rq) t
            · rw [if_neg (by rw [h7]; simp), wI_id (by omega) (by omega)]
              refine .inl ⟨_, rfl, ⟨by omega, by omega, fun s a1 a2 a3 => ?_⟩, by omega⟩
              by_cases e : s = t
              · rw [e]; exact h7
              · exact g3 s a1 (by omega) a3
            · rw [if_pos (by simpa using h7)]
              exact .inr (.inr ⟨false, rfl, .inl ⟨rfl, fun h => h7 (h.2.2 t (by show a.Next ≤ t; omega) h4 (by omega))⟩⟩)
        · rw [if_neg (by rw [decide_eq_true_eq]; exact h5)]
          exact .inr (.inl ⟨(), rfl, .inr ⟨rfl, fun s a1 a2 a3 => g3 s a1 (by omega) a3⟩⟩)
      · rw [if_neg (by rw [decide_eq_true_eq]; exact h4)]
        exact .inr (.inl ⟨(), rfl, .inr ⟨rfl, fun s a1 a2 a3 => g3 s a1 (by have : s < a.Next + 64 := a2; omega) a3⟩⟩)) fuel (max 0 (a.Next - 70)) ⟨by omega, by omega, fun s a1 a2 => by omega⟩ (lt_fuel (by omega))
  rw [hb]
  rcases hR with ⟨rfl, h⟩ | ⟨rfl, h⟩
  · exact ⟨false, rfl, ⟨fun h' => (by cases h'), fun h' => absurd h' h⟩⟩
  · simp only [Option.bind_some]
    unfold m28_r16_Sane_k4
    rw [wI_id (by omega) (by omega)]
    by_cases h2 : a.Next ≤ a.Win.Base
    · rw [if_pos (decide_eq_true h2)]
      exact ⟨_, rfl, by rw [decide_eq_true_eq]; exact ⟨fun h3 => ⟨h2, h3, h⟩, fun h3 => h3.2.1⟩⟩
    · rw [if_neg (by rw [decide_eq_true_eq]; exact h2)]
      exact ⟨false, rfl, ⟨fun h' => (by cases h'), fun h' => absurd h'.1 h2⟩⟩
theorem rsaneP_m (a : GR16Pipe) (hf : FewR a) : m28_r16_Sane a = some (saneB (ou a)) := by
  have hno : ¬ SaneP (ou a) → (some false : Option Bool) = some (saneB (ou a)) := fun h => by rw [saneB_false.2 h]
  have hwl : (ou a).Wait.length = a.Wait.length := List.length_map ..
  have hpl : (ou a).Past.length = a.Past.length := List.length_map ..
  unfold m28_r16_Sane
  rw [show m46_r15_Sane _ = some (saneM a.Win.Base a.Win.Bits) from rsane_m _ _]
  simp only [Option.bind_some]
  cases hs : saneM a.Win.Base a.Win.Bits
  · exact hno fun h => by have := h.s; rw [show saneM (ou a).Win.Base (ou a).Win.Bits = _ from hs] at this; cases this
  rw [if_neg (by simp)]
  by_cases h0 : a.Next < 0
  · rw [if_pos (decide_eq_true h0)]
    exact hno fun h => by have : 0 ≤ a.Next := h.n0; omega
  rw [if_neg (by rw [decide_eq_true_eq]; exact h0)]
  by_cases h1 : 4294967296 < a.Next
  · rw [if_pos (decide_eq_true h1)]
    exact hno fun h => by have : a.Next ≤ 4294967296 := h.n1; omega
  rw [if_neg (by rw [decide_eq_true_eq]; exact h1)]
  by_cases h2 : (8 : Int) < (a.Wait.length : Int)
  · rw [if_pos (decide_eq_true h2)]
    exact hno fun h => by have := h.w8; omega
  rw [if_neg (by rw [decide_eq_true_eq]; exact h2)]
  by_cases h3 : (8 : Int) < (a.Past.length : Int)
  · rw [if_pos (decide_eq_true h3)]
    exact hno fun h => by have := h.p8; omega
  rw [if_neg (by rw [decide_eq_true_eq]; exact h3)]
  unfold m28_r16_Sane_k1
  rcases rwait_loop a (by omega) (by omega) hf.w with ⟨hw, hw2⟩ | ⟨hw, hw2⟩
  · rw [hw]
    exact hno fun h => by have := h.w; rw [show okW (ou a).Next (ou a).Next (ou a).Wait = _ from hw2] at this; cases this
  rw [hw]
  simp only [Option.bind_some]
  unfold m28_r16_Sane_k2
  rcases rpast_loop a (by omega) (by omega) hf.pl hf.v with ⟨hp, hp2⟩ | ⟨hp, hp2⟩
  · rw [hp]
    exact hno fun h => by
      have := h.pa
      rw [hpl] at this
      rw [show okPa ((ou a).Next - a.Past.length) (ou a).Past = _ from hp2] at this; cases this
  rw [hp]
  simp only [Option.bind_some]
  obtain ⟨b, hb, hiff⟩ := rwin_loop a (by omega) (by omega) hf.w hs
  rw [hb]
  cases b with
  | true =>
    obtain ⟨a1, a2, a3⟩ := hiff.1 rfl
    rw [saneB_true.2 ⟨by show 0 ≤ a.Next; omega, by show a.Next ≤ _; omega, hw2, by rw [hwl]; omega, by rw [hpl]; exact hp2, by rw [hpl]; omega, hs, a1, a2, a3⟩]
  | false => exact hno fun h => by have := hiff.2 ⟨h.b0, h.b8, h.e⟩; cases this
end Go.Proofs.YtlpanhfojeaamaaDoor.Abs
