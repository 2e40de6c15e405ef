/-
  Pipes that may be: the program's Sane as a plain proposition.
-/
import Derived.Test.YtlpanhfojeaamaaDoorPa16
import Derived.Test.YtlpanhfojeaamaaDoorW16
namespace Go.Proofs.YtlpanhfojeaamaaDoor.Abs

abbrev mkr (u : GMsgReq) : GMsgReq := GMsgReq.mk u.Kind u.Seq u.Token u.Attempt u.RO u.Key u.Val (GApiRange.mk u.Rng.Lo u.Rng.Hi u.Rng.Open)
theorem mkr_eq (u : GMsgReq) : mkr u = u := by cases u; rfl
abbrev mkp (p : GPipePipe) : GPipePipe := GPipePipe.mk (GSeqsWindow.mk p.Win.Base p.Win.Bits) p.Next p.Wait p.Past
theorem mkp_eq (p : GPipePipe) : mkp p = p := by cases p; rfl

/-! Who waits -/
def hasW (l : List GMsgReq) (s : Int) : Bool := l.any fun r => decide (r.Seq = s)
/-- Where a number waits. -/
def posFrom (i : Nat) (s : Int) : List GMsgReq → Int
  | [] => -1
  | r :: l => if r.Seq = s then (i : Int) else posFrom (i + 1) s l
def posW (l : List GMsgReq) (s : Int) : Int := posFrom 0 s l
theorem posFrom_spec (s : Int) : ∀ (l : List GMsgReq) (i : Nat), (hasW l s = false ∧ posFrom i s l = -1) ∨ (hasW l s = true ∧ ∃ j x, posFrom i s l = ((i + j : Nat) : Int) ∧ l[j]? = some x ∧ x.Seq = s)
  | [], i => .inl ⟨rfl, rfl⟩
  | r :: l, i => by
    unfold posFrom hasW
    rw [List.any_cons]
    by_cases h : r.Seq = s
    · rw [if_pos h, decide_eq_true h]
      exact .inr ⟨rfl, 0, r, by rfl, rfl, h⟩
    · rw [if_neg h, decide_eq_false h, Bool.false_or]
      rcases posFrom_spec s l (i + 1) with ⟨h1, h2⟩ | ⟨h1, j, x, h2, h3, h4⟩
      · exact .inl ⟨h1, h2⟩
      · exact .inr ⟨h1, j + 1, x, by rw [h2]; omega, h3, h4⟩
theorem posW_neg {l : List GMsgReq} {s : Int} (h : hasW l s = false) : posW l s = -1 := by
  rcases posFrom_spec s l 0 with ⟨_, h2⟩ | ⟨h1, _⟩
  · exact h2
  · rw [h] at h1; cases h1
theorem posW_pos {l : List GMsgReq} {s : Int} (h : hasW l s = true) : ∃ (j : Nat) (x : GMsgReq), posW l s = (j : Int) ∧ l[j]? = some x ∧ x.Seq = s := by
  rcases posFrom_spec s l 0 with ⟨h1, _⟩ | ⟨_, j, x, h2, h3, h4⟩
  · rw [h] at h1; cases h1
  · exact ⟨j, x, by rw [show posW l s = _ from h2, Nat.zero_add], h3, h4⟩
theorem posW_nonneg (l : List GMsgReq) (s : Int) : decide (0 ≤ posW l s) = hasW l s := by
  cases h : hasW l s
  · rw [posW_neg h]; rfl
  · obtain ⟨j, x, e, _⟩ := posW_pos h
    rw [e]; exact decide_eq_true (by omega)
theorem waiting_m (p : GPipePipe) (s : Int) (hl : p.Wait.length ≤ 1000000) : m33_pipe_waiting p s = some (posW p.Wait s) := by
  unfold m33_pipe_waiting
  obtain ⟨b, hb, hR⟩ := iter_inv (f := m33_pipe_waiting_s2 p s) (P := fun t => ∃ i : Nat, i ≤ p.Wait.length ∧ t = (i : Int) ∧ posW p.Wait s = posFrom i s (p.Wait.drop i)) (μ := fun t => p.Wait.length - t.toNat) (R := fun r => match r with | .inl r => r = posW p.Wait s | .inr _ => posW p.Wait s = -1)
    (fun t ht => by
      obtain ⟨i, hi, rfl, he⟩ := ht
      unfold m33_pipe_waiting_s2
      rcases Nat.lt_or_ge i p.Wait.length with hlt | hge
      · rw [if_pos (decide_eq_true (by omega)), idx_nat, List.getElem?_eq_getElem hlt]
        simp only [Option.bind_some]
        rw [List.drop_eq_getElem_cons hlt, posFrom] at he
        by_cases h : (p.Wait[i]).Seq = s
        · rw [if_pos (decide_eq_true h)]
          rw [if_pos h] at he
          exact .inr (.inr ⟨_, rfl, he.symm⟩)
        · rw [if_neg (by rw [decide_eq_true_eq]; exact h), wI_id (by omega) (by omega)]
          rw [if_neg h] at he
          exact .inl ⟨_, rfl, ⟨i + 1, by omega, rfl, he⟩, by omega⟩
      · rw [if_neg (by rw [decide_eq_true_eq]; omega)]
        rw [List.drop_eq_nil_of_le hge] at he
        exact .inr (.inl ⟨(), rfl, he⟩)) fuel 0 ⟨0, Nat.zero_le _, rfl, rfl⟩ (lt_fuel (by omega))
  rw [hb]
  cases b with
  | inl r => rw [show r = _ from hR]; rfl
  | inr u => rw [show posW p.Wait s = -1 from hR]; rfl

/-! Those that wait -/
def okW (N : Int) : Int → List GMsgReq → Bool
  | _, [] => true
  | f, r :: l => saneReq r && (!decide (r.Seq < f) && (!decide (N + 8 ≤ r.Seq) && okW N (r.Seq + 1) l))
theorem sane_seq {r : GMsgReq} (h : saneReq r = true) : 0 ≤ r.Seq ∧ r.Seq ≤ 4294967295 := by
  unfold saneReq at h
  simp only [Bool.and_eq_true] at h
  simpa [within] using h.2.1
theorem saneWait_m (p : GPipePipe) (h0 : 0 ≤ p.Next) (h1 : p.Next ≤ 4294967296) (hl : p.Wait.length ≤ 1000000) : m43_pipe_saneWait p = some (okW p.Next p.Next p.Wait && decide ((p.Wait.length : Int) ≤ 8)) := by
  unfold m43_pipe_saneWait
  obtain ⟨b, hb, hR⟩ := iter_inv (f := m43_pipe_saneWait_s2 p) (P := fun t => ∃ i : Nat, i ≤ p.Wait.length ∧ t.2 = (i : Int) ∧ okW p.Next p.Next p.Wait = okW p.Next t.1 (p.Wait.drop i)) (μ := fun t => p.Wait.length - t.2.toNat) (R := fun r => match r with | .inl r => r = false ∧ okW p.Next p.Next p.Wait = false | .inr _ => okW p.Next p.Next p.Wait = true)
    (fun t ht => by
      obtain ⟨fr, ii⟩ := t
      obtain ⟨i, hi, he1, he⟩ := ht
      dsimp only at he1 he
      subst he1
      unfold m43_pipe_saneWait_s2
      rcases Nat.lt_or_ge i p.Wait.length with hlt | hge
      · rw [if_pos (decide_eq_true (by omega)), idx_nat, List.getElem?_eq_getElem hlt]
        simp only [Option.bind_some]
        rw [show m32_msg_SaneReq _ = some (saneReq (mkr p.Wait[i])) from saneReq_m _, mkr_eq]
        simp only [Option.bind_some]
        rw [List.drop_eq_getElem_cons hlt, okW] at he
        cases hs : saneReq p.Wait[i]
        · rw [hs] at he
          exact .inr (.inr ⟨false, rfl, rfl, he⟩)
        rw [hs, Bool.true_and] at he
        have hq := sane_seq hs
        by_cases h2 : (p.Wait[i]).Seq < fr
        · rw [if_neg (by simp), if_pos (decide_eq_true h2)]
          rw [decide_eq_true h2] at he
          exact .inr (.inr ⟨false, rfl, rfl, he⟩)
        rw [if_neg (by simp), if_neg (by rw [decide_eq_true_eq]; exact h2), wI_id (by omega) (by omega)]
        rw [decide_eq_false h2, Bool.not_false, Bool.true_and] at he
        by_cases h3 : p.Next + 8 ≤ (p.Wait[i]).Seq
        · rw [if_pos (decide_eq_true h3)]
          rw [decide_eq_true h3] at he
          exact .inr (.inr ⟨false, rfl, rfl, he⟩)
        rw [if_neg (by rw [decide_eq_true_eq]; exact h3)]
        rw [decide_eq_false h3, Bool.not_false, Bool.true_and] at he
        refine .inl ⟨((p.Wait[i]).Seq + 1, (i : Int) + 1), ?_, ⟨i + 1, by omega, rfl, he⟩, by dsimp only; omega⟩
        unfold m43_pipe_saneWait_k4
        rw [wI_id (by omega) (by omega), wI_id (by omega) (by omega)]
      · rw [if_neg (by rw [decide_eq_true_eq]; omega)]
        rw [List.drop_eq_nil_of_le hge] at he
        exact .inr (.inl ⟨(), rfl, he⟩)) fuel (p.Next, 0) ⟨0, Nat.zero_le _, rfl, rfl⟩ (lt_fuel (by dsimp only; omega))
  rw [hb]
  cases b with
  | inl r => obtain ⟨rfl, h⟩ := hR; rw [h]; rfl
  | inr u => rw [show okW p.Next p.Next p.Wait = true from hR]; rfl

/-! Those that passed -/
def okPa : Int → List GMsgReply → Bool
  | _, [] => true
  | s, r :: l => saneRep r && (decide (r.Seq = s) && okPa (s + 1) l)
theorem sanePast_m (p : GPipePipe) (h0 : 0 ≤ p.Next) (h1 : p.Next ≤ 4294967296) (hl : p.Past.length ≤ 1000000) (hv : ∀ x ∈ p.Past, x.List.length ≤ 1000000) : m44_pipe_sanePast p = some (okPa (p.Next - p.Past.length) p.Past && decide ((p.Past.length : Int) ≤ 8)) := by
  unfold m44_pipe_sanePast
  obtain ⟨b, hb, hR⟩ := iter_inv (f := m44_pipe_sanePast_s2 p) (P := fun t => ∃ i : Nat, i ≤ p.Past.length ∧ t = (i : Int) ∧ okPa (p.Next - p.Past.length) p.Past = okPa (p.Next - p.Past.length + i) (p.Past.drop i)) (μ := fun t => p.Past.length - t.toNat) (R := fun r => match r with | .inl r => r = false ∧ okPa (p.Next - p.Past.length) p.Past = false | .inr _ => okPa (p.Next - p.Past.length) p.Past = true)
    (fun t ht => by
      obtain ⟨i, hi, rfl, he⟩ := ht
      unfold m44_pipe_sanePast_s2
      rcases Nat.lt_or_ge i p.Past.length with hlt | hge
      · rw [if_pos (decide_eq_true (by omega)), idx_nat, List.getElem?_eq_getElem hlt]
        simp only [Option.bind_some]
        rw [saneRep_m _ (hv _ (List.getElem_mem hlt))]
        simp only [Option.bind_some]
        rw [List.drop_eq_getElem_cons hlt, okPa] at he
        cases hs : saneRep p.Past[i]
        · rw [hs] at he
          exact .inr (.inr ⟨false, rfl, rfl, he⟩)
        rw [hs, Bool.true_and] at he
        rw [if_neg (by simp), wI_id (n := p.Next - _) (by omega) (by omega), wI_id (by omega) (by omega)]
        by_cases h2 : (p.Past[i]).Seq = p.Next - p.Past.length + i
        · rw [decide_eq_true h2, Bool.not_true, if_neg (by simp), wI_id (by omega) (by omega)]
          rw [decide_eq_true h2, Bool.true_and] at he
          exact .inl ⟨_, rfl, ⟨i + 1, by omega, rfl, by rw [he]; congr 1; omega⟩, by omega⟩
        · rw [decide_eq_false h2, Bool.not_false, if_pos rfl]
          rw [decide_eq_false h2] at he
          exact .inr (.inr ⟨false, rfl, rfl, he⟩)
      · rw [if_neg (by rw [decide_eq_true_eq]; omega)]
        rw [List.drop_eq_nil_of_le hge] at he
        exact .inr (.inl ⟨(), rfl, he⟩)) fuel 0 ⟨0, Nat.zero_le _, rfl, by simp⟩ (lt_fuel (by omega))
  rw [hb]
  cases b with
  | inl r => obtain ⟨rfl, h⟩ := hR; rw [h]; rfl
  | inr u => rw [show okPa (p.Next - p.Past.length) p.Past = true from hR]; rfl

/-! The window -/
def WinOk (p : GPipePipe) : Prop := ∀ s : Int, p.Next ≤ s → s < p.Next + 64 → s ≤ 4294967295 → seenM p.Win.Base p.Win.Bits s = hasW p.Wait s
theorem saneWin_m (p : GPipePipe) (h0 : 0 ≤ p.Next) (h1 : p.Next ≤ 4294967296) (hl : p.Wait.length ≤ 1000000) : ∃ b, m45_pipe_saneWin p = some b ∧ (b = true ↔ saneM p.Win.Base p.Win.Bits = true ∧ p.Next ≤ p.Win.Base ∧ p.Win.Base ≤ p.Next + 8 ∧ WinOk p) := by
  unfold m45_pipe_saneWin
  rw [sane_m]
  simp only [Option.bind_some]
  cases hs : saneM p.Win.Base p.Win.Bits
  · exact ⟨false, rfl, by simp⟩
  rw [if_neg (by simp)]
  by_cases h2 : p.Win.Base < p.Next
  · exact ⟨false, by rw [if_pos (decide_eq_true h2)], by simp; omega⟩
  rw [if_neg (by rw [decide_eq_true_eq]; exact h2), wI_id (by omega) (by omega)]
  by_cases h3 : p.Next + 8 < p.Win.Base
  · exact ⟨false, by rw [if_pos (decide_eq_true h3)], by simp; omega⟩
  rw [if_neg (by rw [decide_eq_true_eq]; exact h3)]
  unfold m45_pipe_saneWin_k1
  obtain ⟨b, hb, hR⟩ := iter_inv (f := m45_pipe_saneWin_s3 p) (P := fun t => p.Next ≤ t ∧ t ≤ p.Next + 64 ∧ ∀ s : Int, p.Next ≤ s → s < t → s ≤ 4294967295 → seenM p.Win.Base p.Win.Bits s = hasW p.Wait s) (μ := fun t => (p.Next + 64 - t).toNat) (R := fun r => match r with | .inl r => r = false ∧ ¬ WinOk p | .inr _ => WinOk p)
    (fun t ht => by
      obtain ⟨g1, g2, g3⟩ := ht
      unfold m45_pipe_saneWin_s3
      rw [wI_id (by omega) (by omega)]
      by_cases h4 : t < p.Next + 64
      · rw [if_pos (decide_eq_true h4)]
        by_cases h5 : t ≤ 4294967295
        · rw [if_pos (decide_eq_true h5)]
          unfold m45_pipe_saneWin_k4
          rw [seen_m, waiting_m _ _ hl]
          simp only [Option.bind_some]
          rw [posW_nonneg]
          by_cases h6 : seenM p.Win.Base p.Win.Bits t = hasW p.Wait t
          · rw [if_neg (by rw [h6]; simp), wI_id (by omega) (by omega)]
            refine .inl ⟨_, rfl, ⟨by omega, by omega, fun s a1 a2 a3 => ?_⟩, by omega⟩
            by_cases h7 : s = t
            · rw [h7]; exact h6
            · exact g3 s a1 (by omega) a3
          · rw [if_pos (by simpa using h6)]
            exact .inr (.inr ⟨_, rfl, rfl, fun h => h6 (h t g1 h4 h5)⟩)
        · rw [if_neg (by rw [decide_eq_true_eq]; exact h5)]
          exact .inr (.inl ⟨(), rfl, fun s a1 a2 a3 => g3 s a1 (by omega) a3⟩)
      · rw [if_neg (by rw [decide_eq_true_eq]; exact h4)]
        exact .inr (.inl ⟨(), rfl, fun s a1 a2 a3 => g3 s a1 (by omega) a3⟩)) fuel p.Next ⟨by omega, by omega, fun s a1 a2 => by omega⟩ (lt_fuel (by omega))
  rw [hb]
  cases b with
  | inl r => obtain ⟨rfl, h⟩ := hR; exact ⟨false, rfl, ⟨fun h' => (by cases h'), fun h' => absurd h'.2.2.2 h⟩⟩
  | inr u => exact ⟨true, rfl, ⟨fun _ => ⟨rfl, by omega, by omega, hR⟩, fun _ => rfl⟩⟩

structure SaneP (p : GPipePipe) : Prop where
  n0 : 0 ≤ p.Next
  n1 : p.Next ≤ 4294967296
  w : okW p.Next p.Next p.Wait = true
  w8 : (p.Wait.length : Int) ≤ 8
  pa : okPa (p.Next - p.Past.length) p.Past = true
  p8 : (p.Past.length : Int) ≤ 8
  s : saneM p.Win.Base p.Win.Bits = true
  b0 : p.Next ≤ p.Win.Base
  b8 : p.Win.Base ≤ p.Next + 8
  e : WinOk p
/-- Few enough to be looked at. -/
structure FewP (p : GPipePipe) : Prop where
  w : p.Wait.length ≤ 1000000
  pl : p.Past.length ≤ 1000000
  v : ∀ x ∈ p.Past, x.List.length ≤ 1000000
open Classical in
noncomputable def saneB (p : GPipePipe) : Bool := decide (SaneP p)
theorem saneB_true {p : GPipePipe} : saneB p = true ↔ SaneP p := by unfold saneB; simp
theorem saneB_false {p : GPipePipe} : saneB p = false ↔ ¬ SaneP p := by unfold saneB; simp
theorem saneP_m (p : GPipePipe) (hf : FewP p) : m27_pipe_Sane p = some (saneB p) := by
  have hno : ¬ SaneP p → (some false : Option Bool) = some (saneB p) := fun h => by rw [saneB_false.2 h]
  unfold m27_pipe_Sane
  rw [show (GPipePipe.mk (GSeqsWindow.mk p.Win.Base p.Win.Bits) p.Next p.Wait p.Past) = p from mkp_eq p]
  by_cases h0 : 0 ≤ p.Next
  · rw [if_pos (decide_eq_true h0)]
    by_cases h1 : p.Next ≤ 4294967296
    · rw [if_pos (decide_eq_true h1), saneWait_m p h0 h1 hf.w, sanePast_m p h0 h1 hf.pl hf.v]
      simp only [Option.bind_some]
      obtain ⟨b, hb, hiff⟩ := saneWin_m p h0 h1 hf.w
      rw [hb]
      by_cases hw : (okW p.Next p.Next p.Wait && decide ((p.Wait.length : Int) ≤ 8)) = true
      · rw [if_pos hw]
        by_cases hp : (okPa (p.Next - p.Past.length) p.Past && decide ((p.Past.length : Int) ≤ 8)) = true
        · rw [if_pos hp]
          simp only [Bool.and_eq_true, decide_eq_true_eq] at hw hp
          simp only [Option.bind_some]
          cases b with
          | true =>
            obtain ⟨a1, a2, a3, a4⟩ := hiff.1 rfl
            rw [saneB_true.2 ⟨h0, h1, hw.1, hw.2, hp.1, hp.2, a1, a2, a3, a4⟩]
          | false => exact hno fun h => by have := hiff.2 ⟨h.s, h.b0, h.b8, h.e⟩; cases this
        · rw [if_neg hp]
          exact hno fun h => hp (by rw [h.pa, decide_eq_true h.p8]; rfl)
      · rw [if_neg hw]
        exact hno fun h => hw (by rw [h.w, decide_eq_true h.w8]; rfl)
    · rw [if_neg (by rw [decide_eq_true_eq]; exact h1)]
      exact hno fun h => h1 h.n1
  · rw [if_neg (by rw [decide_eq_true_eq]; exact h0)]
    exact hno fun h => h0 h.n0
end Go.Proofs.YtlpanhfojeaamaaDoor.Abs
