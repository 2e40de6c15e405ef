/-
  The document's pipes and the program's: one and the other, and sameness.
-/
import Derived.Test.YtlpanhfojeaamaaDoorX16
import Derived.Test.YtlpanhfojeaamaaDoorPc16
namespace Go.Proofs.YtlpanhfojeaamaaDoor.Abs

def qr (a : GMsgReq) : GR05Req := GR05Req.mk a.Kind a.Seq a.Token a.Attempt a.RO a.Key a.Val (GApiRange.mk a.Rng.Lo a.Rng.Hi a.Rng.Open)
def pr (a : GMsgReply) : GR05Reply := GR05Reply.mk a.Kind a.Seq a.Code a.N a.Found a.Val a.List
theorem qr_rq (a : GR05Req) : qr (rq a) = a := by cases a; rfl
theorem rq_qr (a : GMsgReq) : rq (qr a) = a := by cases a; rfl
theorem pr_rp (a : GR05Reply) : pr (rp a) = a := by cases a; rfl
theorem rp_pr (a : GMsgReply) : rp (pr a) = a := by cases a; rfl
def ou (a : GR16Pipe) : GPipePipe := GPipePipe.mk (GSeqsWindow.mk a.Win.Base a.Win.Bits) a.Next (a.Wait.map rq) (a.Past.map rp)
def th (p : GPipePipe) : GR16Pipe := GR16Pipe.mk (GR15Window.mk p.Win.Base p.Win.Bits) p.Next (p.Wait.map qr) (p.Past.map pr)
theorem th_ou (a : GR16Pipe) : th (ou a) = a := by
  obtain ⟨⟨b, u⟩, n, w, p⟩ := a
  simp only [th, ou, List.map_map]
  rw [show qr ∘ rq = id from funext qr_rq, show pr ∘ rp = id from funext pr_rp, List.map_id, List.map_id]

theorem map_loop {α β : Type} {f : Int × List β → Option (LB (Int × List β) (List β))} (g : α → β) (xs : List α) (hl : xs.length ≤ 1000000)
    (h1 : ∀ i (h : i < xs.length) acc, acc.length ≤ 1000000 → f ((i : Int), acc) = some (.cont (wI ((i : Int) + 1), acc ++ [g xs[i]]))) (h2 : ∀ acc, f ((xs.length : Int), acc) = some (.brk acc)) : iterB f fuel (0, []) = some (xs.map g) := by
  obtain ⟨v, hv, rfl⟩ := iterB_inv (f := f) (P := fun s => ∃ i : Nat, i ≤ xs.length ∧ s = ((i : Int), (xs.take i).map g)) (μ := fun s => xs.length - s.1.toNat) (R := fun v => v = xs.map g) (by
    rintro _ ⟨i, hi, rfl⟩
    rcases Nat.lt_or_ge i xs.length with hlt | hge
    · left
      refine ⟨_, h1 i hlt _ (by rw [List.length_map, List.length_take]; omega), ⟨i + 1, by omega, ?_⟩, ?_⟩
      · rw [wI_id (by omega) (by omega), List.take_succ_eq_append_getElem hlt, List.map_append]; rfl
      · rw [wI_id (by omega) (by omega)]; dsimp only; omega
    · right
      have : i = xs.length := by omega
      subst this
      exact ⟨_, h2 _, by rw [List.take_length]⟩) fuel (0, []) ⟨0, Nat.zero_le _, rfl⟩ (lt_fuel (by dsimp only; omega))
  exact hv
theorem ours_m (a : GR16Pipe) (hw : a.Wait.length ≤ 1000000) (hp : a.Past.length ≤ 1000000) : m12_l16_ours a = some (ou a) := by
  unfold m12_l16_ours
  rw [map_loop rq a.Wait hw (fun i h acc hacc => by
    unfold m12_l16_ours_s8
    rw [if_pos (decide_eq_true (by show (i : Int) < _; omega))]
    dsimp only
    rw [idx_nat, List.getElem?_eq_getElem h]
    simp only [Option.bind_some]
    unfold m14_l16_req
    simp only [Option.bind_some]
    rw [if_pos (by rw [List.length_singleton]; omega)]
    rfl) (fun acc => by
    unfold m12_l16_ours_s8
    rw [if_neg (by rw [decide_eq_true_eq]; show ¬ (_ : Int) < _; omega)])]
  simp only [Option.bind_some]
  unfold m12_l16_ours_k1
  rw [map_loop rp a.Past hp (fun i h acc hacc => by
    unfold m12_l16_ours_s3
    rw [if_pos (decide_eq_true (by show (i : Int) < _; omega))]
    dsimp only
    rw [idx_nat, List.getElem?_eq_getElem h]
    simp only [Option.bind_some]
    unfold m17_l16_reply
    simp only [Option.bind_some]
    rw [if_pos (by rw [List.length_singleton]; omega)]
    rfl) (fun acc => by
    unfold m12_l16_ours_s3
    rw [if_neg (by rw [decide_eq_true_eq]; show ¬ (_ : Int) < _; omega)])]
  rfl
theorem theirs_m (a : GPipePipe) (hw : a.Wait.length ≤ 1000000) (hp : a.Past.length ≤ 1000000) : m22_l16_theirs a = some (th a) := by
  unfold m22_l16_theirs
  rw [map_loop qr a.Wait hw (fun i h acc hacc => by
    unfold m22_l16_theirs_s8
    rw [if_pos (decide_eq_true (by show (i : Int) < _; omega))]
    dsimp only
    rw [idx_nat, List.getElem?_eq_getElem h]
    simp only [Option.bind_some]
    unfold m26_l16_asked
    simp only [Option.bind_some]
    rw [if_pos (by rw [List.length_singleton]; omega)]
    rfl) (fun acc => by
    unfold m22_l16_theirs_s8
    rw [if_neg (by rw [decide_eq_true_eq]; show ¬ (_ : Int) < _; omega)])]
  simp only [Option.bind_some]
  unfold m22_l16_theirs_k1
  rw [map_loop pr a.Past hp (fun i h acc hacc => by
    unfold m22_l16_theirs_s3
    rw [if_pos (decide_eq_true (by show (i : Int) < _; omega))]
    dsimp only
    rw [idx_nat, List.getElem?_eq_getElem h]
    simp only [Option.bind_some]
    unfold m24_l16_told
    simp only [Option.bind_some]
    rw [if_pos (by rw [List.length_singleton]; omega)]
    rfl) (fun acc => by
    unfold m22_l16_theirs_s3
    rw [if_neg (by rw [decide_eq_true_eq]; show ¬ (_ : Int) < _; omega)])]
  rfl

theorem refSame_self (a : GR05Req) : m25_r05_SameReq a a = some true := by
  obtain ⟨r, h, h2⟩ := refSame_m a a
  rw [h, h2.2 rfl]
theorem refSameRep_self (a : GR05Reply) (hl : a.List.length ≤ 1000000) : m23_r05_SameReply a a = some true := by
  obtain ⟨r, h, h2⟩ := refSameRep_m a a hl
  rw [h, h2.2 rfl]
structure FewR (a : GR16Pipe) : Prop where
  w : a.Wait.length ≤ 1000000
  pl : a.Past.length ≤ 1000000
  v : ∀ x ∈ a.Past, x.List.length ≤ 1000000
theorem same_self (a : GR16Pipe) (hf : FewR a) : m21_r16_Same a a = some true := by
  have hw := hf.w
  have hp := hf.pl
  unfold m21_r16_Same
  simp only [decide_true, Bool.and_self, Bool.not_true, Bool.false_eq_true, if_false]
  unfold m21_r16_Same_k1
  obtain ⟨b, hb, hR⟩ := iter_inv (f := m21_r16_Same_s9 a a) (P := fun t => ∃ i : Nat, i ≤ a.Wait.length ∧ t = (i : Int)) (μ := fun t => a.Wait.length - t.toNat) (R := fun v => v = .inr ()) (by
    rintro _ ⟨i, hi, rfl⟩
    unfold m21_r16_Same_s9
    rcases Nat.lt_or_ge i a.Wait.length with hlt | hge
    · rw [if_pos (decide_eq_true (by omega)), idx_nat, List.getElem?_eq_getElem hlt]
      simp only [Option.bind_some]
      rw [refSame_self]
      simp only [Option.bind_some]
      rw [if_neg (by simp), wI_id (by omega) (by omega)]
      exact .inl ⟨_, rfl, ⟨i + 1, by omega, rfl⟩, by omega⟩
    · rw [if_neg (by rw [decide_eq_true_eq]; omega)]
      exact .inr (.inl ⟨(), rfl, rfl⟩)) fuel 0 ⟨0, Nat.zero_le _, rfl⟩ (lt_fuel (by omega))
  subst hR
  rw [hb]
  show m21_r16_Same_k2 a a () = some true
  unfold m21_r16_Same_k2
  obtain ⟨b, hb, hR⟩ := iter_inv (f := m21_r16_Same_s4 a a) (P := fun t => ∃ i : Nat, i ≤ a.Past.length ∧ t = (i : Int)) (μ := fun t => a.Past.length - t.toNat) (R := fun v => v = .inr ()) (by
    rintro _ ⟨i, hi, rfl⟩
    unfold m21_r16_Same_s4
    rcases Nat.lt_or_ge i a.Past.length with hlt | hge
    · rw [if_pos (decide_eq_true (by omega)), idx_nat, List.getElem?_eq_getElem hlt]
      simp only [Option.bind_some]
      rw [refSameRep_self _ (hf.v _ (List.getElem_mem hlt))]
      simp only [Option.bind_some]
      rw [if_neg (by simp), wI_id (by omega) (by omega)]
      exact .inl ⟨_, rfl, ⟨i + 1, by omega, rfl⟩, by omega⟩
    · rw [if_neg (by rw [decide_eq_true_eq]; omega)]
      exact .inr (.inl ⟨(), rfl, rfl⟩)) fuel 0 ⟨0, Nat.zero_le _, rfl⟩ (lt_fuel (by omega))
  subst hR
  rw [hb]
  rfl

/-! Few -/
theorem fewReply_m (a : GR05Reply) : ∃ b, m11_r05_FewReply a = some b ∧ (b = true → a.List.length ≤ 20) := by
  unfold m11_r05_FewReply
  by_cases h1 : (100 : Int) < (a.Val.length : Int)
  · exact ⟨false, by rw [if_pos (decide_eq_true h1)], by simp⟩
  rw [if_neg (by rw [decide_eq_true_eq]; exact h1)]
  by_cases h2 : (20 : Int) < (a.List.length : Int)
  · exact ⟨false, by rw [if_pos (decide_eq_true h2)], by simp⟩
  rw [if_neg (by rw [decide_eq_true_eq]; exact h2)]
  unfold m11_r05_FewReply_k1
  obtain ⟨b, hb, _⟩ := iter_inv (f := m11_r05_FewReply_s3 a) (P := fun s => ∃ i : Nat, i ≤ a.List.length ∧ s = (i : Int)) (μ := fun s => a.List.length - s.toNat) (R := fun _ => True)
    (fun s hs => by
      obtain ⟨i, hi, rfl⟩ := hs
      unfold m11_r05_FewReply_s3
      by_cases h0 : i < a.List.length
      · rw [if_pos (by rw [decide_eq_true_eq]; omega), idx_nat, List.getElem?_eq_getElem h0]
        simp only [Option.bind_some]
        by_cases h3 : (100 : Int) < ((a.List[i]).Key.length : Int)
        · exact .inr (.inr ⟨_, by rw [if_pos (decide_eq_true h3)], trivial⟩)
        · rw [if_neg (by rw [decide_eq_true_eq]; exact h3)]
          by_cases h4 : (100 : Int) < ((a.List[i]).Val.length : Int)
          · exact .inr (.inr ⟨_, by rw [if_pos (decide_eq_true h4)], trivial⟩)
          · exact .inl ⟨((i + 1 : Nat) : Int), by rw [if_neg (by rw [decide_eq_true_eq]; exact h4), wI_id (by omega) (by omega)]; rfl, ⟨i + 1, by omega, rfl⟩, by omega⟩
      · exact .inr (.inl ⟨(), by rw [if_neg (by rw [decide_eq_true_eq]; omega)], trivial⟩)) fuel 0 ⟨0, by omega, rfl⟩ (lt_fuel (by omega))
  rw [hb]
  cases b with
  | inl r => exact ⟨r, rfl, fun _ => by omega⟩
  | inr r => exact ⟨true, rfl, fun _ => by omega⟩
theorem few_m (a : GR05Req) : ∃ b, m10_r05_Few a = some b := by
  unfold m10_r05_Few
  split
  · split
    · split
      · exact ⟨_, rfl⟩
      · exact ⟨_, rfl⟩
    · exact ⟨_, rfl⟩
  · exact ⟨_, rfl⟩
theorem fewPipe_m (a : GR16Pipe) : ∃ b, m9_r16_Few a = some b ∧ (b = true → a.Wait.length ≤ 12 ∧ a.Past.length ≤ 12 ∧ ∀ x ∈ a.Past, x.List.length ≤ 20) := by
  unfold m9_r16_Few
  by_cases h1 : (12 : Int) < (a.Wait.length : Int)
  · exact ⟨false, by rw [if_pos (decide_eq_true h1)], by simp⟩
  rw [if_neg (by rw [decide_eq_true_eq]; exact h1)]
  by_cases h2 : (12 : Int) < (a.Past.length : Int)
  · exact ⟨false, by rw [if_pos (decide_eq_true h2)], by simp⟩
  rw [if_neg (by rw [decide_eq_true_eq]; exact h2)]
  unfold m9_r16_Few_k1
  obtain ⟨b, hb, _⟩ := iter_inv (f := m9_r16_Few_s8 a) (P := fun s => ∃ i : Nat, i ≤ a.Wait.length ∧ s = (i : Int)) (μ := fun s => a.Wait.length - s.toNat) (R := fun v => v = .inl false ∨ v = .inr ())
    (fun s hs => by
      obtain ⟨i, hi, rfl⟩ := hs
      unfold m9_r16_Few_s8
      by_cases h0 : i < a.Wait.length
      · rw [if_pos (by rw [decide_eq_true_eq]; omega), idx_nat, List.getElem?_eq_getElem h0]
        simp only [Option.bind_some]
        obtain ⟨q, hq⟩ := few_m (GR05Req.mk (a.Wait[i]).Kind (a.Wait[i]).Seq (a.Wait[i]).Token (a.Wait[i]).Attempt (a.Wait[i]).RO (a.Wait[i]).Key (a.Wait[i]).Val (GApiRange.mk (a.Wait[i]).Rng.Lo (a.Wait[i]).Rng.Hi (a.Wait[i]).Rng.Open))
        rw [hq]
        cases q
        · exact .inr (.inr ⟨false, rfl, .inl rfl⟩)
        · exact .inl ⟨((i + 1 : Nat) : Int), by simp only [Option.bind_some]; rw [if_neg (by simp), wI_id (by omega) (by omega)]; rfl, ⟨i + 1, by omega, rfl⟩, by omega⟩
      · exact .inr (.inl ⟨(), by rw [if_neg (by rw [decide_eq_true_eq]; omega)], .inr rfl⟩)) fuel 0 ⟨0, by omega, rfl⟩ (lt_fuel (by omega))
  rw [hb]
  rename_i hR
  rcases hR with rfl | rfl
  · exact ⟨false, rfl, by simp⟩
  simp only [Option.bind_some]
  unfold m9_r16_Few_k2
  obtain ⟨b, hb, hR⟩ := iter_inv (f := m9_r16_Few_s4 a) (P := fun s => ∃ i : Nat, i ≤ a.Past.length ∧ s = (i : Int) ∧ ∀ j x, j < i → a.Past[j]? = some x → x.List.length ≤ 20) (μ := fun s => a.Past.length - s.toNat) (R := fun v => v = .inl false ∨ (v = .inr () ∧ ∀ x ∈ a.Past, x.List.length ≤ 20))
    (fun s hs => by
      obtain ⟨i, hi, rfl, hlow⟩ := hs
      unfold m9_r16_Few_s4
      by_cases h0 : i < a.Past.length
      · rw [if_pos (by rw [decide_eq_true_eq]; omega), idx_nat, List.getElem?_eq_getElem h0]
        simp only [Option.bind_some]
        obtain ⟨q, hq, hq2⟩ := fewReply_m a.Past[i]
        rw [hq]
        cases q
        · exact .inr (.inr ⟨false, rfl, .inl rfl⟩)
        · refine .inl ⟨((i + 1 : Nat) : Int), by simp only [Option.bind_some]; rw [if_neg (by simp), wI_id (by omega) (by omega)]; rfl, ⟨i + 1, by omega, rfl, fun j x hj hx => ?_⟩, by omega⟩
          by_cases e : j = i
          · subst e
            rw [List.getElem?_eq_getElem h0] at hx
            cases hx
            exact hq2 rfl
          · exact hlow j x (by omega) hx
      · refine .inr (.inl ⟨(), by rw [if_neg (by rw [decide_eq_true_eq]; omega)], .inr ⟨rfl, fun x hx => ?_⟩⟩)
        obtain ⟨j, hj, e⟩ := List.getElem_of_mem hx
        exact hlow j x (by omega) (by rw [List.getElem?_eq_getElem hj, e])) fuel 0 ⟨0, by omega, rfl, fun j x hj => by omega⟩ (lt_fuel (by omega))
  rw [hb]
  rcases hR with rfl | ⟨rfl, h⟩
  · exact ⟨false, rfl, by simp⟩
  · exact ⟨true, rfl, fun _ => ⟨by omega, by omega, h⟩⟩
end Go.Proofs.YtlpanhfojeaamaaDoor.Abs
