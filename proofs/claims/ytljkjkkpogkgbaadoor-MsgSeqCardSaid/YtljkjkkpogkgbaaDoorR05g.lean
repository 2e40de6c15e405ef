/-
  The laws of layer 5.
-/
import Derived.Test.YtljkjkkpogkgbaaDoorR05f
namespace Go.Proofs.YtljkjkkpogkgbaaDoor.Abs

theorem awake5 : m9_l05_awake = some true := by decide +kernel

theorem few_m (a : GR05Req) : ∃ b, m10_r05_Few a = some b ∧ (b = true → a.Key.length ≤ 100 ∧ a.Val.length ≤ 100 ∧ a.Rng.Lo.length ≤ 100 ∧ a.Rng.Hi.length ≤ 100) := by
  unfold m10_r05_Few
  by_cases h1 : (a.Key.length : Int) ≤ 100
  · by_cases h2 : (a.Val.length : Int) ≤ 100
    · by_cases h3 : (a.Rng.Lo.length : Int) ≤ 100
      · refine ⟨decide ((a.Rng.Hi.length : Int) ≤ 100), by rw [if_pos (decide_eq_true h1), if_pos (decide_eq_true h2), if_pos (decide_eq_true h3)], fun h => ?_⟩
        have := of_decide_eq_true h
        omega
      · exact ⟨false, by rw [if_pos (decide_eq_true h1), if_pos (decide_eq_true h2), if_neg (by rw [decide_eq_true_eq]; exact h3)], fun h => by cases h⟩
    · exact ⟨false, by rw [if_pos (decide_eq_true h1), if_neg (by rw [decide_eq_true_eq]; exact h2)], fun h => by cases h⟩
  · exact ⟨false, by rw [if_neg (by rw [decide_eq_true_eq]; exact h1)], fun h => by cases h⟩
theorem fewRep_m (a : GR05Reply) : ∃ b, m21_r05_FewReply a = some b ∧ (b = true → a.List.length ≤ 20) := by
  unfold m21_r05_FewReply
  by_cases h1 : (100 : Int) < (a.Val.length : Int)
  · exact ⟨false, by rw [if_pos (decide_eq_true h1)], fun h => by cases h⟩
  · rw [if_neg (by rw [decide_eq_true_eq]; exact h1)]
    by_cases h2 : (20 : Int) < (a.List.length : Int)
    · exact ⟨false, by rw [if_pos (decide_eq_true h2)], fun h => by cases h⟩
    · rw [if_neg (by rw [decide_eq_true_eq]; exact h2)]
      unfold m21_r05_FewReply_k1
      obtain ⟨r, hr, _⟩ := iter_inv (f := m21_r05_FewReply_s3 a) (P := fun s => 0 ≤ s ∧ s ≤ (a.List.length : Int)) (μ := fun s => a.List.length - s.toNat) (R := fun _ => True)
        (fun s hs => by
          obtain ⟨h0, h3⟩ := hs
          unfold m21_r05_FewReply_s3
          by_cases hlt : s < (a.List.length : Int)
          · obtain ⟨x, hx, hx'⟩ := idx_get h0 hlt
            rw [if_pos (decide_eq_true hlt), hx]
            simp only [Option.bind_some]
            by_cases h4 : (100 : Int) < (x.Key.length : Int)
            · exact .inr (.inr ⟨false, by rw [if_pos (decide_eq_true h4)], trivial⟩)
            · rw [if_neg (by rw [decide_eq_true_eq]; exact h4)]
              by_cases h5 : (100 : Int) < (x.Val.length : Int)
              · exact .inr (.inr ⟨false, by rw [if_pos (decide_eq_true h5)], trivial⟩)
              · exact .inl ⟨s + 1, by rw [if_neg (by rw [decide_eq_true_eq]; exact h5), wI_id (by omega) (by omega)], ⟨by omega, by omega⟩, by omega⟩
          · exact .inr (.inl ⟨(), by rw [if_neg (by rw [decide_eq_true_eq]; exact hlt)], trivial⟩)) fuel 0 ⟨by omega, by omega⟩ (lt_fuel (by simp; omega))
      rw [hr]
      simp only [Option.bind_some]
      cases r with
      | inl r => exact ⟨r, rfl, fun _ => by omega⟩
      | inr u => exact ⟨true, rfl, fun _ => by omega⟩

def rq (a : GR05Req) : GMsgReq := GMsgReq.mk a.Kind a.Seq a.Token a.Attempt a.RO a.Key a.Val (GApiRange.mk a.Rng.Lo a.Rng.Hi a.Rng.Open)
theorem req_m (a : GR05Req) : m12_l05_req a = some (rq a) := rfl
def rp (a : GR05Reply) : GMsgReply := GMsgReply.mk a.Kind a.Seq a.Code a.N a.Found a.Val a.List
theorem reply_m (a : GR05Reply) : m23_l05_reply a = some (rp a) := rfl

theorem cut_last {b : List UInt8} (h1 : 1 ≤ b.length) (h2 : b.length ≤ 1000) : ∃ d x, cut b 0 (if (wI ((b.length : Int) - 1)) > 0 then (wI ((b.length : Int) - 1)) else 0) = some d ∧ b = d ++ x ∧ x ≠ [] := by
  rw [wI_id (by omega) (by omega)]
  have e : (if (b.length : Int) - 1 > 0 then (b.length : Int) - 1 else 0) = ((b.length - 1 : Nat) : Int) := by split <;> omega
  rw [e, cut_of (Int.le_refl _) (by omega) (by omega)]
  refine ⟨_, b.drop (b.length - 1), rfl, ?_, fun h => ?_⟩
  · simp
  · have := List.drop_eq_nil_iff.1 h
    omega

theorem msgBack_true (a0 : GR05Req) (a1 : GR05Reply) (a2 : BitVec 8) : m5_l05_MsgBack a0 a1 a2 = some true := by
  unfold m5_l05_MsgBack
  rw [awake5]
  simp only [Option.bind_some]
  obtain ⟨b1, h1, h1'⟩ := few_m a0
  rw [show m10_r05_Few (GR05Req.mk a0.Kind a0.Seq a0.Token a0.Attempt a0.RO a0.Key a0.Val (GApiRange.mk a0.Rng.Lo a0.Rng.Hi a0.Rng.Open)) = some b1 from h1]
  simp only [Option.bind_some]
  cases b1 with
  | false => rfl
  | true =>
  obtain ⟨b2, h2, h2'⟩ := fewRep_m a1
  rw [show m21_r05_FewReply (GR05Reply.mk a1.Kind a1.Seq a1.Code a1.N a1.Found a1.Val a1.List) = some b2 from h2]
  simp only [Option.bind_some]
  cases b2 with
  | false => rfl
  | true =>
  have hl := h2' rfl
  simp only [Bool.not_true, Bool.false_eq_true, if_false]
  have hlast : ∀ v7 : List UInt8 × Int, decide (v7.2 = 0) = saneRep (rp a1) → ∀ v4 : List UInt8 × Int, decide (v4.2 = 0) = saneReq (rq a0) → m5_l05_MsgBack_k8 a0 a1 true v4 v7 () = some true := by
    intro v7 e7 v4 e4
    unfold m5_l05_MsgBack_k8
    rw [if_pos rfl, show m12_l05_req (GR05Req.mk a0.Kind a0.Seq a0.Token a0.Attempt a0.RO a0.Key a0.Val (GApiRange.mk a0.Rng.Lo a0.Rng.Hi a0.Rng.Open)) = some (rq a0) from rfl]
    simp only [Option.bind_some]
    rw [show m18_msg_SaneReq (GMsgReq.mk (rq a0).Kind (rq a0).Seq (rq a0).Token (rq a0).Attempt (rq a0).RO (rq a0).Key (rq a0).Val (GApiRange.mk (rq a0).Rng.Lo (rq a0).Rng.Hi (rq a0).Rng.Open)) = some (saneReq (rq a0)) from saneReq_m (rq a0)]
    simp only [Option.bind_some]
    rw [e4, if_pos (by simp), show m23_l05_reply (GR05Reply.mk a1.Kind a1.Seq a1.Code a1.N a1.Found a1.Val a1.List) = some (rp a1) from rfl]
    simp only [Option.bind_some]
    rw [saneRep_m (rp a1) (by show a1.List.length ≤ _; omega)]
    simp only [Option.bind_some]
    rw [e7]; simp
  have hk5 : ∀ v4 : List UInt8 × Int, decide (v4.2 = 0) = saneReq (rq a0) → m5_l05_MsgBack_k5 a0 a1 a2 true v4 () = some true := by
    intro v4 e4
    unfold m5_l05_MsgBack_k5
    rw [show m23_l05_reply (GR05Reply.mk a1.Kind a1.Seq a1.Code a1.N a1.Found a1.Val a1.List) = some (rp a1) from rfl]
    simp only [Option.bind_some]
    rw [putRep_m (rp a1) (by show a1.List.length ≤ _; omega)]
    simp only [Option.bind_some]
    cases hs : saneRep (rp a1) with
    | false =>
      simp only [Bool.false_eq_true, if_false]
      exact hlast _ (by rw [hs]; rfl) v4 e4
    | true =>
      obtain ⟨hb1, hb2⟩ := eS5_len hs
      obtain ⟨d, x, hc, hx, hne⟩ := cut_last hb1 (by omega)
      simp only [if_true]
      rw [if_pos (by simp), readRep_back hs]
      simp only [Option.bind_some]
      rw [hc]
      simp only [Option.bind_some]
      rw [readRep_less hs hx hne]
      simp only [Option.bind_some]
      rw [if_pos (by simp; omega), if_pos (by simp; omega), List.nil_append, readRep_more hs]
      simp only [Option.bind_some]
      rw [if_neg (by simp)]
      obtain ⟨r, hr, hr2⟩ := sameRep_m (rp a1) (rp a1) (by show a1.List.length ≤ _; omega)
      rw [hr, hr2.2 rfl]
      simp only [Option.bind_some]
      rw [if_neg (by simp), if_neg (by simp), if_neg (by simp), if_neg (by rw [decide_eq_true_eq]; omega)]
      exact hlast _ (by rw [hs]; rfl) v4 e4
  unfold m5_l05_MsgBack_k2
  rw [show m12_l05_req (GR05Req.mk a0.Kind a0.Seq a0.Token a0.Attempt a0.RO a0.Key a0.Val (GApiRange.mk a0.Rng.Lo a0.Rng.Hi a0.Rng.Open)) = some (rq a0) from rfl]
  simp only [Option.bind_some]
  rw [show m11_msg_PutReq (GMsgReq.mk (rq a0).Kind (rq a0).Seq (rq a0).Token (rq a0).Attempt (rq a0).RO (rq a0).Key (rq a0).Val (GApiRange.mk (rq a0).Rng.Lo (rq a0).Rng.Hi (rq a0).Rng.Open)) = some (if saneReq (rq a0) then (eR (tupOf (rq a0)), 0) else ([], 1)) from putReq_m (rq a0)]
  simp only [Option.bind_some]
  cases hs : saneReq (rq a0) with
  | false =>
    simp only [Bool.false_eq_true, if_false]
    exact hk5 _ (by rw [hs]; rfl)
  | true =>
    obtain ⟨hb1, hb2⟩ := eR_len hs
    obtain ⟨d, x, hc, hx, hne⟩ := cut_last (b := eR (tupOf (rq a0))) (by omega) (by omega)
    simp only [if_true]
    rw [if_pos (by simp), readReq_back hs (by omega)]
    simp only [Option.bind_some]
    rw [hc]
    simp only [Option.bind_some]
    rw [readReq_less hs (by omega) hx hne]
    simp only [Option.bind_some]
    rw [if_pos (by simp; omega), if_pos (by simp; omega), List.nil_append, readReq_more hs (by omega)]
    simp only [Option.bind_some]
    rw [if_neg (by simp), show m20_msg_SameReq (GMsgReq.mk (rq a0).Kind (rq a0).Seq (rq a0).Token (rq a0).Attempt (rq a0).RO (rq a0).Key (rq a0).Val (GApiRange.mk (rq a0).Rng.Lo (rq a0).Rng.Hi (rq a0).Rng.Open)) (GMsgReq.mk (rq a0).Kind (rq a0).Seq (rq a0).Token (rq a0).Attempt (rq a0).RO (rq a0).Key (rq a0).Val (GApiRange.mk (rq a0).Rng.Lo (rq a0).Rng.Hi (rq a0).Rng.Open)) = some true from sameReq_self (rq a0)]
    simp only [Option.bind_some]
    rw [if_neg (by simp), if_neg (by simp), if_neg (by simp), if_neg (by rw [decide_eq_true_eq]; omega)]
    exact hk5 _ (by rw [hs]; rfl)

theorem msgTold_true (a0 : List UInt8) : m6_l05_MsgTold a0 = some true := by
  unfold m6_l05_MsgTold
  rw [awake5]
  simp only [Option.bind_some]
  by_cases hl : (1000 : Int) < (a0.length : Int)
  · rw [if_pos (decide_eq_true hl)]
  · rw [if_neg (by rw [decide_eq_true_eq]; exact hl)]
    have hl' : a0.length ≤ 1000 := by omega
    obtain ⟨g, e, hr, hok, hbad⟩ := readReq_any a0 (by omega)
    obtain ⟨g', e', hr', hok', hbad'⟩ := readRep_any a0 (by omega)
    rw [hr]
    simp only [Option.bind_some]
    have hk5 : m6_l05_MsgTold_k5 true (g, e) (g', e') () = some true := by
      unfold m6_l05_MsgTold_k5
      simp only [if_true]
      by_cases he : e = 0
      · rw [if_pos (decide_eq_true he)]
        by_cases he' : e' = 0
        · rw [if_pos (decide_eq_true he')]
        · rw [if_neg (by rw [decide_eq_true_eq]; exact he'), hbad' he']; rfl
      · rw [if_neg (by rw [decide_eq_true_eq]; exact he), hbad he, if_pos (by rfl)]
        by_cases he' : e' = 0
        · rw [if_pos (decide_eq_true he')]
        · rw [if_neg (by rw [decide_eq_true_eq]; exact he'), hbad' he']; rfl
    have hk3 : m6_l05_MsgTold_k3 a0 true (g, e) () = some true := by
      unfold m6_l05_MsgTold_k3
      rw [hr']
      simp only [Option.bind_some]
      by_cases he' : e' = 0
      · obtain ⟨h1, h2⟩ := hok' he'
        have hl8 := (saneRep_V h1).2
        rw [if_pos (decide_eq_true he'), putRep_m g' (by omega), h1]
        simp only [Option.bind_some, if_true]
        rw [if_neg (by decide), ← h2, if_neg (by simp), saneRep_m g' (by omega), h1]
        simp only [Option.bind_some]
        rw [if_neg (by simp)]
        exact hk5
      · rw [if_neg (by rw [decide_eq_true_eq]; exact he')]
        exact hk5
    by_cases he : e = 0
    · obtain ⟨h1, h2⟩ := hok he
      rw [if_pos (decide_eq_true he), show m11_msg_PutReq (GMsgReq.mk g.Kind g.Seq g.Token g.Attempt g.RO g.Key g.Val (GApiRange.mk g.Rng.Lo g.Rng.Hi g.Rng.Open)) = some (if saneReq g then (eR (tupOf g), 0) else ([], 1)) from putReq_m g, h1]
      simp only [Option.bind_some, if_true]
      rw [if_neg (by decide), ← h2, if_neg (by simp), show m18_msg_SaneReq (GMsgReq.mk g.Kind g.Seq g.Token g.Attempt g.RO g.Key g.Val (GApiRange.mk g.Rng.Lo g.Rng.Hi g.Rng.Open)) = some (saneReq g) from saneReq_m g, h1]
      simp only [Option.bind_some]
      rw [if_neg (by simp)]
      exact hk3
    · rw [if_neg (by rw [decide_eq_true_eq]; exact he)]
      exact hk3

theorem eR_inj {g h : GMsgReq} (hg : saneReq g = true) (hh : saneReq h = true) (e : eR (tupOf g) = eR (tupOf h)) : g = h := by
  have h1 := readReq_back hg (by have := (eR_len hg).2; omega)
  have h2 := readReq_back hh (by have := (eR_len hh).2; omega)
  rw [e, h2] at h1
  simp only [Option.some.injEq, Prod.mk.injEq] at h1
  exact h1.1.symm
theorem eS5_inj {g h : GMsgReply} (hg : saneRep g = true) (hh : saneRep h = true) (e : eS5 (tupRep g) = eS5 (tupRep h)) : g = h := by
  have h1 := readRep_back hg
  have h2 := readRep_back hh
  rw [e, h2] at h1
  simp only [Option.some.injEq, Prod.mk.injEq] at h1
  exact h1.1.symm

theorem msgSame_true (a0 a1 : GR05Req) (a2 a3 : GR05Reply) : m7_l05_MsgSame a0 a1 a2 a3 = some true := by
  unfold m7_l05_MsgSame
  rw [awake5]
  simp only [Option.bind_some]
  obtain ⟨b1, h1, _⟩ := few_m a0
  obtain ⟨b2, h2, _⟩ := few_m a1
  obtain ⟨b3, h3, h3'⟩ := fewRep_m a2
  obtain ⟨b4, h4, h4'⟩ := fewRep_m a3
  rw [show m10_r05_Few (GR05Req.mk a0.Kind a0.Seq a0.Token a0.Attempt a0.RO a0.Key a0.Val (GApiRange.mk a0.Rng.Lo a0.Rng.Hi a0.Rng.Open)) = some b1 from h1, show m10_r05_Few (GR05Req.mk a1.Kind a1.Seq a1.Token a1.Attempt a1.RO a1.Key a1.Val (GApiRange.mk a1.Rng.Lo a1.Rng.Hi a1.Rng.Open)) = some b2 from h2, h3, h4]
  simp only [Option.bind_some]
  cases b1 with
  | false => rfl
  | true =>
  cases b2 with
  | false => rfl
  | true =>
  cases b3 with
  | false => rfl
  | true =>
  cases b4 with
  | false => rfl
  | true =>
  have l2 := h3' rfl
  have l3 := h4' rfl
  have l2' : (rp a2).List.length ≤ 1000000 := by show a2.List.length ≤ _; omega
  have l3' : (rp a3).List.length ≤ 1000000 := by show a3.List.length ≤ _; omega
  simp only [Bool.not_true, Bool.false_eq_true, if_false]
  obtain ⟨rs, hrs, hrs2⟩ := sameRep_m (rp a2) (rp a2) l2'
  obtain ⟨rt, hrt, hrt2⟩ := sameRep_m (rp a2) (rp a3) l2'
  obtain ⟨rw', hrw, hrw2⟩ := sameReq_m (rq a0) (rq a1)
  unfold m7_l05_MsgSame_k2
  simp only [req_m, reply_m, Option.bind_some]
  rw [show m11_msg_PutReq (GMsgReq.mk (rq (GR05Req.mk a0.Kind a0.Seq a0.Token a0.Attempt a0.RO a0.Key a0.Val (GApiRange.mk a0.Rng.Lo a0.Rng.Hi a0.Rng.Open))).Kind (rq (GR05Req.mk a0.Kind a0.Seq a0.Token a0.Attempt a0.RO a0.Key a0.Val (GApiRange.mk a0.Rng.Lo a0.Rng.Hi a0.Rng.Open))).Seq (rq (GR05Req.mk a0.Kind a0.Seq a0.Token a0.Attempt a0.RO a0.Key a0.Val (GApiRange.mk a0.Rng.Lo a0.Rng.Hi a0.Rng.Open))).Token (rq (GR05Req.mk a0.Kind a0.Seq a0.Token a0.Attempt a0.RO a0.Key a0.Val (GApiRange.mk a0.Rng.Lo a0.Rng.Hi a0.Rng.Open))).Attempt (rq (GR05Req.mk a0.Kind a0.Seq a0.Token a0.Attempt a0.RO a0.Key a0.Val (GApiRange.mk a0.Rng.Lo a0.Rng.Hi a0.Rng.Open))).RO (rq (GR05Req.mk a0.Kind a0.Seq a0.Token a0.Attempt a0.RO a0.Key a0.Val (GApiRange.mk a0.Rng.Lo a0.Rng.Hi a0.Rng.Open))).Key (rq (GR05Req.mk a0.Kind a0.Seq a0.Token a0.Attempt a0.RO a0.Key a0.Val (GApiRange.mk a0.Rng.Lo a0.Rng.Hi a0.Rng.Open))).Val (GApiRange.mk (rq (GR05Req.mk a0.Kind a0.Seq a0.Token a0.Attempt a0.RO a0.Key a0.Val (GApiRange.mk a0.Rng.Lo a0.Rng.Hi a0.Rng.Open))).Rng.Lo (rq (GR05Req.mk a0.Kind a0.Seq a0.Token a0.Attempt a0.RO a0.Key a0.Val (GApiRange.mk a0.Rng.Lo a0.Rng.Hi a0.Rng.Open))).Rng.Hi (rq (GR05Req.mk a0.Kind a0.Seq a0.Token a0.Attempt a0.RO a0.Key a0.Val (GApiRange.mk a0.Rng.Lo a0.Rng.Hi a0.Rng.Open))).Rng.Open)) = some (if saneReq (rq a0) then (eR (tupOf (rq a0)), 0) else ([], 1)) from putReq_m (rq a0)]
  simp only [Option.bind_some]
  have hp1 : ∀ g : GMsgReq, m11_msg_PutReq (GMsgReq.mk g.Kind g.Seq g.Token g.Attempt g.RO g.Key g.Val (GApiRange.mk g.Rng.Lo g.Rng.Hi g.Rng.Open)) = some (if saneReq g then (eR (tupOf g), 0) else ([], 1)) := fun g => putReq_m g
  have hs1 : ∀ g : GMsgReq, m20_msg_SameReq (GMsgReq.mk g.Kind g.Seq g.Token g.Attempt g.RO g.Key g.Val (GApiRange.mk g.Rng.Lo g.Rng.Hi g.Rng.Open)) (GMsgReq.mk g.Kind g.Seq g.Token g.Attempt g.RO g.Key g.Val (GApiRange.mk g.Rng.Lo g.Rng.Hi g.Rng.Open)) = some true := fun g => sameReq_self g
  simp only [hp1, hs1, Option.bind_some, putRep_m (rp a2) l2', putRep_m (rp a3) l3', hrs, hrs2.2 rfl, Bool.not_true, Bool.false_eq_true, if_false]
  have hrep : ∀ (x : Bool), x = true → (if (!decide ((if saneRep (rp a2) then (eS5 (tupRep (rp a2)), (0 : Int)) else ([], 1)).2 = 0)) = true then some true else if (!decide ((if saneRep (rp a3) then (eS5 (tupRep (rp a3)), (0 : Int)) else ([], 1)).2 = 0)) = true then some true else
      (m31_msg_SameReply (rp a2) (rp a3)).bind fun v14 => some (v14 == ((if saneRep (rp a2) then (eS5 (tupRep (rp a2)), (0 : Int)) else ([], 1)).1 == (if saneRep (rp a3) then (eS5 (tupRep (rp a3)), (0 : Int)) else ([], 1)).1))) = some x := by
    intro x hx
    subst hx
    cases k2 : saneRep (rp a2) with
    | false => rfl
    | true =>
      cases k3 : saneRep (rp a3) with
      | false => simp
      | true =>
        simp only [if_true, decide_true, Bool.not_true, Bool.false_eq_true, if_false]
        rw [hrt]
        simp only [Option.bind_some]
        by_cases he : rp a2 = rp a3
        · rw [hrt2.2 he, he]; simp
        · have h5 : rt = false := by
            cases rt with
            | false => rfl
            | true => exact absurd (hrt2.1 rfl) he
          have h6 : eS5 (tupRep (rp a2)) ≠ eS5 (tupRep (rp a3)) := fun e => he (eS5_inj k2 k3 e)
          rw [h5]
          simp [h6]
  unfold m7_l05_MsgSame_k11
  simp only [req_m, reply_m, Option.bind_some, if_true]
  cases k0 : saneReq (rq a0) with
  | false => exact hrep true rfl
  | true =>
    cases k1 : saneReq (rq a1) with
    | false =>
      have k1' : saneReq (rq (GR05Req.mk a1.Kind a1.Seq a1.Token a1.Attempt a1.RO a1.Key a1.Val (GApiRange.mk a1.Rng.Lo a1.Rng.Hi a1.Rng.Open))) = false := k1
      simp only [k1', if_true, decide_true, Bool.not_true, Bool.false_eq_true, if_false]
      exact hrep true rfl
    | true =>
      have k1' : saneReq (rq (GR05Req.mk a1.Kind a1.Seq a1.Token a1.Attempt a1.RO a1.Key a1.Val (GApiRange.mk a1.Rng.Lo a1.Rng.Hi a1.Rng.Open))) = true := k1
      simp only [k1', if_true, decide_true, Bool.not_true, Bool.false_eq_true, if_false]
      have hsr : ∀ (f : Bool → Option Bool), (m20_msg_SameReq (rq a0) (rq a1)).bind f = f rw' := fun f => by rw [hrw]; rfl
      have hb : (rw' == (eR (tupOf (rq a0)) == eR (tupOf (rq a1)))) = true := by
        by_cases he : rq a0 = rq a1
        · rw [hrw2.2 he, he]; simp
        · have h5 : rw' = false := by
            cases rw' with
            | false => rfl
            | true => exact absurd (hrw2.1 rfl) he
          have h6 : eR (tupOf (rq a0)) ≠ eR (tupOf (rq a1)) := fun e => he (eR_inj k0 k1 e)
          rw [h5]
          simp [h6]
      refine (hsr _).trans ?_
      have hb' : (rw' == (eR (tupOf (rq a0)) == eR (tupOf (rq (GR05Req.mk a1.Kind a1.Seq a1.Token a1.Attempt a1.RO a1.Key a1.Val (GApiRange.mk a1.Rng.Lo a1.Rng.Hi a1.Rng.Open)))))) = true := hb
      rw [if_pos hb']
      exact hrep true rfl

theorem eU1_val {k : Int} (h0 : 0 ≤ k) (h1 : k ≤ 255) : ∃ u : UInt8, eU 1 k = [u] ∧ (u.toBitVec.toNat : Int) = k := by
  obtain ⟨m, rfl⟩ : ∃ m : Nat, k = m := ⟨k.toNat, by omega⟩
  refine ⟨UInt8.ofBitVec (((BitVec.ofInt 64 (m : Int)) >>> (8 * 0)).setWidth 8), rfl, ?_⟩
  show (((((BitVec.ofInt 64 (m : Int)) >>> (8 * 0)).setWidth 8).toNat : Nat) : Int) = m
  rw [BitVec.toNat_setWidth, BitVec.toNat_ushiftRight, BitVec.ofInt_natCast, BitVec.toNat_ofNat]
  simp
  omega
theorem msgSeq_true (a0 : GR05Req) (a1 : Int) : m8_l05_MsgSeq a0 a1 = some true := by
  unfold m8_l05_MsgSeq
  rw [awake5]
  simp only [Option.bind_some]
  obtain ⟨b1, h1, _⟩ := few_m a0
  rw [show m10_r05_Few (GR05Req.mk a0.Kind a0.Seq a0.Token a0.Attempt a0.RO a0.Key a0.Val (GApiRange.mk a0.Rng.Lo a0.Rng.Hi a0.Rng.Open)) = some b1 from h1]
  simp only [Option.bind_some]
  cases b1 with
  | false => rfl
  | true =>
  simp only [Bool.not_true, Bool.false_eq_true, if_false]
  have hsn : ∀ g : GMsgReq, m18_msg_SaneReq (GMsgReq.mk g.Kind g.Seq g.Token g.Attempt g.RO g.Key g.Val (GApiRange.mk g.Rng.Lo g.Rng.Hi g.Rng.Open)) = some (saneReq g) := fun g => saneReq_m g
  have hpt : ∀ g : GMsgReq, m11_msg_PutReq (GMsgReq.mk g.Kind g.Seq g.Token g.Attempt g.RO g.Key g.Val (GApiRange.mk g.Rng.Lo g.Rng.Hi g.Rng.Open)) = some (if saneReq g then (eR (tupOf g), 0) else ([], 1)) := fun g => putReq_m g
  simp only [req_m, Option.bind_some, hsn]
  cases hs : saneReq (rq (GR05Req.mk a0.Kind a0.Seq a0.Token a0.Attempt a0.RO a0.Key a0.Val (GApiRange.mk a0.Rng.Lo a0.Rng.Hi a0.Rng.Open))) with
  | false => rfl
  | true =>
  have hs0 : saneReq (rq a0) = true := hs
  simp only [Bool.not_true, Bool.false_eq_true, if_false]
  unfold m8_l05_MsgSeq_k2
  simp only [req_m, Option.bind_some, hpt]
  have hlt : (BitVec.ofInt 64 a1 &&& BitVec.ofInt 64 4294967295).toNat ≤ 4294967295 := by
    rw [BitVec.toNat_and]
    exact Nat.le_trans Nat.and_le_right (by decide)
  generalize hse : (BitVec.ofInt 64 a1 &&& BitVec.ofInt 64 4294967295).toNat = s at *
  rw [wI_id (by omega) (by omega)]
  have hs' : saneReq (rq (GR05Req.mk a0.Kind (s : Int) a0.Token a0.Attempt a0.RO a0.Key a0.Val (GApiRange.mk a0.Rng.Lo a0.Rng.Hi a0.Rng.Open))) = true := by
    unfold saneReq at hs0 ⊢
    simp only [Bool.and_eq_true] at hs0 ⊢
    refine ⟨hs0.1, ?_, hs0.2.2⟩
    show within (s : Int) 4294967295 = true
    simp only [within, Bool.and_eq_true, decide_eq_true_eq]
    omega
  rw [hs, hs']
  simp only [if_true, decide_true, Bool.not_true, Bool.false_eq_true, if_false]
  obtain ⟨hl5, hl200⟩ := eR_len hs0
  obtain ⟨hm5, hm200⟩ := eR_len hs'
  have hk : okKind a0.Kind = true := (sane_VR hs0).2.2.1
  have hkk : 1 ≤ a0.Kind ∧ a0.Kind ≤ 11 := by simpa [okKind] using hk
  obtain ⟨u, hu, hu2⟩ := eU1_val (k := a0.Kind) (by omega) (by omega)
  have e1 : eR (tupOf (rq (GR05Req.mk a0.Kind a0.Seq a0.Token a0.Attempt a0.RO a0.Key a0.Val (GApiRange.mk a0.Rng.Lo a0.Rng.Hi a0.Rng.Open)))) = [u] ++ (eU 4 a0.Seq ++ eP (parts a0.Kind) (tupOf (rq a0)).2.2.2) := by rw [← hu]; rfl
  have e2 : eR (tupOf (rq (GR05Req.mk a0.Kind (s : Int) a0.Token a0.Attempt a0.RO a0.Key a0.Val (GApiRange.mk a0.Rng.Lo a0.Rng.Hi a0.Rng.Open)))) = [u] ++ (eU 4 (s : Int) ++ eP (parts a0.Kind) (tupOf (rq a0)).2.2.2) := by rw [← hu]; rfl
  have hl5' : 5 ≤ (eR (tupOf (rq (GR05Req.mk a0.Kind a0.Seq a0.Token a0.Attempt a0.RO a0.Key a0.Val (GApiRange.mk a0.Rng.Lo a0.Rng.Hi a0.Rng.Open))))).length := hl5
  have hl200' : (eR (tupOf (rq (GR05Req.mk a0.Kind a0.Seq a0.Token a0.Attempt a0.RO a0.Key a0.Val (GApiRange.mk a0.Rng.Lo a0.Rng.Hi a0.Rng.Open))))).length ≤ 200 := hl200
  have hlen : (eR (tupOf (rq (GR05Req.mk a0.Kind a0.Seq a0.Token a0.Attempt a0.RO a0.Key a0.Val (GApiRange.mk a0.Rng.Lo a0.Rng.Hi a0.Rng.Open))))).length = (eR (tupOf (rq (GR05Req.mk a0.Kind (s : Int) a0.Token a0.Attempt a0.RO a0.Key a0.Val (GApiRange.mk a0.Rng.Lo a0.Rng.Hi a0.Rng.Open))))).length := by
    rw [e1, e2]; simp [eU_len]
  rw [if_neg (by simp [hlen]), if_neg (by rw [decide_eq_true_eq]; omega)]
  unfold m8_l05_MsgSeq_k7
  simp only
  rw [readReq_back hs' (by omega)]
  simp only [Option.bind_some, if_true, decide_true]
  rw [hse, wI_id (by omega) (by omega), if_pos (by simp [rq])]
  have i1 : idx (eR (tupOf (rq (GR05Req.mk a0.Kind a0.Seq a0.Token a0.Attempt a0.RO a0.Key a0.Val (GApiRange.mk a0.Rng.Lo a0.Rng.Hi a0.Rng.Open))))) 0 = some u := by rw [e1]; rfl
  have i2 : idx (eR (tupOf (rq (GR05Req.mk a0.Kind (s : Int) a0.Token a0.Attempt a0.RO a0.Key a0.Val (GApiRange.mk a0.Rng.Lo a0.Rng.Hi a0.Rng.Open))))) 0 = some u := by rw [e2]; rfl
  rw [i1, i2]
  simp only [Option.bind_some, decide_true, if_true]
  rw [hu2, wI_id (by omega) (by omega), if_pos (by simp)]
  rw [cut_of (by decide) (by omega) (Int.le_refl _), cut_of (by decide) (by omega) (Int.le_refl _)]
  simp only [Option.bind_some]
  have d1 : (eR (tupOf (rq (GR05Req.mk a0.Kind a0.Seq a0.Token a0.Attempt a0.RO a0.Key a0.Val (GApiRange.mk a0.Rng.Lo a0.Rng.Hi a0.Rng.Open))))).drop 5 = eP (parts a0.Kind) (tupOf (rq a0)).2.2.2 := by
    rw [e1, ← List.append_assoc, List.drop_left' (by simp [eU_len])]
  have d2 : (eR (tupOf (rq (GR05Req.mk a0.Kind (s : Int) a0.Token a0.Attempt a0.RO a0.Key a0.Val (GApiRange.mk a0.Rng.Lo a0.Rng.Hi a0.Rng.Open))))).drop 5 = eP (parts a0.Kind) (tupOf (rq a0)).2.2.2 := by
    rw [e2, ← List.append_assoc, List.drop_left' (by simp [eU_len])]
  rw [show ((5 : Int).toNat) = 5 from rfl, d1, d2, hlen]
  simp
end Go.Proofs.YtljkjkkpogkgbaaDoor.Abs
