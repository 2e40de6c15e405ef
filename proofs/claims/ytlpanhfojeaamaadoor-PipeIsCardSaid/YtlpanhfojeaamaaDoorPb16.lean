/-
  The document's requests and replies that may be are the program's (stage 5), ported.
-/
import Derived.Test.YtlpanhfojeaamaaDoorPc16
namespace Go.Proofs.YtlpanhfojeaamaaDoor.Abs
theorem kinds {k : Int} (h : okKind k = true) : k = 1 ∨ k = 2 ∨ k = 3 ∨ k = 4 ∨ k = 5 ∨ k = 6 ∨ k = 7 ∨ k = 8 ∨ k = 9 ∨ k = 10 ∨ k = 11 := by
  simp only [okKind, Bool.and_eq_true, decide_eq_true_eq] at h
  omega
theorem nokind {k : Int} (h : ¬ okKind k = true) : (k < 1 ∨ 11 < k) ∧ parts k = zparts := by
  refine ⟨?_, by unfold parts; rw [if_neg h]⟩
  simp only [okKind, Bool.and_eq_true, decide_eq_true_eq] at h
  omega
theorem f37 (k : Int) : m49_r05_token k = some (parts k).token_ := by
  by_cases h : okKind k = true
  · rcases kinds h with rfl | rfl | rfl | rfl | rfl | rfl | rfl | rfl | rfl | rfl | rfl <;> rfl
  · obtain ⟨h1, h2⟩ := nokind h
    rw [h2]
    unfold m49_r05_token
    rw [if_neg (by rw [decide_eq_true_eq]; omega), if_neg (by rw [decide_eq_true_eq]; omega), if_neg (by rw [decide_eq_true_eq]; omega), decide_eq_false (by omega)]; rfl
theorem f38 (k : Int) : m50_r05_attempt k = some (parts k).attempt_ := by
  by_cases h : okKind k = true
  · rcases kinds h with rfl | rfl | rfl | rfl | rfl | rfl | rfl | rfl | rfl | rfl | rfl <;> rfl
  · obtain ⟨h1, h2⟩ := nokind h
    rw [h2]
    unfold m50_r05_attempt
    rw [if_neg (by rw [decide_eq_true_eq]; omega), if_neg (by rw [decide_eq_true_eq]; omega), decide_eq_false (by omega)]; rfl
theorem f39 (k : Int) : m51_r05_flag k = some (parts k).ro_ := by
  by_cases h : okKind k = true
  · rcases kinds h with rfl | rfl | rfl | rfl | rfl | rfl | rfl | rfl | rfl | rfl | rfl <;> rfl
  · obtain ⟨h1, h2⟩ := nokind h
    rw [h2]
    unfold m51_r05_flag
    rw [decide_eq_false (by omega)]; rfl
theorem f41 (k : Int) : m52_r05_key k = some (parts k).key_ := by
  by_cases h : okKind k = true
  · rcases kinds h with rfl | rfl | rfl | rfl | rfl | rfl | rfl | rfl | rfl | rfl | rfl <;> rfl
  · obtain ⟨h1, h2⟩ := nokind h
    rw [h2]
    unfold m52_r05_key
    by_cases h3 : 3 ≤ k
    · rw [if_pos (decide_eq_true h3), decide_eq_false (by omega)]; rfl
    · rw [if_neg (by rw [decide_eq_true_eq]; exact h3)]; rfl
theorem f43 (k : Int) : m53_r05_val k = some (parts k).val_ := by
  by_cases h : okKind k = true
  · rcases kinds h with rfl | rfl | rfl | rfl | rfl | rfl | rfl | rfl | rfl | rfl | rfl <;> rfl
  · obtain ⟨h1, h2⟩ := nokind h
    rw [h2]
    unfold m53_r05_val
    rw [decide_eq_false (by omega)]; rfl
theorem f44 (k : Int) : m55_r05_rng k = some (parts k).rng_ := by
  by_cases h : okKind k = true
  · rcases kinds h with rfl | rfl | rfl | rfl | rfl | rfl | rfl | rfl | rfl | rfl | rfl <;> rfl
  · obtain ⟨h1, h2⟩ := nokind h
    rw [h2]
    unfold m55_r05_rng
    rw [decide_eq_false (by omega)]; rfl

theorem plain_m (r : GApiRange) : m54_r05_plain r = some (decide ((r.Lo.length : Int) ≤ 16) && (decide ((r.Hi.length : Int) ≤ 16) && (!r.Open || decide ((r.Hi.length : Int) = 0)))) := by
  unfold m54_r05_plain
  by_cases h1 : (r.Lo.length : Int) ≤ 16
  · by_cases h2 : (r.Hi.length : Int) ≤ 16
    · simp only [decide_eq_true h1, decide_eq_true h2, if_true, Bool.true_and]
      cases r.Open
      · rfl
      · by_cases h3 : (r.Hi.length : Int) = 0
        · simp [h3]
        · have : (0 : Int) < (r.Hi.length : Int) := by omega
          simp only [decide_eq_true this, decide_eq_false h3, if_true]; rfl
    · simp [h1, h2]
  · simp [h1]
theorem k3_bool (lo hi : Int) (op g : Bool) (h0 : 0 ≤ hi) : ∃ b, (if (decide (lo ≤ 16) && (decide (hi ≤ 16) && (!op || decide (hi = 0)))) = true then (if g = true then some true else if decide (lo = 0) = true then (if decide (hi = 0) = true then some (!op) else some false) else some false) else some false) = some b ∧
    (b = true ↔ (if g = true then decide (lo ≤ 16) && (if (!op) = true then decide (0 ≤ hi) && decide (hi ≤ 16) else decide (hi = 0)) else decide (lo = 0) && (decide (hi = 0) && !op)) = true) := by
  by_cases l1 : lo ≤ 16 <;> by_cases l2 : hi ≤ 16 <;> by_cases l3 : lo = 0 <;> by_cases l4 : hi = 0 <;> cases op <;> cases g <;> first | omega | (simp only [l1, l2, l3, l4, h0, decide_true, decide_false, Bool.true_and, Bool.false_and, Bool.and_true, Bool.and_false, Bool.not_true, Bool.not_false, Bool.or_true, Bool.or_false, Bool.true_or, Bool.false_or, if_true, if_false, Bool.false_eq_true]; exact ⟨_, rfl, by simp⟩)
theorem k2_bool (kl vl : Int) (k v b3 r : Bool) (x : Option Bool) (hk : 0 ≤ kl) (hv : 0 ≤ vl) (hx : x = some b3) (h : b3 = true ↔ r = true) : ∃ b,
    (if k = true then (if decide (kl < 1) = true then some false else if decide (16 < kl) = true then some false else if (!k) = true then (if decide (0 < kl) = true then some false else if decide (32 < vl) = true then some false else if (!v) = true then (if decide (0 < vl) = true then some false else x) else x) else if decide (32 < vl) = true then some false else if (!v) = true then (if decide (0 < vl) = true then some false else x) else x)
     else if (!k) = true then (if decide (0 < kl) = true then some false else if decide (32 < vl) = true then some false else if (!v) = true then (if decide (0 < vl) = true then some false else x) else x) else if decide (32 < vl) = true then some false else if (!v) = true then (if decide (0 < vl) = true then some false else x) else x) = some b ∧
    (b = true ↔ ((if k = true then decide (1 ≤ kl) && decide (kl ≤ 16) else decide (kl = 0)) && ((if v = true then decide (0 ≤ vl) && decide (vl ≤ 32) else decide (vl = 0)) && r)) = true) := by
  subst hx
  have e1 : (kl < 1) ↔ ¬ (1 ≤ kl) := by omega
  have e2 : (16 < kl) ↔ ¬ (kl ≤ 16) := by omega
  have e3 : (32 < vl) ↔ ¬ (vl ≤ 32) := by omega
  have e4 : (0 < kl) ↔ ¬ (kl = 0) := by omega
  have e5 : (0 < vl) ↔ ¬ (vl = 0) := by omega
  by_cases l1 : 1 ≤ kl <;> by_cases l2 : kl ≤ 16 <;> by_cases l3 : vl ≤ 32 <;> by_cases l4 : kl = 0 <;> by_cases l5 : vl = 0 <;> cases k <;> cases v <;> first | omega | (simp only [e1, e2, e3, e4, e5, l1, l2, l3, l4, l5, hv, not_true_eq_false, not_false_eq_true, decide_true, decide_false, Bool.true_and, Bool.false_and, Bool.and_true, Bool.and_false, Bool.not_true, Bool.not_false, if_true, if_false, Bool.false_eq_true]; first | exact ⟨b3, rfl, h⟩ | exact ⟨false, rfl, by simp⟩)
theorem k1_bool (t a r ro : Bool) (tk at_ : Int) (b2 q : Bool) (x : Option Bool) (hx : x = some b2) (h : b2 = true ↔ q = true) : ∃ b,
    (if (!t) = true then (if (!decide (tk = 0)) = true then some false else if (!a) = true then (if (!decide (at_ = 0)) = true then some false else if (!r) = true then (if ro = true then some false else x) else x) else if (!r) = true then (if ro = true then some false else x) else x)
     else if (!a) = true then (if (!decide (at_ = 0)) = true then some false else if (!r) = true then (if ro = true then some false else x) else x) else if (!r) = true then (if ro = true then some false else x) else x) = some b ∧
    (b = true ↔ ((if t = true then true else decide (tk = 0)) && ((if a = true then true else decide (at_ = 0)) && ((r || !ro) && q))) = true) := by
  subst hx
  by_cases l1 : tk = 0 <;> by_cases l2 : at_ = 0 <;> cases t <;> cases a <;> cases r <;> cases ro <;> simp only [l1, l2, decide_true, decide_false, Bool.true_and, Bool.false_and, Bool.and_true, Bool.and_false, Bool.not_true, Bool.not_false, Bool.or_true, Bool.or_false, Bool.true_or, Bool.false_or, if_true, if_false, Bool.false_eq_true] <;> first | exact ⟨b2, rfl, h⟩ | exact ⟨false, rfl, by simp⟩
theorem saneRef (a : GR05Req) : ∃ b, m31_r05_SaneReq a = some b ∧ (b = true ↔ saneReq (rq a) = true) := by
  have nok : ¬ okKind a.Kind = true → (false = true ↔ saneReq (rq a) = true) := fun h => ⟨fun h' => (by cases h'), fun h' => by
    unfold saneReq at h'
    simp only [Bool.and_eq_true] at h'
    exact absurd h'.1 h⟩
  have nse : ¬ within a.Seq 4294967295 = true → (false = true ↔ saneReq (rq a) = true) := fun h => ⟨fun h' => (by cases h'), fun h' => by
    unfold saneReq at h'
    simp only [Bool.and_eq_true] at h'
    exact absurd h'.2.1 h⟩
  unfold m31_r05_SaneReq
  by_cases h1 : a.Kind < 1
  · exact ⟨false, by rw [if_pos (decide_eq_true h1)], nok (by simp only [okKind, Bool.and_eq_true, decide_eq_true_eq]; omega)⟩
  rw [if_neg (by rw [decide_eq_true_eq]; exact h1)]
  by_cases h2 : 11 < a.Kind
  · exact ⟨false, by rw [if_pos (decide_eq_true h2)], nok (by simp only [okKind, Bool.and_eq_true, decide_eq_true_eq]; omega)⟩
  rw [if_neg (by rw [decide_eq_true_eq]; exact h2)]
  have hok : okKind a.Kind = true := by simp only [okKind, Bool.and_eq_true, decide_eq_true_eq]; omega
  by_cases h3 : a.Seq < 0
  · exact ⟨false, by rw [if_pos (decide_eq_true h3)], nse (by simp only [within, Bool.and_eq_true, decide_eq_true_eq]; omega)⟩
  rw [if_neg (by rw [decide_eq_true_eq]; exact h3)]
  by_cases h4 : 4294967295 < a.Seq
  · exact ⟨false, by rw [if_pos (decide_eq_true h4)], nse (by simp only [within, Bool.and_eq_true, decide_eq_true_eq]; omega)⟩
  rw [if_neg (by rw [decide_eq_true_eq]; exact h4)]
  have hseq : within a.Seq 4294967295 = true := by simp only [within, Bool.and_eq_true, decide_eq_true_eq]; omega
  have htok : ∀ n : Int, 0 ≤ n → (a.Token < 0 ∨ n < a.Token) → saneNum (parts a.Kind).token_ a.Token n = false := fun n hn h => by
    unfold saneNum within
    cases (parts a.Kind).token_
    · exact decide_eq_false (by omega)
    · simp only [if_true, Bool.and_eq_false_iff, decide_eq_false_iff_not]; omega
  have hatt : ∀ n : Int, 0 ≤ n → (a.Attempt < 0 ∨ n < a.Attempt) → saneNum (parts a.Kind).attempt_ a.Attempt n = false := fun n hn h => by
    unfold saneNum within
    cases (parts a.Kind).attempt_
    · exact decide_eq_false (by omega)
    · simp only [if_true, Bool.and_eq_false_iff, decide_eq_false_iff_not]; omega
  have hsr : saneReq (rq a) = (saneNum (parts a.Kind).token_ a.Token 1099511627776 && (saneNum (parts a.Kind).attempt_ a.Attempt 65535 && (((parts a.Kind).ro_ || !a.RO) && (saneBytes (parts a.Kind).key_ a.Key 1 16 && (saneBytes (parts a.Kind).val_ a.Val 0 32 && saneRng (parts a.Kind).rng_ (rq a).Rng))))) := by
    show (okKind a.Kind && (within a.Seq 4294967295 && _)) = _
    rw [hok, hseq]; rfl
  rw [hsr]
  by_cases h5 : a.Token < 0
  · exact ⟨false, by rw [if_pos (decide_eq_true h5)], by rw [htok _ (by decide) (.inl h5)]; simp⟩
  rw [if_neg (by rw [decide_eq_true_eq]; exact h5)]
  by_cases h6 : 1099511627776 < a.Token
  · exact ⟨false, by rw [if_pos (decide_eq_true h6)], by rw [htok _ (by decide) (.inr h6)]; simp⟩
  rw [if_neg (by rw [decide_eq_true_eq]; exact h6)]
  by_cases h7 : a.Attempt < 0
  · exact ⟨false, by rw [if_pos (decide_eq_true h7)], by rw [hatt _ (by decide) (.inl h7)]; simp⟩
  rw [if_neg (by rw [decide_eq_true_eq]; exact h7)]
  by_cases h8 : 65535 < a.Attempt
  · exact ⟨false, by rw [if_pos (decide_eq_true h8)], by rw [hatt _ (by decide) (.inr h8)]; simp⟩
  rw [if_neg (by rw [decide_eq_true_eq]; exact h8)]
  have wt : within a.Token 1099511627776 = true := by simp only [within, Bool.and_eq_true, decide_eq_true_eq]; omega
  have wa : within a.Attempt 65535 = true := by simp only [within, Bool.and_eq_true, decide_eq_true_eq]; omega
  have hk3 : ∃ b, m31_r05_SaneReq_k3 a () = some b ∧ (b = true ↔ saneRng (parts a.Kind).rng_ (rq a).Rng = true) := by
    unfold m31_r05_SaneReq_k3 saneRng saneBytes
    rw [plain_m, f44]
    simp only [Option.bind_some]
    exact k3_bool (a.Rng.Lo.length : Int) (a.Rng.Hi.length : Int) a.Rng.Open (parts a.Kind).rng_ (by omega)
  obtain ⟨b3, hb3, hb3'⟩ := hk3
  have hk2 : ∃ b, m31_r05_SaneReq_k2 a () = some b ∧ (b = true ↔ (saneBytes (parts a.Kind).key_ a.Key 1 16 && (saneBytes (parts a.Kind).val_ a.Val 0 32 && saneRng (parts a.Kind).rng_ (rq a).Rng)) = true) := by
    unfold m31_r05_SaneReq_k2 saneBytes
    rw [f41, f43]
    simp only [Option.bind_some]
    exact k2_bool (a.Key.length : Int) (a.Val.length : Int) (parts a.Kind).key_ (parts a.Kind).val_ b3 _ _ (by omega) (by omega) hb3 hb3'
  obtain ⟨b2, hb2, hb2'⟩ := hk2
  unfold m31_r05_SaneReq_k1
  rw [f37, f38, f39]
  simp only [Option.bind_some]
  unfold saneNum
  rw [wt, wa]
  exact k1_bool (parts a.Kind).token_ (parts a.Kind).attempt_ (parts a.Kind).ro_ a.RO a.Token a.Attempt b2 _ _ hb2 hb2'
theorem saneRef_m (a : GR05Req) : m31_r05_SaneReq a = some (saneReq (rq a)) := by
  obtain ⟨b, h, h2⟩ := saneRef a
  rw [h]
  cases b <;> cases hs : saneReq (rq a) <;> simp_all
theorem saneRefRep (a : GR05Reply) (hll : a.List.length ≤ 1000000) : ∃ b, m41_r05_SaneReply a = some b ∧ (b = true ↔ saneRep (rp a) = true) := by
  have hs : saneRep (rp a) = (a.List.all okV && (okRep a.Kind && (within a.Seq 4294967295 && (within a.Code 255 && (within a.N 1099511627776 && (saneBytes a.Found a.Val 0 32 && decide ((a.List.length : Int) ≤ 8))))))) := rfl
  rw [hs]
  have hno : ∀ {q : Bool}, q = false → ∃ b, (some false : Option Bool) = some b ∧ (b = true ↔ q = true) := fun h => ⟨false, rfl, by rw [h]⟩
  have wf : ∀ {x n : Int}, (x < 0 ∨ n < x) → within x n = false := fun {x n} h => by
    simp only [within, Bool.and_eq_false_iff, decide_eq_false_iff_not]; omega
  have wt : ∀ {x n : Int}, ¬ x < 0 → ¬ n < x → within x n = true := fun {x n} h1 h2 => by
    simp only [within, Bool.and_eq_true, decide_eq_true_eq]; omega
  unfold m41_r05_SaneReply
  by_cases h1 : a.Kind < 0
  · rw [if_pos (decide_eq_true h1)]
    have : okRep a.Kind = false := by
      simp only [okRep, okKind, Bool.or_eq_false_iff, Bool.and_eq_false_iff, decide_eq_false_iff_not]; omega
    exact hno (by rw [this]; simp)
  rw [if_neg (by rw [decide_eq_true_eq]; exact h1)]
  by_cases h2 : 11 < a.Kind
  · rw [if_pos (decide_eq_true h2)]
    have : okRep a.Kind = false := by
      simp only [okRep, okKind, Bool.or_eq_false_iff, Bool.and_eq_false_iff, decide_eq_false_iff_not]; omega
    exact hno (by rw [this]; simp)
  rw [if_neg (by rw [decide_eq_true_eq]; exact h2)]
  have hk : okRep a.Kind = true := by
    simp only [okRep, okKind, Bool.or_eq_true, Bool.and_eq_true, decide_eq_true_eq]; omega
  by_cases h3 : a.Seq < 0
  · rw [if_pos (decide_eq_true h3)]; exact hno (by rw [wf (x := a.Seq) (.inl h3)]; simp)
  rw [if_neg (by rw [decide_eq_true_eq]; exact h3)]
  by_cases h4 : 4294967295 < a.Seq
  · rw [if_pos (decide_eq_true h4)]; exact hno (by rw [wf (x := a.Seq) (.inr h4)]; simp)
  rw [if_neg (by rw [decide_eq_true_eq]; exact h4)]
  by_cases h5 : a.Code < 0
  · rw [if_pos (decide_eq_true h5)]; exact hno (by rw [wf (x := a.Code) (.inl h5)]; simp)
  rw [if_neg (by rw [decide_eq_true_eq]; exact h5)]
  by_cases h6 : 255 < a.Code
  · rw [if_pos (decide_eq_true h6)]; exact hno (by rw [wf (x := a.Code) (.inr h6)]; simp)
  rw [if_neg (by rw [decide_eq_true_eq]; exact h6)]
  by_cases h7 : a.N < 0
  · rw [if_pos (decide_eq_true h7)]; exact hno (by rw [wf (x := a.N) (.inl h7)]; simp)
  rw [if_neg (by rw [decide_eq_true_eq]; exact h7)]
  by_cases h8 : 1099511627776 < a.N
  · rw [if_pos (decide_eq_true h8)]; exact hno (by rw [wf (x := a.N) (.inr h8)]; simp)
  rw [if_neg (by rw [decide_eq_true_eq]; exact h8)]
  rw [hk, wt h3 h4, wt h5 h6, wt h7 h8]
  simp only [Bool.true_and]
  by_cases h9 : 32 < (a.Val.length : Int)
  · rw [if_pos (decide_eq_true h9)]
    have : saneBytes a.Found a.Val 0 32 = false := by
      unfold saneBytes
      cases a.Found
      · exact decide_eq_false (by omega)
      · simp only [if_true, Bool.and_eq_false_iff, decide_eq_false_iff_not]; omega
    exact hno (by rw [this]; simp)
  rw [if_neg (by rw [decide_eq_true_eq]; exact h9)]
  have hloop : ∃ b, m41_r05_SaneReply_k1 a () = some b ∧ (b = true ↔ a.List.all okV = true) := by
    unfold m41_r05_SaneReply_k1
    obtain ⟨r, hr, hR⟩ := iter_inv (f := m41_r05_SaneReply_s3 a) (P := fun s => 0 ≤ s ∧ s ≤ (a.List.length : Int) ∧ ∀ j, j < s.toNat → ∀ x, a.List[j]? = some x → okV x = true) (μ := fun s => a.List.length - s.toNat)
      (R := fun r => match r with | .inl r => r = false ∧ a.List.all okV = false | .inr _ => a.List.all okV = true)
      (fun s hs => by
        obtain ⟨h0, h1, h2⟩ := hs
        unfold m41_r05_SaneReply_s3
        by_cases hlt : s < (a.List.length : Int)
        · obtain ⟨x, hx, hx'⟩ := idx_get h0 hlt
          rw [if_pos (decide_eq_true hlt), hx]
          simp only [Option.bind_some]
          have hbad : okV x = false → a.List.all okV = false := fun h => by
            rw [List.all_eq_false]
            exact ⟨x, List.mem_of_getElem? hx', by simp [h]⟩
          by_cases k1 : (x.Key.length : Int) < 1
          · exact .inr (.inr ⟨false, by rw [if_pos (decide_eq_true k1)], rfl, hbad (by simp only [okV, saneBytes, if_true, Bool.and_eq_false_iff, decide_eq_false_iff_not]; omega)⟩)
          · rw [if_neg (by rw [decide_eq_true_eq]; exact k1)]
            by_cases k2 : (16 : Int) < (x.Key.length : Int)
            · exact .inr (.inr ⟨false, by rw [if_pos (decide_eq_true k2)], rfl, hbad (by simp only [okV, saneBytes, if_true, Bool.and_eq_false_iff, decide_eq_false_iff_not]; omega)⟩)
            · rw [if_neg (by rw [decide_eq_true_eq]; exact k2)]
              by_cases k3 : (32 : Int) < (x.Val.length : Int)
              · exact .inr (.inr ⟨false, by rw [if_pos (decide_eq_true k3)], rfl, hbad (by simp only [okV, saneBytes, if_true, Bool.and_eq_false_iff, decide_eq_false_iff_not]; omega)⟩)
              · refine .inl ⟨s + 1, by rw [if_neg (by rw [decide_eq_true_eq]; exact k3), wI_id (by omega) (by omega)], ⟨by omega, by omega, fun j hj y hy => ?_⟩, by omega⟩
                by_cases hj' : j < s.toNat
                · exact h2 j hj' y hy
                · have : j = s.toNat := by omega
                  subst this
                  rw [hx'] at hy
                  cases hy
                  simp only [okV, saneBytes, if_true, Bool.and_eq_true, decide_eq_true_eq]; omega
        · refine .inr (.inl ⟨(), by rw [if_neg (by rw [decide_eq_true_eq]; exact hlt)], ?_⟩)
          show a.List.all okV = true
          rw [List.all_eq_true]
          intro x hx
          obtain ⟨j, hj, hjx⟩ := List.getElem_of_mem hx
          exact h2 j (by omega) x (by rw [List.getElem?_eq_getElem hj, hjx])) fuel 0 ⟨by omega, by omega, fun j hj => by simp at hj⟩ (lt_fuel (by simp; omega))
    rw [hr]
    simp only [Option.bind_some]
    cases r with
    | inl r => obtain ⟨rfl, h⟩ := hR; exact ⟨false, rfl, by rw [h]⟩
    | inr u =>
      have h : a.List.all okV = true := hR
      exact ⟨true, rfl, by rw [h]⟩
  obtain ⟨b, hb, hb2⟩ := hloop
  have hfin : ∀ q : Bool, q = true → ∃ b, (if decide (8 < (a.List.length : Int)) = true then some false else m41_r05_SaneReply_k1 a ()) = some b ∧ (b = true ↔ (a.List.all okV && (q && decide ((a.List.length : Int) ≤ 8))) = true) := by
    intro q hq
    subst hq
    by_cases h10 : 8 < (a.List.length : Int)
    · rw [if_pos (decide_eq_true h10)]
      exact hno (by rw [decide_eq_false (show ¬ (a.List.length : Int) ≤ 8 by omega)]; simp)
    · rw [if_neg (by rw [decide_eq_true_eq]; exact h10), hb, decide_eq_true (show (a.List.length : Int) ≤ 8 by omega)]
      exact ⟨b, rfl, by rw [hb2]; simp⟩
  cases hf : a.Found with
  | false =>
    rw [if_pos (show (!false) = true from rfl)]
    by_cases h11 : 0 < (a.Val.length : Int)
    · rw [if_pos (decide_eq_true h11)]
      have : saneBytes false a.Val 0 32 = false := decide_eq_false (by omega)
      exact hno (by rw [this]; simp)
    · rw [if_neg (by rw [decide_eq_true_eq]; exact h11)]
      exact hfin _ (decide_eq_true (by omega))
  | true =>
    rw [if_neg (by simp)]
    exact hfin _ (by simp only [saneBytes, if_true, Bool.and_eq_true, decide_eq_true_eq]; omega)
theorem saneRefRep_m (a : GR05Reply) (hll : a.List.length ≤ 1000000) : m41_r05_SaneReply a = some (saneRep (rp a)) := by
  obtain ⟨b, h, h2⟩ := saneRefRep a hll
  rw [h]
  cases b <;> cases hs : saneRep (rp a) <;> simp_all
end Go.Proofs.YtlpanhfojeaamaaDoor.Abs
