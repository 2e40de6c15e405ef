/-
  Requests that may be (stage 5): the program and the document agree. Ported.
-/
import Derived.Test.YtlpanhfojeaamaaDoorT16
namespace Go.Proofs.YtlpanhfojeaamaaDoor.Abs

def rq (a : GR05Req) : GMsgReq := GMsgReq.mk a.Kind a.Seq a.Token a.Attempt a.RO a.Key a.Val (GApiRange.mk a.Rng.Lo a.Rng.Hi a.Rng.Open)
def okKind (k : Int) : Bool := decide (1 ≤ k) && decide (k ≤ 11)
theorem isKind_m (k : Int) : m57_msg_isKind k = some (okKind k) := by
  unfold m57_msg_isKind okKind
  by_cases h : 1 ≤ k
  · rw [if_pos (decide_eq_true h), decide_eq_true h]; rfl
  · rw [if_neg (by rw [decide_eq_true_eq]; exact h), decide_eq_false h]; rfl
def zparts : GMsgParts := ⟨false, false, false, false, false, false⟩
def parts (k : Int) : GMsgParts := if okKind k then (tab0[k.toNat]?).getD zparts else zparts
theorem partsOf_m (k : Int) : m56_msg_partsOf k = some (parts k) := by
  unfold m56_msg_partsOf parts
  rw [isKind_m]
  simp only [Option.bind_some]
  cases h : okKind k with
  | false => rfl
  | true =>
    simp only [okKind, Bool.and_eq_true, decide_eq_true_eq] at h
    rw [if_neg (by simp), if_pos rfl]
    have hl : k.toNat < tab0.length := by show k.toNat < 12; omega
    unfold idx
    rw [if_pos (by omega), List.getElem?_eq_getElem hl]
    rfl

/-- A kind that there is not. -/
def within (a n : Int) : Bool := decide (0 ≤ a) && decide (a ≤ n)
theorem within_m (a n : Int) : m58_msg_within a n = some (within a n) := by
  unfold m58_msg_within within
  by_cases h : 0 ≤ a
  · rw [if_pos (decide_eq_true h), decide_eq_true h]; rfl
  · rw [if_neg (by rw [decide_eq_true_eq]; exact h), decide_eq_false h]; rfl
def saneNum (b : Bool) (a n : Int) : Bool := if b then within a n else decide (a = 0)
theorem saneNum_m (b : Bool) (a n : Int) : m59_msg_saneNum b a n = some (saneNum b a n) := by
  unfold m59_msg_saneNum saneNum
  rw [within_m]
  cases b <;> rfl
def saneBytes (b : Bool) (x : List UInt8) (lo hi : Int) : Bool := if b then decide (lo ≤ (x.length : Int)) && decide ((x.length : Int) ≤ hi) else decide ((x.length : Int) = 0)
theorem saneBytes_m (b : Bool) (x : List UInt8) (lo hi : Int) : m60_msg_saneBytes b x lo hi = some (saneBytes b x lo hi) := by
  unfold m60_msg_saneBytes saneBytes
  cases b
  · rfl
  · by_cases h : lo ≤ (x.length : Int)
    · rw [decide_eq_true h]; rfl
    · rw [decide_eq_false h]; rfl
def saneRng (b : Bool) (r : GApiRange) : Bool := if b then decide ((r.Lo.length : Int) ≤ 16) && saneBytes (!r.Open) r.Hi 0 16 else decide ((r.Lo.length : Int) = 0) && (decide ((r.Hi.length : Int) = 0) && !r.Open)
theorem saneRng_m (b : Bool) (r : GApiRange) : m61_msg_saneRng b r = some (saneRng b r) := by
  unfold m61_msg_saneRng saneRng
  rw [saneBytes_m]
  cases b
  · by_cases h : (r.Lo.length : Int) = 0
    · rw [decide_eq_true h]
      by_cases h2 : (r.Hi.length : Int) = 0
      · rw [decide_eq_true h2]; rfl
      · rw [decide_eq_false h2]; rfl
    · rw [decide_eq_false h]; rfl
  · by_cases h : (r.Lo.length : Int) ≤ 16
    · rw [decide_eq_true h]; rfl
    · rw [decide_eq_false h]; rfl
def saneReq (g : GMsgReq) : Bool :=
  okKind g.Kind && (within g.Seq 4294967295 && (saneNum (parts g.Kind).token_ g.Token 1099511627776 && (saneNum (parts g.Kind).attempt_ g.Attempt 65535 && (((parts g.Kind).ro_ || !g.RO) && (saneBytes (parts g.Kind).key_ g.Key 1 16 && (saneBytes (parts g.Kind).val_ g.Val 0 32 && saneRng (parts g.Kind).rng_ g.Rng))))))
theorem saneReq_m (g : GMsgReq) : m32_msg_SaneReq g = some (saneReq g) := by
  unfold m32_msg_SaneReq saneReq
  simp only [partsOf_m, isKind_m, within_m, saneNum_m, saneBytes_m, saneRng_m, Option.bind_some]
  cases okKind g.Kind
  · rfl
  cases within g.Seq 4294967295
  · rfl
  cases saneNum (parts g.Kind).token_ g.Token 1099511627776
  · rfl
  cases saneNum (parts g.Kind).attempt_ g.Attempt 65535
  · rfl
  cases (parts g.Kind).ro_ <;> cases g.RO <;> cases saneBytes (parts g.Kind).key_ g.Key 1 16 <;> cases saneBytes (parts g.Kind).val_ g.Val 0 32 <;> rfl

theorem kinds {k : Int} (h : okKind k = true) : k = 1 ∨ k = 2 ∨ k = 3 ∨ k = 4 ∨ k = 5 ∨ k = 6 ∨ k = 7 ∨ k = 8 ∨ k = 9 ∨ k = 10 ∨ k = 11 := by
  simp only [okKind, Bool.and_eq_true, decide_eq_true_eq] at h
  omega
theorem nokind {k : Int} (h : ¬ okKind k = true) : (k < 1 ∨ 11 < k) ∧ parts k = zparts := by
  refine ⟨?_, by unfold parts; rw [if_neg h]⟩
  simp only [okKind, Bool.and_eq_true, decide_eq_true_eq] at h
  omega
theorem f37 (k : Int) : m49_r05_token k = some (parts k).token_ := by
  by_cases h : okKind k = true
  · rcases kinds h with rfl | rfl | rfl | rfl | rfl | rfl | rfl | rfl | rfl | rfl | rfl <;> rfl
  · obtain ⟨h1, h2⟩ := nokind h
    rw [h2]
    unfold m49_r05_token
    rw [if_neg (by rw [decide_eq_true_eq]; omega), if_neg (by rw [decide_eq_true_eq]; omega), if_neg (by rw [decide_eq_true_eq]; omega), decide_eq_false (by omega)]; rfl
theorem f38 (k : Int) : m50_r05_attempt k = some (parts k).attempt_ := by
  by_cases h : okKind k = true
  · rcases kinds h with rfl | rfl | rfl | rfl | rfl | rfl | rfl | rfl | rfl | rfl | rfl <;> rfl
  · obtain ⟨h1, h2⟩ := nokind h
    rw [h2]
    unfold m50_r05_attempt
    rw [if_neg (by rw [decide_eq_true_eq]; omega), if_neg (by rw [decide_eq_true_eq]; omega), decide_eq_false (by omega)]; rfl
theorem f39 (k : Int) : m51_r05_flag k = some (parts k).ro_ := by
  by_cases h : okKind k = true
  · rcases kinds h with rfl | rfl | rfl | rfl | rfl | rfl | rfl | rfl | rfl | rfl | rfl <;> rfl
  · obtain ⟨h1, h2⟩ := nokind h
    rw [h2]
    unfold m51_r05_flag
    rw [decide_eq_false (by omega)]; rfl
theorem f41 (k : Int) : m52_r05_key k = some (parts k).key_ := by
  by_cases h : okKind k = true
  · rcases kinds h with rfl | rfl | rfl | rfl | rfl | rfl | rfl | rfl | rfl | rfl | rfl <;> rfl
  · obtain ⟨h1, h2⟩ := nokind h
    rw [h2]
    unfold m52_r05_key
    by_cases h3 : 3 ≤ k
    · rw [if_pos (decide_eq_true h3), decide_eq_false (by omega)]; rfl
    · rw [if_neg (by rw [decide_eq_true_eq]; exact h3)]; rfl
theorem f43 (k : Int) : m53_r05_val k = some (parts k).val_ := by
  by_cases h : okKind k = true
  · rcases kinds h with rfl | rfl | rfl | rfl | rfl | rfl | rfl | rfl | rfl | rfl | rfl <;> rfl
  · obtain ⟨h1, h2⟩ := nokind h
    rw [h2]
    unfold m53_r05_val
    rw [decide_eq_false (by omega)]; rfl
theorem f44 (k : Int) : m55_r05_rng k = some (parts k).rng_ := by
  by_cases h : okKind k = true
  · rcases kinds h with rfl | rfl | rfl | rfl | rfl | rfl | rfl | rfl | rfl | rfl | rfl <;> rfl
  · obtain ⟨h1, h2⟩ := nokind h
    rw [h2]
    unfold m55_r05_rng
    rw [decide_eq_false (by omega)]; rfl

theorem plain_m (r : GApiRange) : m54_r05_plain r = some (decide ((r.Lo.length : Int) ≤ 16) && (decide ((r.Hi.length : Int) ≤ 16) && (!r.Open || decide ((r.Hi.length : Int) = 0)))) := by
  unfold m54_r05_plain
  by_cases h1 : (r.Lo.length : Int) ≤ 16
  · by_cases h2 : (r.Hi.length : Int) ≤ 16
    · simp only [decide_eq_true h1, decide_eq_true h2, if_true, Bool.true_and]
      cases r.Open
      · rfl
      · by_cases h3 : (r.Hi.length : Int) = 0
        · simp [h3]
        · have : (0 : Int) < (r.Hi.length : Int) := by omega
          simp only [decide_eq_true this, decide_eq_false h3, if_true]; rfl
    · simp [h1, h2]
  · simp [h1]
theorem k3_bool (lo hi : Int) (op g : Bool) (h0 : 0 ≤ hi) : ∃ b, (if (decide (lo ≤ 16) && (decide (hi ≤ 16) && (!op || decide (hi = 0)))) = true then (if g = true then some true else if decide (lo = 0) = true then (if decide (hi = 0) = true then some (!op) else some false) else some false) else some false) = some b ∧
    (b = true ↔ (if g = true then decide (lo ≤ 16) && (if (!op) = true then decide (0 ≤ hi) && decide (hi ≤ 16) else decide (hi = 0)) else decide (lo = 0) && (decide (hi = 0) && !op)) = true) := by
  by_cases l1 : lo ≤ 16 <;> by_cases l2 : hi ≤ 16 <;> by_cases l3 : lo = 0 <;> by_cases l4 : hi = 0 <;> cases op <;> cases g <;> first | omega | (simp only [l1, l2, l3, l4, h0, decide_true, decide_false, Bool.true_and, Bool.false_and, Bool.and_true, Bool.and_false, Bool.not_true, Bool.not_false, Bool.or_true, Bool.or_false, Bool.true_or, Bool.false_or, if_true, if_false, Bool.false_eq_true]; exact ⟨_, rfl, by simp⟩)
theorem k2_bool (kl vl : Int) (k v b3 r : Bool) (x : Option Bool) (hk : 0 ≤ kl) (hv : 0 ≤ vl) (hx : x = some b3) (h : b3 = true ↔ r = true) : ∃ b,
    (if k = true then (if decide (kl < 1) = true then some false else if decide (16 < kl) = true then some false else if (!k) = true then (if decide (0 < kl) = true then some false else if decide (32 < vl) = true then some false else if (!v) = true then (if decide (0 < vl) = true then some false else x) else x) else if decide (32 < vl) = true then some false else if (!v) = true then (if decide (0 < vl) = true then some false else x) else x)
     else if (!k) = true then (if decide (0 < kl) = true then some false else if decide (32 < vl) = true then some false else if (!v) = true then (if decide (0 < vl) = true then some false else x) else x) else if decide (32 < vl) = true then some false else if (!v) = true then (if decide (0 < vl) = true then some false else x) else x) = some b ∧
    (b = true ↔ ((if k = true then decide (1 ≤ kl) && decide (kl ≤ 16) else decide (kl = 0)) && ((if v = true then decide (0 ≤ vl) && decide (vl ≤ 32) else decide (vl = 0)) && r)) = true) := by
  subst hx
  have e1 : (kl < 1) ↔ ¬ (1 ≤ kl) := by omega
  have e2 : (16 < kl) ↔ ¬ (kl ≤ 16) := by omega
  have e3 : (32 < vl) ↔ ¬ (vl ≤ 32) := by omega
  have e4 : (0 < kl) ↔ ¬ (kl = 0) := by omega
  have e5 : (0 < vl) ↔ ¬ (vl = 0) := by omega
  by_cases l1 : 1 ≤ kl <;> by_cases l2 : kl ≤ 16 <;> by_cases l3 : vl ≤ 32 <;> by_cases l4 : kl = 0 <;> by_cases l5 : vl = 0 <;> cases k <;> cases v <;> first | omega | (simp only [e1, e2, e3, e4, e5, l1, l2, l3, l4, l5, hv, not_true_eq_false, not_false_eq_true, decide_true, decide_false, Bool.true_and, Bool.false_and, Bool.and_true, Bool.and_false, Bool.not_true, Bool.not_false, if_true, if_false, Bool.false_eq_true]; first | exact ⟨b3, rfl, h⟩ | exact ⟨false, rfl, by simp⟩)
theorem k1_bool (t a r ro : Bool) (tk at_ : Int) (b2 q : Bool) (x : Option Bool) (hx : x = some b2) (h : b2 = true ↔ q = true) : ∃ b,
    (if (!t) = true then (if (!decide (tk = 0)) = true then some false else if (!a) = true then (if (!decide (at_ = 0)) = true then some false else if (!r) = true then (if ro = true then some false else x) else x) else if (!r) = true then (if ro = true then some false else x) else x)
     else if (!a) = true then (if (!decide (at_ = 0)) = true then some false else if (!r) = true then (if ro = true then some false else x) else x) else if (!r) = true then (if ro = true then some false else x) else x) = some b ∧
    (b = true ↔ ((if t = true then true else decide (tk = 0)) && ((if a = true then true else decide (at_ = 0)) && ((r || !ro) && q))) = true) := by
  subst hx
  by_cases l1 : tk = 0 <;> by_cases l2 : at_ = 0 <;> cases t <;> cases a <;> cases r <;> cases ro <;> simp only [l1, l2, decide_true, decide_false, Bool.true_and, Bool.false_and, Bool.and_true, Bool.and_false, Bool.not_true, Bool.not_false, Bool.or_true, Bool.or_false, Bool.true_or, Bool.false_or, if_true, if_false, Bool.false_eq_true] <;> first | exact ⟨b2, rfl, h⟩ | exact ⟨false, rfl, by simp⟩
theorem saneRef (a : GR05Req) : ∃ b, m31_r05_SaneReq a = some b ∧ (b = true ↔ saneReq (rq a) = true) := by
  have nok : ¬ okKind a.Kind = true → (false = true ↔ saneReq (rq a) = true) := fun h => ⟨fun h' => (by cases h'), fun h' => by
    unfold saneReq at h'
    simp only [Bool.and_eq_true] at h'
    exact absurd h'.1 h⟩
  have nse : ¬ within a.Seq 4294967295 = true → (false = true ↔ saneReq (rq a) = true) := fun h => ⟨fun h' => (by cases h'), fun h' => by
    unfold saneReq at h'
    simp only [Bool.and_eq_true] at h'
    exact absurd h'.2.1 h⟩
  unfold m31_r05_SaneReq
  by_cases h1 : a.Kind < 1
  · exact ⟨false, by rw [if_pos (decide_eq_true h1)], nok (by simp only [okKind, Bool.and_eq_true, decide_eq_true_eq]; omega)⟩
  rw [if_neg (by rw [decide_eq_true_eq]; exact h1)]
  by_cases h2 : 11 < a.Kind
  · exact ⟨false, by rw [if_pos (decide_eq_true h2)], nok (by simp only [okKind, Bool.and_eq_true, decide_eq_true_eq]; omega)⟩
  rw [if_neg (by rw [decide_eq_true_eq]; exact h2)]
  have hok : okKind a.Kind = true := by simp only [okKind, Bool.and_eq_true, decide_eq_true_eq]; omega
  by_cases h3 : a.Seq < 0
  · exact ⟨false, by rw [if_pos (decide_eq_true h3)], nse (by simp only [within, Bool.and_eq_true, decide_eq_true_eq]; omega)⟩
  rw [if_neg (by rw [decide_eq_true_eq]; exact h3)]
  by_cases h4 : 4294967295 < a.Seq
  · exact ⟨false, by rw [if_pos (decide_eq_true h4)], nse (by simp only [within, Bool.and_eq_true, decide_eq_true_eq]; omega)⟩
  rw [if_neg (by rw [decide_eq_true_eq]; exact h4)]
  have hseq : within a.Seq 4294967295 = true := by simp only [within, Bool.and_eq_true, decide_eq_true_eq]; omega
  have htok : ∀ n : Int, 0 ≤ n → (a.Token < 0 ∨ n < a.Token) → saneNum (parts a.Kind).token_ a.Token n = false := fun n hn h => by
    unfold saneNum within
    cases (parts a.Kind).token_
    · exact decide_eq_false (by omega)
    · simp only [if_true, Bool.and_eq_false_iff, decide_eq_false_iff_not]; omega
  have hatt : ∀ n : Int, 0 ≤ n → (a.Attempt < 0 ∨ n < a.Attempt) → saneNum (parts a.Kind).attempt_ a.Attempt n = false := fun n hn h => by
    unfold saneNum within
    cases (parts a.Kind).attempt_
    · exact decide_eq_false (by omega)
    · simp only [if_true, Bool.and_eq_false_iff, decide_eq_false_iff_not]; omega
  have hsr : saneReq (rq a) = (saneNum (parts a.Kind).token_ a.Token 1099511627776 && (saneNum (parts a.Kind).attempt_ a.Attempt 65535 && (((parts a.Kind).ro_ || !a.RO) && (saneBytes (parts a.Kind).key_ a.Key 1 16 && (saneBytes (parts a.Kind).val_ a.Val 0 32 && saneRng (parts a.Kind).rng_ (rq a).Rng))))) := by
    show (okKind a.Kind && (within a.Seq 4294967295 && _)) = _
    rw [hok, hseq]; rfl
  rw [hsr]
  by_cases h5 : a.Token < 0
  · exact ⟨false, by rw [if_pos (decide_eq_true h5)], by rw [htok _ (by decide) (.inl h5)]; simp⟩
  rw [if_neg (by rw [decide_eq_true_eq]; exact h5)]
  by_cases h6 : 1099511627776 < a.Token
  · exact ⟨false, by rw [if_pos (decide_eq_true h6)], by rw [htok _ (by decide) (.inr h6)]; simp⟩
  rw [if_neg (by rw [decide_eq_true_eq]; exact h6)]
  by_cases h7 : a.Attempt < 0
  · exact ⟨false, by rw [if_pos (decide_eq_true h7)], by rw [hatt _ (by decide) (.inl h7)]; simp⟩
  rw [if_neg (by rw [decide_eq_true_eq]; exact h7)]
  by_cases h8 : 65535 < a.Attempt
  · exact ⟨false, by rw [if_pos (decide_eq_true h8)], by rw [hatt _ (by decide) (.inr h8)]; simp⟩
  rw [if_neg (by rw [decide_eq_true_eq]; exact h8)]
  have wt : within a.Token 1099511627776 = true := by simp only [within, Bool.and_eq_true, decide_eq_true_eq]; omega
  have wa : within a.Attempt 65535 = true := by simp only [within, Bool.and_eq_true, decide_eq_true_eq]; omega
  have hk3 : ∃ b, m31_r05_SaneReq_k3 a () = some b ∧ (b = true ↔ saneRng (parts a.Kind).rng_ (rq a).Rng = true) := by
    unfold m31_r05_SaneReq_k3 saneRng saneBytes
    rw [plain_m, f44]
    simp only [Option.bind_some]
    exact k3_bool (a.Rng.Lo.length : Int) (a.Rng.Hi.length : Int) a.Rng.Open (parts a.Kind).rng_ (by omega)
  obtain ⟨b3, hb3, hb3'⟩ := hk3
  have hk2 : ∃ b, m31_r05_SaneReq_k2 a () = some b ∧ (b = true ↔ (saneBytes (parts a.Kind).key_ a.Key 1 16 && (saneBytes (parts a.Kind).val_ a.Val 0 32 && saneRng (parts a.Kind).rng_ (rq a).Rng)) = true) := by
    unfold m31_r05_SaneReq_k2 saneBytes
    rw [f41, f43]
    simp only [Option.bind_some]
    exact k2_bool (a.Key.length : Int) (a.Val.length : Int) (parts a.Kind).key_ (parts a.Kind).val_ b3 _ _ (by omega) (by omega) hb3 hb3'
  obtain ⟨b2, hb2, hb2'⟩ := hk2
  unfold m31_r05_SaneReq_k1
  rw [f37, f38, f39]
  simp only [Option.bind_some]
  unfold saneNum
  rw [wt, wa]
  exact k1_bool (parts a.Kind).token_ (parts a.Kind).attempt_ (parts a.Kind).ro_ a.RO a.Token a.Attempt b2 _ _ hb2 hb2'
theorem saneRef_m (a : GR05Req) : m31_r05_SaneReq a = some (saneReq (rq a)) := by
  obtain ⟨b, h, h2⟩ := saneRef a
  rw [h]
  cases b <;> cases hs : saneReq (rq a) <;> simp_all
end Go.Proofs.YtlpanhfojeaamaaDoor.Abs
