/-
  The document's requests are the program's.
-/
import Derived.Test.YtljkjkkpogkgbaaDoorR05hA
namespace Go.Proofs.YtljkjkkpogkgbaaDoor.Abs

theorem kinds {k : Int} (h : okKind k = true) : k = 1 ∨ k = 2 ∨ k = 3 ∨ k = 4 ∨ k = 5 ∨ k = 6 ∨ k = 7 ∨ k = 8 ∨ k = 9 ∨ k = 10 ∨ k = 11 := by
  simp only [okKind, Bool.and_eq_true, decide_eq_true_eq] at h
  omega
theorem nokind {k : Int} (h : ¬ okKind k = true) : (k < 1 ∨ 11 < k) ∧ parts k = zparts := by
  refine ⟨?_, by unfold parts; rw [if_neg h]⟩
  simp only [okKind, Bool.and_eq_true, decide_eq_true_eq] at h
  omega
theorem f37 (k : Int) : m37_r05_token k = some (parts k).token_ := by
  by_cases h : okKind k = true
  · rcases kinds h with rfl | rfl | rfl | rfl | rfl | rfl | rfl | rfl | rfl | rfl | rfl <;> rfl
  · obtain ⟨h1, h2⟩ := nokind h
    rw [h2]
    unfold m37_r05_token
    rw [if_neg (by rw [decide_eq_true_eq]; omega), if_neg (by rw [decide_eq_true_eq]; omega), if_neg (by rw [decide_eq_true_eq]; omega), decide_eq_false (by omega)]; rfl
theorem f38 (k : Int) : m38_r05_attempt k = some (parts k).attempt_ := by
  by_cases h : okKind k = true
  · rcases kinds h with rfl | rfl | rfl | rfl | rfl | rfl | rfl | rfl | rfl | rfl | rfl <;> rfl
  · obtain ⟨h1, h2⟩ := nokind h
    rw [h2]
    unfold m38_r05_attempt
    rw [if_neg (by rw [decide_eq_true_eq]; omega), if_neg (by rw [decide_eq_true_eq]; omega), decide_eq_false (by omega)]; rfl
theorem f39 (k : Int) : m39_r05_flag k = some (parts k).ro_ := by
  by_cases h : okKind k = true
  · rcases kinds h with rfl | rfl | rfl | rfl | rfl | rfl | rfl | rfl | rfl | rfl | rfl <;> rfl
  · obtain ⟨h1, h2⟩ := nokind h
    rw [h2]
    unfold m39_r05_flag
    rw [decide_eq_false (by omega)]; rfl
theorem f41 (k : Int) : m41_r05_key k = some (parts k).key_ := by
  by_cases h : okKind k = true
  · rcases kinds h with rfl | rfl | rfl | rfl | rfl | rfl | rfl | rfl | rfl | rfl | rfl <;> rfl
  · obtain ⟨h1, h2⟩ := nokind h
    rw [h2]
    unfold m41_r05_key
    by_cases h3 : 3 ≤ k
    · rw [if_pos (decide_eq_true h3), decide_eq_false (by omega)]; rfl
    · rw [if_neg (by rw [decide_eq_true_eq]; exact h3)]; rfl
theorem f43 (k : Int) : m43_r05_val k = some (parts k).val_ := by
  by_cases h : okKind k = true
  · rcases kinds h with rfl | rfl | rfl | rfl | rfl | rfl | rfl | rfl | rfl | rfl | rfl <;> rfl
  · obtain ⟨h1, h2⟩ := nokind h
    rw [h2]
    unfold m43_r05_val
    rw [decide_eq_false (by omega)]; rfl
theorem f44 (k : Int) : m44_r05_rng k = some (parts k).rng_ := by
  by_cases h : okKind k = true
  · rcases kinds h with rfl | rfl | rfl | rfl | rfl | rfl | rfl | rfl | rfl | rfl | rfl <;> rfl
  · obtain ⟨h1, h2⟩ := nokind h
    rw [h2]
    unfold m44_r05_rng
    rw [decide_eq_false (by omega)]; rfl

/-! What is written -/
theorem rputU {a : List UInt8} {x : Int} (n : Nat) (hn : n ≤ 8) (h : a.length ≤ 1000000) : m36_r01_U a (BitVec.ofInt 64 x) n = some (a ++ eU n x) := by
  rw [rU_m a _ _ h]
  have : (w8 (n : Int)).toNat = n := by unfold w8; split <;> split <;> omega
  rw [this]; rfl
theorem rputL {a x : List UInt8} (h : a.length ≤ 500000) (hx : x.length ≤ 65535) : m42_r01_List a x = some (a ++ ls2 x) := by
  rw [rList_m a x h, Nat.min_eq_right hx, List.take_length, List.append_assoc]; rfl
theorem rputF {a : List UInt8} {b : Bool} (h : a.length ≤ 1000000) : ((m40_r05_bit b).bind fun v => m36_r01_U a v 1) = some (a ++ eF b) := by
  unfold m40_r05_bit
  cases b
  · rw [if_neg (by simp)]; simp only [Option.bind_some]; rw [rU_m a _ _ h]; rfl
  · rw [if_pos rfl]; simp only [Option.bind_some]; rw [rU_m a _ _ h]; rfl
theorem bind2 {α β γ : Type} {x : Option α} {f : α → Option β} {g : β → Option γ} {y : β} (h : x.bind f = some y) : (x.bind fun v => (f v).bind g) = g y := by
  rw [← Option.bind_assoc, h]; rfl

section
variable {g : GR05Req}
theorem q13 {b : List UInt8} (h : b.length ≤ 1000) (hv : VO (parts g.Kind).rng_ ([], false, []) VG (g.Rng.Lo, g.Rng.Open, g.Rng.Hi)) : m13_r05_PutReq_k13 g b = some (b ++ eO (parts g.Kind).rng_ eG (g.Rng.Lo, g.Rng.Open, g.Rng.Hi), 0) := by
  unfold m13_r05_PutReq_k13 m13_r05_PutReq_k15
  rw [f44, eO_ite]
  simp only [Option.bind_some]
  cases hb : (parts g.Kind).rng_
  · rfl
  · rw [hb] at hv
    obtain ⟨h1, _, h2⟩ := (show VG _ from hv)
    simp only at h1 h2
    simp only [if_true]
    rw [rputL (by omega) (by omega)]
    simp only [Option.bind_some]
    rw [bind2 (rputF (a := b ++ ls2 g.Rng.Lo) (b := g.Rng.Open) (by simp only [List.length_append, ls2_len]; omega))]
    rw [rputL (by simp only [List.length_append, ls2_len, eF_len]; omega) (by omega)]
    simp [eG]
theorem q11 {b : List UInt8} (h : b.length ≤ 900) (hv : VO (parts g.Kind).val_ [] (fun u => u.length ≤ 32) g.Val) (hr : VO (parts g.Kind).rng_ ([], false, []) VG (g.Rng.Lo, g.Rng.Open, g.Rng.Hi)) : m13_r05_PutReq_k11 g b = some (b ++ (eO (parts g.Kind).val_ ls2 g.Val ++ eO (parts g.Kind).rng_ eG (g.Rng.Lo, g.Rng.Open, g.Rng.Hi)), 0) := by
  unfold m13_r05_PutReq_k11
  rw [f43, ← List.append_assoc, eO_ite (parts g.Kind).val_]
  simp only [Option.bind_some]
  cases hb : (parts g.Kind).val_
  · exact q13 (by omega) hr
  · rw [hb] at hv
    have hv' : g.Val.length ≤ 32 := hv
    simp only [if_true]
    rw [rputL (by omega) (by omega)]
    simp only [Option.bind_some]
    exact q13 (by simp only [List.length_append, ls2_len]; omega) hr
theorem q9 {b : List UInt8} (h : b.length ≤ 800) (hk : VO (parts g.Kind).key_ [] (fun u => u.length ≤ 16) g.Key) (hv : VO (parts g.Kind).val_ [] (fun u => u.length ≤ 32) g.Val) (hr : VO (parts g.Kind).rng_ ([], false, []) VG (g.Rng.Lo, g.Rng.Open, g.Rng.Hi)) :
    m13_r05_PutReq_k9 g b = some (b ++ (eO (parts g.Kind).key_ ls2 g.Key ++ (eO (parts g.Kind).val_ ls2 g.Val ++ eO (parts g.Kind).rng_ eG (g.Rng.Lo, g.Rng.Open, g.Rng.Hi))), 0) := by
  unfold m13_r05_PutReq_k9
  rw [f41, ← List.append_assoc, eO_ite (parts g.Kind).key_]
  simp only [Option.bind_some]
  cases hb : (parts g.Kind).key_
  · exact q11 (by omega) hv hr
  · rw [hb] at hk
    have hk' : g.Key.length ≤ 16 := hk
    simp only [if_true]
    rw [rputL (by omega) (by omega)]
    simp only [Option.bind_some]
    exact q11 (by simp only [List.length_append, ls2_len]; omega) hv hr
theorem q7 {b : List UInt8} (h : b.length ≤ 700) (hk : VO (parts g.Kind).key_ [] (fun u => u.length ≤ 16) g.Key) (hv : VO (parts g.Kind).val_ [] (fun u => u.length ≤ 32) g.Val) (hr : VO (parts g.Kind).rng_ ([], false, []) VG (g.Rng.Lo, g.Rng.Open, g.Rng.Hi)) :
    m13_r05_PutReq_k7 g b = some (b ++ (eO (parts g.Kind).ro_ eF g.RO ++ (eO (parts g.Kind).key_ ls2 g.Key ++ (eO (parts g.Kind).val_ ls2 g.Val ++ eO (parts g.Kind).rng_ eG (g.Rng.Lo, g.Rng.Open, g.Rng.Hi)))), 0) := by
  unfold m13_r05_PutReq_k7
  rw [f39, ← List.append_assoc, eO_ite (parts g.Kind).ro_]
  simp only [Option.bind_some]
  cases hb : (parts g.Kind).ro_
  · exact q9 (by omega) hk hv hr
  · simp only [if_true]
    rw [bind2 (rputF (a := b) (b := g.RO) (by omega))]
    exact q9 (by simp only [List.length_append, eF_len]; omega) hk hv hr
theorem q5 {b : List UInt8} (h : b.length ≤ 600) (hk : VO (parts g.Kind).key_ [] (fun u => u.length ≤ 16) g.Key) (hv : VO (parts g.Kind).val_ [] (fun u => u.length ≤ 32) g.Val) (hr : VO (parts g.Kind).rng_ ([], false, []) VG (g.Rng.Lo, g.Rng.Open, g.Rng.Hi)) :
    m13_r05_PutReq_k5 g b = some (b ++ (eO (parts g.Kind).attempt_ (eU 2) g.Attempt ++ (eO (parts g.Kind).ro_ eF g.RO ++ (eO (parts g.Kind).key_ ls2 g.Key ++ (eO (parts g.Kind).val_ ls2 g.Val ++ eO (parts g.Kind).rng_ eG (g.Rng.Lo, g.Rng.Open, g.Rng.Hi))))), 0) := by
  unfold m13_r05_PutReq_k5
  rw [f38, ← List.append_assoc, eO_ite (parts g.Kind).attempt_]
  simp only [Option.bind_some]
  cases hb : (parts g.Kind).attempt_
  · exact q7 (by omega) hk hv hr
  · simp only [if_true]
    rw [show (2 : Int) = ((2 : Nat) : Int) from rfl, rputU 2 (by decide) (by omega)]
    simp only [Option.bind_some]
    exact q7 (by simp only [List.length_append, eU_len]; omega) hk hv hr
end

/-! Which may be -/
theorem plain_m (r : GApiRange) : m62_r05_plain r = some (decide ((r.Lo.length : Int) ≤ 16) && (decide ((r.Hi.length : Int) ≤ 16) && (!r.Open || decide ((r.Hi.length : Int) = 0)))) := by
  unfold m62_r05_plain
  by_cases h1 : (r.Lo.length : Int) ≤ 16
  · by_cases h2 : (r.Hi.length : Int) ≤ 16
    · simp only [decide_eq_true h1, decide_eq_true h2, if_true, Bool.true_and]
      cases r.Open
      · rfl
      · by_cases h3 : (r.Hi.length : Int) = 0
        · simp [h3]
        · have : (0 : Int) < (r.Hi.length : Int) := by omega
          simp only [decide_eq_true this, decide_eq_false h3, if_true]; rfl
    · simp [h1, h2]
  · simp [h1]
theorem k3_bool (lo hi : Int) (op g : Bool) (h0 : 0 ≤ hi) : ∃ b, (if (decide (lo ≤ 16) && (decide (hi ≤ 16) && (!op || decide (hi = 0)))) = true then (if g = true then some true else if decide (lo = 0) = true then (if decide (hi = 0) = true then some (!op) else some false) else some false) else some false) = some b ∧
    (b = true ↔ (if g = true then decide (lo ≤ 16) && (if (!op) = true then decide (0 ≤ hi) && decide (hi ≤ 16) else decide (hi = 0)) else decide (lo = 0) && (decide (hi = 0) && !op)) = true) := by
  by_cases l1 : lo ≤ 16 <;> by_cases l2 : hi ≤ 16 <;> by_cases l3 : lo = 0 <;> by_cases l4 : hi = 0 <;> cases op <;> cases g <;> first | omega | (simp only [l1, l2, l3, l4, h0, decide_true, decide_false, Bool.true_and, Bool.false_and, Bool.and_true, Bool.and_false, Bool.not_true, Bool.not_false, Bool.or_true, Bool.or_false, Bool.true_or, Bool.false_or, if_true, if_false, Bool.false_eq_true]; exact ⟨_, rfl, by simp⟩)
theorem k2_bool (kl vl : Int) (k v b3 r : Bool) (x : Option Bool) (hk : 0 ≤ kl) (hv : 0 ≤ vl) (hx : x = some b3) (h : b3 = true ↔ r = true) : ∃ b,
    (if k = true then (if decide (kl < 1) = true then some false else if decide (16 < kl) = true then some false else if (!k) = true then (if decide (0 < kl) = true then some false else if decide (32 < vl) = true then some false else if (!v) = true then (if decide (0 < vl) = true then some false else x) else x) else if decide (32 < vl) = true then some false else if (!v) = true then (if decide (0 < vl) = true then some false else x) else x)
     else if (!k) = true then (if decide (0 < kl) = true then some false else if decide (32 < vl) = true then some false else if (!v) = true then (if decide (0 < vl) = true then some false else x) else x) else if decide (32 < vl) = true then some false else if (!v) = true then (if decide (0 < vl) = true then some false else x) else x) = some b ∧
    (b = true ↔ ((if k = true then decide (1 ≤ kl) && decide (kl ≤ 16) else decide (kl = 0)) && ((if v = true then decide (0 ≤ vl) && decide (vl ≤ 32) else decide (vl = 0)) && r)) = true) := by
  subst hx
  have e1 : (kl < 1) ↔ ¬ (1 ≤ kl) := by omega
  have e2 : (16 < kl) ↔ ¬ (kl ≤ 16) := by omega
  have e3 : (32 < vl) ↔ ¬ (vl ≤ 32) := by omega
  have e4 : (0 < kl) ↔ ¬ (kl = 0) := by omega
  have e5 : (0 < vl) ↔ ¬ (vl = 0) := by omega
  by_cases l1 : 1 ≤ kl <;> by_cases l2 : kl ≤ 16 <;> by_cases l3 : vl ≤ 32 <;> by_cases l4 : kl = 0 <;> by_cases l5 : vl = 0 <;> cases k <;> cases v <;> first | omega | (simp only [e1, e2, e3, e4, e5, l1, l2, l3, l4, l5, hv, not_true_eq_false, not_false_eq_true, decide_true, decide_false, Bool.true_and, Bool.false_and, Bool.and_true, Bool.and_false, Bool.not_true, Bool.not_false, if_true, if_false, Bool.false_eq_true]; first | exact ⟨b3, rfl, h⟩ | exact ⟨false, rfl, by simp⟩)
theorem k1_bool (t a r ro : Bool) (tk at_ : Int) (b2 q : Bool) (x : Option Bool) (hx : x = some b2) (h : b2 = true ↔ q = true) : ∃ b,
    (if (!t) = true then (if (!decide (tk = 0)) = true then some false else if (!a) = true then (if (!decide (at_ = 0)) = true then some false else if (!r) = true then (if ro = true then some false else x) else x) else if (!r) = true then (if ro = true then some false else x) else x)
     else if (!a) = true then (if (!decide (at_ = 0)) = true then some false else if (!r) = true then (if ro = true then some false else x) else x) else if (!r) = true then (if ro = true then some false else x) else x) = some b ∧
    (b = true ↔ ((if t = true then true else decide (tk = 0)) && ((if a = true then true else decide (at_ = 0)) && ((r || !ro) && q))) = true) := by
  subst hx
  by_cases l1 : tk = 0 <;> by_cases l2 : at_ = 0 <;> cases t <;> cases a <;> cases r <;> cases ro <;> simp only [l1, l2, decide_true, decide_false, Bool.true_and, Bool.false_and, Bool.and_true, Bool.and_false, Bool.not_true, Bool.not_false, Bool.or_true, Bool.or_false, Bool.true_or, Bool.false_or, if_true, if_false, Bool.false_eq_true] <;> first | exact ⟨b2, rfl, h⟩ | exact ⟨false, rfl, by simp⟩
theorem saneRef (a : GR05Req) : ∃ b, m19_r05_SaneReq a = some b ∧ (b = true ↔ saneReq (rq a) = true) := by
  have nok : ¬ okKind a.Kind = true → (false = true ↔ saneReq (rq a) = true) := fun h => ⟨fun h' => (by cases h'), fun h' => by
    unfold saneReq at h'
    simp only [Bool.and_eq_true] at h'
    exact absurd h'.1 h⟩
  have nse : ¬ within a.Seq 4294967295 = true → (false = true ↔ saneReq (rq a) = true) := fun h => ⟨fun h' => (by cases h'), fun h' => by
    unfold saneReq at h'
    simp only [Bool.and_eq_true] at h'
    exact absurd h'.2.1 h⟩
  unfold m19_r05_SaneReq
  by_cases h1 : a.Kind < 1
  · exact ⟨false, by rw [if_pos (decide_eq_true h1)], nok (by simp only [okKind, Bool.and_eq_true, decide_eq_true_eq]; omega)⟩
  rw [if_neg (by rw [decide_eq_true_eq]; exact h1)]
  by_cases h2 : 11 < a.Kind
  · exact ⟨false, by rw [if_pos (decide_eq_true h2)], nok (by simp only [okKind, Bool.and_eq_true, decide_eq_true_eq]; omega)⟩
  rw [if_neg (by rw [decide_eq_true_eq]; exact h2)]
  have hok : okKind a.Kind = true := by simp only [okKind, Bool.and_eq_true, decide_eq_true_eq]; omega
  by_cases h3 : a.Seq < 0
  · exact ⟨false, by rw [if_pos (decide_eq_true h3)], nse (by simp only [within, Bool.and_eq_true, decide_eq_true_eq]; omega)⟩
  rw [if_neg (by rw [decide_eq_true_eq]; exact h3)]
  by_cases h4 : 4294967295 < a.Seq
  · exact ⟨false, by rw [if_pos (decide_eq_true h4)], nse (by simp only [within, Bool.and_eq_true, decide_eq_true_eq]; omega)⟩
  rw [if_neg (by rw [decide_eq_true_eq]; exact h4)]
  have hseq : within a.Seq 4294967295 = true := by simp only [within, Bool.and_eq_true, decide_eq_true_eq]; omega
  have htok : ∀ n : Int, 0 ≤ n → (a.Token < 0 ∨ n < a.Token) → saneNum (parts a.Kind).token_ a.Token n = false := fun n hn h => by
    unfold saneNum within
    cases (parts a.Kind).token_
    · exact decide_eq_false (by omega)
    · simp only [if_true, Bool.and_eq_false_iff, decide_eq_false_iff_not]; omega
  have hatt : ∀ n : Int, 0 ≤ n → (a.Attempt < 0 ∨ n < a.Attempt) → saneNum (parts a.Kind).attempt_ a.Attempt n = false := fun n hn h => by
    unfold saneNum within
    cases (parts a.Kind).attempt_
    · exact decide_eq_false (by omega)
    · simp only [if_true, Bool.and_eq_false_iff, decide_eq_false_iff_not]; omega
  have hsr : saneReq (rq a) = (saneNum (parts a.Kind).token_ a.Token 1099511627776 && (saneNum (parts a.Kind).attempt_ a.Attempt 65535 && (((parts a.Kind).ro_ || !a.RO) && (saneBytes (parts a.Kind).key_ a.Key 1 16 && (saneBytes (parts a.Kind).val_ a.Val 0 32 && saneRng (parts a.Kind).rng_ (rq a).Rng))))) := by
    show (okKind a.Kind && (within a.Seq 4294967295 && _)) = _
    rw [hok, hseq]; rfl
  rw [hsr]
  by_cases h5 : a.Token < 0
  · exact ⟨false, by rw [if_pos (decide_eq_true h5)], by rw [htok _ (by decide) (.inl h5)]; simp⟩
  rw [if_neg (by rw [decide_eq_true_eq]; exact h5)]
  by_cases h6 : 1099511627776 < a.Token
  · exact ⟨false, by rw [if_pos (decide_eq_true h6)], by rw [htok _ (by decide) (.inr h6)]; simp⟩
  rw [if_neg (by rw [decide_eq_true_eq]; exact h6)]
  by_cases h7 : a.Attempt < 0
  · exact ⟨false, by rw [if_pos (decide_eq_true h7)], by rw [hatt _ (by decide) (.inl h7)]; simp⟩
  rw [if_neg (by rw [decide_eq_true_eq]; exact h7)]
  by_cases h8 : 65535 < a.Attempt
  · exact ⟨false, by rw [if_pos (decide_eq_true h8)], by rw [hatt _ (by decide) (.inr h8)]; simp⟩
  rw [if_neg (by rw [decide_eq_true_eq]; exact h8)]
  have wt : within a.Token 1099511627776 = true := by simp only [within, Bool.and_eq_true, decide_eq_true_eq]; omega
  have wa : within a.Attempt 65535 = true := by simp only [within, Bool.and_eq_true, decide_eq_true_eq]; omega
  have hk3 : ∃ b, m19_r05_SaneReq_k3 a () = some b ∧ (b = true ↔ saneRng (parts a.Kind).rng_ (rq a).Rng = true) := by
    unfold m19_r05_SaneReq_k3 saneRng saneBytes
    rw [plain_m, f44]
    simp only [Option.bind_some]
    exact k3_bool (a.Rng.Lo.length : Int) (a.Rng.Hi.length : Int) a.Rng.Open (parts a.Kind).rng_ (by omega)
  obtain ⟨b3, hb3, hb3'⟩ := hk3
  have hk2 : ∃ b, m19_r05_SaneReq_k2 a () = some b ∧ (b = true ↔ (saneBytes (parts a.Kind).key_ a.Key 1 16 && (saneBytes (parts a.Kind).val_ a.Val 0 32 && saneRng (parts a.Kind).rng_ (rq a).Rng)) = true) := by
    unfold m19_r05_SaneReq_k2 saneBytes
    rw [f41, f43]
    simp only [Option.bind_some]
    exact k2_bool (a.Key.length : Int) (a.Val.length : Int) (parts a.Kind).key_ (parts a.Kind).val_ b3 _ _ (by omega) (by omega) hb3 hb3'
  obtain ⟨b2, hb2, hb2'⟩ := hk2
  unfold m19_r05_SaneReq_k1
  rw [f37, f38, f39]
  simp only [Option.bind_some]
  unfold saneNum
  rw [wt, wa]
  exact k1_bool (parts a.Kind).token_ (parts a.Kind).attempt_ (parts a.Kind).ro_ a.RO a.Token a.Attempt b2 _ _ hb2 hb2'
theorem saneRef_m (a : GR05Req) : m19_r05_SaneReq a = some (saneReq (rq a)) := by
  obtain ⟨b, h, h2⟩ := saneRef a
  rw [h]
  cases b <;> cases hs : saneReq (rq a) <;> simp_all
end Go.Proofs.YtljkjkkpogkgbaaDoor.Abs
