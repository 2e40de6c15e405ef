/-
  The document's replies are the program's.
-/
import Derived.Test.YtljkjkkpogkgbaaDoorR05jB
namespace Go.Proofs.YtljkjkkpogkgbaaDoor.Abs

theorem saneRefRep (a : GR05Reply) (hll : a.List.length ≤ 1000000) : ∃ b, m30_r05_SaneReply a = some b ∧ (b = true ↔ saneRep (rp a) = true) := by
  have hs : saneRep (rp a) = (a.List.all okV && (okRep a.Kind && (within a.Seq 4294967295 && (within a.Code 255 && (within a.N 1099511627776 && (saneBytes a.Found a.Val 0 32 && decide ((a.List.length : Int) ≤ 8))))))) := rfl
  rw [hs]
  have hno : ∀ {q : Bool}, q = false → ∃ b, (some false : Option Bool) = some b ∧ (b = true ↔ q = true) := fun h => ⟨false, rfl, by rw [h]⟩
  have wf : ∀ {x n : Int}, (x < 0 ∨ n < x) → within x n = false := fun {x n} h => by
    simp only [within, Bool.and_eq_false_iff, decide_eq_false_iff_not]; omega
  have wt : ∀ {x n : Int}, ¬ x < 0 → ¬ n < x → within x n = true := fun {x n} h1 h2 => by
    simp only [within, Bool.and_eq_true, decide_eq_true_eq]; omega
  unfold m30_r05_SaneReply
  by_cases h1 : a.Kind < 0
  · rw [if_pos (decide_eq_true h1)]
    have : okRep a.Kind = false := by
      simp only [okRep, okKind, Bool.or_eq_false_iff, Bool.and_eq_false_iff, decide_eq_false_iff_not]; omega
    exact hno (by rw [this]; simp)
  rw [if_neg (by rw [decide_eq_true_eq]; exact h1)]
  by_cases h2 : 11 < a.Kind
  · rw [if_pos (decide_eq_true h2)]
    have : okRep a.Kind = false := by
      simp only [okRep, okKind, Bool.or_eq_false_iff, Bool.and_eq_false_iff, decide_eq_false_iff_not]; omega
    exact hno (by rw [this]; simp)
  rw [if_neg (by rw [decide_eq_true_eq]; exact h2)]
  have hk : okRep a.Kind = true := by
    simp only [okRep, okKind, Bool.or_eq_true, Bool.and_eq_true, decide_eq_true_eq]; omega
  by_cases h3 : a.Seq < 0
  · rw [if_pos (decide_eq_true h3)]; exact hno (by rw [wf (x := a.Seq) (.inl h3)]; simp)
  rw [if_neg (by rw [decide_eq_true_eq]; exact h3)]
  by_cases h4 : 4294967295 < a.Seq
  · rw [if_pos (decide_eq_true h4)]; exact hno (by rw [wf (x := a.Seq) (.inr h4)]; simp)
  rw [if_neg (by rw [decide_eq_true_eq]; exact h4)]
  by_cases h5 : a.Code < 0
  · rw [if_pos (decide_eq_true h5)]; exact hno (by rw [wf (x := a.Code) (.inl h5)]; simp)
  rw [if_neg (by rw [decide_eq_true_eq]; exact h5)]
  by_cases h6 : 255 < a.Code
  · rw [if_pos (decide_eq_true h6)]; exact hno (by rw [wf (x := a.Code) (.inr h6)]; simp)
  rw [if_neg (by rw [decide_eq_true_eq]; exact h6)]
  by_cases h7 : a.N < 0
  · rw [if_pos (decide_eq_true h7)]; exact hno (by rw [wf (x := a.N) (.inl h7)]; simp)
  rw [if_neg (by rw [decide_eq_true_eq]; exact h7)]
  by_cases h8 : 1099511627776 < a.N
  · rw [if_pos (decide_eq_true h8)]; exact hno (by rw [wf (x := a.N) (.inr h8)]; simp)
  rw [if_neg (by rw [decide_eq_true_eq]; exact h8)]
  rw [hk, wt h3 h4, wt h5 h6, wt h7 h8]
  simp only [Bool.true_and]
  by_cases h9 : 32 < (a.Val.length : Int)
  · rw [if_pos (decide_eq_true h9)]
    have : saneBytes a.Found a.Val 0 32 = false := by
      unfold saneBytes
      cases a.Found
      · exact decide_eq_false (by omega)
      · simp only [if_true, Bool.and_eq_false_iff, decide_eq_false_iff_not]; omega
    exact hno (by rw [this]; simp)
  rw [if_neg (by rw [decide_eq_true_eq]; exact h9)]
  have hloop : ∃ b, m30_r05_SaneReply_k1 a () = some b ∧ (b = true ↔ a.List.all okV = true) := by
    unfold m30_r05_SaneReply_k1
    obtain ⟨r, hr, hR⟩ := iter_inv (f := m30_r05_SaneReply_s3 a) (P := fun s => 0 ≤ s ∧ s ≤ (a.List.length : Int) ∧ ∀ j, j < s.toNat → ∀ x, a.List[j]? = some x → okV x = true) (μ := fun s => a.List.length - s.toNat)
      (R := fun r => match r with | .inl r => r = false ∧ a.List.all okV = false | .inr _ => a.List.all okV = true)
      (fun s hs => by
        obtain ⟨h0, h1, h2⟩ := hs
        unfold m30_r05_SaneReply_s3
        by_cases hlt : s < (a.List.length : Int)
        · obtain ⟨x, hx, hx'⟩ := idx_get h0 hlt
          rw [if_pos (decide_eq_true hlt), hx]
          simp only [Option.bind_some]
          have hbad : okV x = false → a.List.all okV = false := fun h => by
            rw [List.all_eq_false]
            exact ⟨x, List.mem_of_getElem? hx', by simp [h]⟩
          by_cases k1 : (x.Key.length : Int) < 1
          · exact .inr (.inr ⟨false, by rw [if_pos (decide_eq_true k1)], rfl, hbad (by simp only [okV, saneBytes, if_true, Bool.and_eq_false_iff, decide_eq_false_iff_not]; omega)⟩)
          · rw [if_neg (by rw [decide_eq_true_eq]; exact k1)]
            by_cases k2 : (16 : Int) < (x.Key.length : Int)
            · exact .inr (.inr ⟨false, by rw [if_pos (decide_eq_true k2)], rfl, hbad (by simp only [okV, saneBytes, if_true, Bool.and_eq_false_iff, decide_eq_false_iff_not]; omega)⟩)
            · rw [if_neg (by rw [decide_eq_true_eq]; exact k2)]
              by_cases k3 : (32 : Int) < (x.Val.length : Int)
              · exact .inr (.inr ⟨false, by rw [if_pos (decide_eq_true k3)], rfl, hbad (by simp only [okV, saneBytes, if_true, Bool.and_eq_false_iff, decide_eq_false_iff_not]; omega)⟩)
              · refine .inl ⟨s + 1, by rw [if_neg (by rw [decide_eq_true_eq]; exact k3), wI_id (by omega) (by omega)], ⟨by omega, by omega, fun j hj y hy => ?_⟩, by omega⟩
                by_cases hj' : j < s.toNat
                · exact h2 j hj' y hy
                · have : j = s.toNat := by omega
                  subst this
                  rw [hx'] at hy
                  cases hy
                  simp only [okV, saneBytes, if_true, Bool.and_eq_true, decide_eq_true_eq]; omega
        · refine .inr (.inl ⟨(), by rw [if_neg (by rw [decide_eq_true_eq]; exact hlt)], ?_⟩)
          show a.List.all okV = true
          rw [List.all_eq_true]
          intro x hx
          obtain ⟨j, hj, hjx⟩ := List.getElem_of_mem hx
          exact h2 j (by omega) x (by rw [List.getElem?_eq_getElem hj, hjx])) fuel 0 ⟨by omega, by omega, fun j hj => by simp at hj⟩ (lt_fuel (by simp; omega))
    rw [hr]
    simp only [Option.bind_some]
    cases r with
    | inl r => obtain ⟨rfl, h⟩ := hR; exact ⟨false, rfl, by rw [h]⟩
    | inr u =>
      have h : a.List.all okV = true := hR
      exact ⟨true, rfl, by rw [h]⟩
  obtain ⟨b, hb, hb2⟩ := hloop
  have hfin : ∀ q : Bool, q = true → ∃ b, (if decide (8 < (a.List.length : Int)) = true then some false else m30_r05_SaneReply_k1 a ()) = some b ∧ (b = true ↔ (a.List.all okV && (q && decide ((a.List.length : Int) ≤ 8))) = true) := by
    intro q hq
    subst hq
    by_cases h10 : 8 < (a.List.length : Int)
    · rw [if_pos (decide_eq_true h10)]
      exact hno (by rw [decide_eq_false (show ¬ (a.List.length : Int) ≤ 8 by omega)]; simp)
    · rw [if_neg (by rw [decide_eq_true_eq]; exact h10), hb, decide_eq_true (show (a.List.length : Int) ≤ 8 by omega)]
      exact ⟨b, rfl, by rw [hb2]; simp⟩
  cases hf : a.Found with
  | false =>
    rw [if_pos (show (!false) = true from rfl)]
    by_cases h11 : 0 < (a.Val.length : Int)
    · rw [if_pos (decide_eq_true h11)]
      have : saneBytes false a.Val 0 32 = false := decide_eq_false (by omega)
      exact hno (by rw [this]; simp)
    · rw [if_neg (by rw [decide_eq_true_eq]; exact h11)]
      exact hfin _ (decide_eq_true (by omega))
  | true =>
    rw [if_neg (by simp)]
    exact hfin _ (by simp only [saneBytes, if_true, Bool.and_eq_true, decide_eq_true_eq]; omega)
theorem saneRefRep_m (a : GR05Reply) (hll : a.List.length ≤ 1000000) : m30_r05_SaneReply a = some (saneRep (rp a)) := by
  obtain ⟨b, h, h2⟩ := saneRefRep a hll
  rw [h]
  cases b <;> cases hs : saneRep (rp a) <;> simp_all

theorem rploop {g : GR05Reply} (hl : g.List.length ≤ 8) (hv : ∀ x ∈ g.List, okV x = true) (a : List UInt8) (ha : a.length ≤ 1000) :
    iterB (m24_r05_PutReply_s11 g) fuel (a, 0) = some (a ++ g.List.flatMap eV) := by
  obtain ⟨b, hb, rfl⟩ := iterB_inv (f := m24_r05_PutReply_s11 g) (P := fun s => ∃ i : Nat, s = (a ++ (g.List.take i).flatMap eV, (i : Int)) ∧ i ≤ g.List.length) (μ := fun s => g.List.length - s.2.toNat)
    (R := fun b => b = a ++ g.List.flatMap eV)
    (fun s hs => by
      obtain ⟨i, rfl, hi⟩ := hs
      unfold m24_r05_PutReply_s11
      by_cases hlt : i < g.List.length
      · have hx : g.List[i]? = some g.List[i] := List.getElem?_eq_getElem hlt
        have ho := eV_len (hv _ (List.mem_of_getElem? hx))
        have hfl : ((g.List.take i).flatMap eV).length ≤ 52 * 8 := by
          have := flat_len52 (l := g.List.take i) (fun y hy => hv y (List.mem_of_mem_take hy))
          rw [List.length_take] at this
          omega
        refine .inl ⟨(a ++ (g.List.take (i + 1)).flatMap eV, ((i + 1 : Nat) : Int)), ?_, ⟨i + 1, rfl, hlt⟩, ?_⟩
        · rw [if_pos (by rw [decide_eq_true_eq]; simp only; omega), idx_nat, hx]
          simp only [Option.bind_some]
          rw [rputL (by simp only [List.length_append]; omega) (by omega)]
          simp only [Option.bind_some]
          rw [rputL (by simp only [List.length_append, ls2_len]; omega) (by omega)]
          simp only [Option.bind_some]
          rw [wI_id (by omega) (by omega), List.take_succ_eq_append_getElem hlt, List.flatMap_append]
          simp [eV]
        · simp only [Int.toNat_natCast]; omega
      · refine .inr ⟨_, by rw [if_neg (by rw [decide_eq_true_eq]; simp only; omega)], ?_⟩
        rw [List.take_of_length_le (by omega)]) fuel (a, 0) ⟨0, by simp, Nat.zero_le _⟩ (lt_fuel (by simp; omega))
  exact hb
theorem refPutRep_m (g : GR05Reply) (hll : g.List.length ≤ 1000000) : m24_r05_PutReply g = some (if saneRep (rp g) then (eS5 (tupRep (rp g)), 0) else ([], 1)) := by
  unfold m24_r05_PutReply m24_r05_PutReply_k10
  rw [saneRefRep_m g hll]
  simp only [Option.bind_some]
  cases hs : saneRep (rp g) with
  | false => rfl
  | true =>
    obtain ⟨⟨_, _, _, _, _, _, hv, _⟩, hl⟩ := saneRep_V hs
    have hv' : g.Val.length ≤ 32 := hv
    have hl' : g.List.length ≤ 8 := hl
    have hok : ∀ x ∈ g.List, okV x = true := by
      unfold saneRep at hs
      simp only [Bool.and_eq_true, List.all_eq_true] at hs
      exact hs.1
    simp only [Bool.not_true, Bool.false_eq_true, if_false, if_true]
    rw [show (4 : Int) = ((4 : Nat) : Int) from rfl, show (8 : Int) = ((8 : Nat) : Int) from rfl, show m36_r01_U [] (BitVec.ofInt 64 g.Kind) 1 = some ([] ++ eU 1 g.Kind) from rputU 1 (by decide) (by simp)]
    simp only [Option.bind_some]
    rw [rputU 4 (by decide) (by simp [eU_len])]
    simp only [Option.bind_some]
    rw [show m36_r01_U ([] ++ eU 1 g.Kind ++ eU 4 g.Seq) (BitVec.ofInt 64 g.Code) 1 = some ([] ++ eU 1 g.Kind ++ eU 4 g.Seq ++ eU 1 g.Code) from rputU 1 (by decide) (by simp [eU_len])]
    simp only [Option.bind_some]
    rw [rputU 8 (by decide) (by simp [eU_len])]
    simp only [Option.bind_some]
    rw [bind2 (rputF (a := [] ++ eU 1 g.Kind ++ eU 4 g.Seq ++ eU 1 g.Code ++ eU 8 g.N) (b := g.Found) (by simp [eU_len]))]
    rw [rputL (by simp [eU_len, eF_len]) (by omega)]
    simp only [Option.bind_some]
    rw [show m36_r01_U ([] ++ eU 1 g.Kind ++ eU 4 g.Seq ++ eU 1 g.Code ++ eU 8 g.N ++ eF g.Found ++ ls2 g.Val) (BitVec.ofInt 64 (g.List.length : Int)) 1 = some ([] ++ eU 1 g.Kind ++ eU 4 g.Seq ++ eU 1 g.Code ++ eU 8 g.N ++ eF g.Found ++ ls2 g.Val ++ eU 1 (g.List.length : Int)) from rputU 1 (by decide) (by simp only [List.length_append, eU_len, eF_len, ls2_len, List.length_nil]; omega)]
    simp only [Option.bind_some]
    rw [rploop hl' hok _ (by simp only [List.length_append, eU_len, eF_len, ls2_len, List.length_nil]; omega)]
    simp only [Option.bind_some, eS5, tupRep, eVs, rp, List.nil_append, List.append_assoc]

theorem kvs_m (a b : List GApiKV) (hl : a.length ≤ 1000000) : ∃ r, m68_r05_KVs a b = some r ∧ (r = true ↔ a = b) := by
  unfold m68_r05_KVs m68_r05_KVs_k1
  by_cases hlen : a.length = b.length
  · rw [if_neg (by simp [hlen])]
    obtain ⟨r, hr, hR⟩ := iter_inv (f := m68_r05_KVs_s2 a b) (P := fun s => 0 ≤ s ∧ s ≤ (a.length : Int) ∧ ∀ j, j < s.toNat → a[j]? = b[j]?) (μ := fun s => a.length - s.toNat)
      (R := fun r => match r with | .inl r => r = false ∧ a ≠ b | .inr _ => a = b)
      (fun s hs => by
        obtain ⟨h0, h1, h2⟩ := hs
        unfold m68_r05_KVs_s2
        by_cases hlt : s < (a.length : Int)
        · obtain ⟨x, hx, hx'⟩ := idx_get h0 hlt
          obtain ⟨y, hy, hy'⟩ := idx_get (xs := b) h0 (by omega)
          rw [if_pos (decide_eq_true hlt), hx, hy]
          simp only [Option.bind_some]
          have hbad : x ≠ y → a ≠ b := fun hne he => by
            rw [he, hy'] at hx'
            cases hx'
            exact hne rfl
          by_cases h3 : x.Key = y.Key
          · by_cases h4 : x.Val = y.Val
            · refine .inl ⟨s + 1, ?_, ⟨by omega, by omega, fun j hj => ?_⟩, by omega⟩
              · rw [if_neg (by simp [h3]), if_neg (by simp [h4]), wI_id (by omega) (by omega)]
              · by_cases hj' : j < s.toNat
                · exact h2 j hj'
                · have : j = s.toNat := by omega
                  subst this
                  rw [hx', hy', kv_eq h3 h4]
            · exact .inr (.inr ⟨false, by rw [if_neg (by simp [h3]), if_pos (by simp [h4])], rfl, hbad (fun e => h4 (by rw [e]))⟩)
          · exact .inr (.inr ⟨false, by rw [if_pos (by simp [h3])], rfl, hbad (fun e => h3 (by rw [e]))⟩)
        · refine .inr (.inl ⟨(), by rw [if_neg (by rw [decide_eq_true_eq]; exact hlt)], ?_⟩)
          show a = b
          apply List.ext_getElem?
          intro j
          by_cases hj : j < s.toNat
          · exact h2 j hj
          · rw [List.getElem?_eq_none (by omega), List.getElem?_eq_none (by omega)]) fuel 0 ⟨by omega, by omega, fun j hj => by simp at hj⟩ (lt_fuel (by simp; omega))
    rw [hr]
    simp only [Option.bind_some]
    cases r with
    | inl r =>
      obtain ⟨rfl, hne⟩ := hR
      exact ⟨false, rfl, ⟨fun h => (by cases h), fun h => absurd h hne⟩⟩
    | inr u => exact ⟨true, rfl, ⟨fun _ => hR, fun _ => rfl⟩⟩
  · rw [if_pos (by simp; omega)]
    exact ⟨false, rfl, ⟨fun h => (by cases h), fun h => absurd (congrArg List.length h) hlen⟩⟩
theorem refSameRep_m (a b : GR05Reply) (hl : a.List.length ≤ 1000000) : ∃ r, m27_r05_SameReply a b = some r ∧ (r = true ↔ rp a = rp b) := by
  obtain ⟨q, hq, hq2⟩ := kvs_m a.List b.List hl
  unfold m27_r05_SameReply
  rw [hq]
  simp only [Option.bind_some]
  obtain ⟨k, s, c, n, f, v, l⟩ := a
  obtain ⟨k', s', c', n', f', v', l'⟩ := b
  simp only at hq2 ⊢
  by_cases h1 : k = k'
  · by_cases h2 : s = s'
    · by_cases h3 : c = c'
      · by_cases h4 : n = n'
        · by_cases h5 : f = f'
          · by_cases h6 : v = v'
            · subst h1 h2 h3 h4 h5 h6
              exact ⟨q, by simp, by rw [hq2]; simp [rp]⟩
            · exact ⟨false, by simp [h1, h2, h3, h4, h5, h6], by simp [rp, h6]⟩
          · exact ⟨false, by simp [h1, h2, h3, h4, h5], by simp [rp, h5]⟩
        · exact ⟨false, by simp [h1, h2, h3, h4], by simp [rp, h4]⟩
      · exact ⟨false, by simp [h1, h2, h3], by simp [rp, h3]⟩
    · exact ⟨false, by simp [h1, h2], by simp [rp, h2]⟩
  · exact ⟨false, by simp [h1], by simp [rp, h1]⟩
end Go.Proofs.YtljkjkkpogkgbaaDoor.Abs
