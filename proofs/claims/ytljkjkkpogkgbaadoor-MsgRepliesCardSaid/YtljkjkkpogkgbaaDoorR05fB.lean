/-
  What the law of replies needs.
-/
import Derived.Test.YtljkjkkpogkgbaaDoorR05e
namespace Go.Proofs.YtljkjkkpogkgbaaDoor.Abs
theorem eV_len {x : GApiKV} (h : okV x = true) : (eV x).length ≤ 52 ∧ x.Key.length ≤ 16 ∧ x.Val.length ≤ 32 := by
  simp only [okV, saneBytes, if_true, Bool.and_eq_true, decide_eq_true_eq] at h
  simp only [eV, List.length_append, ls2_len]
  omega
theorem flat_len52 : ∀ {l : List GApiKV}, (∀ x ∈ l, okV x = true) → (l.flatMap eV).length ≤ 52 * l.length
  | [], _ => by simp
  | x :: l, h => by
    have h1 := eV_len (h x (List.mem_cons_self ..))
    have h2 := flat_len52 (fun y hy => h y (List.mem_cons_of_mem _ hy))
    rw [List.flatMap_cons, List.length_append, List.length_cons]
    omega
theorem ploop {g : GMsgReply} (hl : g.List.length ≤ 8) (hv : ∀ x ∈ g.List, okV x = true) (a : List UInt8) (ha : a.length ≤ 1000) :
    iterB (m22_msg_PutReply_s10 g) fuel (a, 0) = some (a ++ g.List.flatMap eV) := by
  obtain ⟨b, hb, rfl⟩ := iterB_inv (f := m22_msg_PutReply_s10 g) (P := fun s => ∃ i : Nat, s = (a ++ (g.List.take i).flatMap eV, (i : Int)) ∧ i ≤ g.List.length) (μ := fun s => g.List.length - s.2.toNat)
    (R := fun b => b = a ++ g.List.flatMap eV)
    (fun s hs => by
      obtain ⟨i, rfl, hi⟩ := hs
      unfold m22_msg_PutReply_s10
      by_cases hlt : i < g.List.length
      · have hx : g.List[i]? = some g.List[i] := List.getElem?_eq_getElem hlt
        have ho := eV_len (hv _ (List.mem_of_getElem? hx))
        have hfl : ((g.List.take i).flatMap eV).length ≤ 52 * 8 := by
          have := flat_len52 (l := g.List.take i) (fun y hy => hv y (List.mem_of_mem_take hy))
          rw [List.length_take] at this
          omega
        refine .inl ⟨(a ++ (g.List.take (i + 1)).flatMap eV, ((i + 1 : Nat) : Int)), ?_, ⟨i + 1, rfl, hlt⟩, ?_⟩
        · rw [if_pos (by rw [decide_eq_true_eq]; simp only; omega), idx_nat, hx]
          simp only [Option.bind_some]
          rw [putL (by simp only [List.length_append]; omega) (by omega)]
          simp only [Option.bind_some]
          rw [putL (by simp only [List.length_append, ls2_len]; omega) (by omega)]
          simp only [Option.bind_some]
          rw [wI_id (by omega) (by omega), List.take_succ_eq_append_getElem hlt, List.flatMap_append]
          simp [eV]
        · simp only [Int.toNat_natCast]; omega
      · refine .inr ⟨_, by rw [if_neg (by rw [decide_eq_true_eq]; simp only; omega)], ?_⟩
        rw [List.take_of_length_le (by omega)]) fuel (a, 0) ⟨0, by simp, Nat.zero_le _⟩ (lt_fuel (by simp; omega))
  exact hb
theorem putRep_m (g : GMsgReply) (hll : g.List.length ≤ 1000000) : m22_msg_PutReply g = some (if saneRep g then (eS5 (tupRep g), 0) else ([], 1)) := by
  unfold m22_msg_PutReply m22_msg_PutReply_k9
  rw [saneRep_m g hll]
  simp only [Option.bind_some]
  cases hs : saneRep g with
  | false => rfl
  | true =>
    obtain ⟨⟨_, _, _, _, _, _, hv, _⟩, hl⟩ := saneRep_V hs
    have hv' : g.Val.length ≤ 32 := hv
    have hok : ∀ x ∈ g.List, okV x = true := by
      unfold saneRep at hs
      simp only [Bool.and_eq_true, List.all_eq_true] at hs
      exact hs.1
    simp only [Bool.not_true, Bool.false_eq_true, if_false, if_true]
    rw [show (1 : Int) = ((1 : Nat) : Int) from rfl, show (4 : Int) = ((4 : Nat) : Int) from rfl, show (8 : Int) = ((8 : Nat) : Int) from rfl, putU 1 (by decide) (by simp)]
    simp only [Option.bind_some]
    rw [putU 4 (by decide) (by simp [eU_len])]
    simp only [Option.bind_some]
    rw [putU 1 (by decide) (by simp [eU_len])]
    simp only [Option.bind_some]
    rw [putU 8 (by decide) (by simp [eU_len])]
    simp only [Option.bind_some]
    rw [putF (by simp [eU_len])]
    simp only [Option.bind_some]
    rw [putL (by simp [eU_len, eF_len]) (by omega)]
    simp only [Option.bind_some]
    rw [putU 1 (by decide) (by simp only [List.length_append, eU_len, eF_len, ls2_len, List.length_nil]; omega)]
    simp only [Option.bind_some]
    rw [ploop hl hok _ (by simp only [List.length_append, eU_len, eF_len, ls2_len, List.length_nil]; omega)]
    simp only [Option.bind_some, eS5, tupRep, eVs, List.nil_append, List.append_assoc]
theorem eS5_len {g : GMsgReply} (h : saneRep g = true) : 1 ≤ (eS5 (tupRep g)).length ∧ (eS5 (tupRep g)).length ≤ 512 := by
  obtain ⟨⟨_, _, _, _, _, _, hv, _⟩, hl⟩ := saneRep_V h
  have hv' : g.Val.length ≤ 32 := hv
  have hok : ∀ x ∈ g.List, okV x = true := by
    unfold saneRep at h
    simp only [Bool.and_eq_true, List.all_eq_true] at h
    exact h.1
  have := flat_len52 hok
  simp only [eS5, tupRep, eVs, List.nil_append, List.length_append, eU_len, eF_len, ls2_len]
  omega
theorem repOf_tup (g : GMsgReply) : repOf (tupRep g) = g := rfl
theorem tupRep_rep (x : RepT) : tupRep (repOf x) = x := rfl
theorem readRep_any (d : List UInt8) (hd : d.length ≤ 100000000) : ∃ g e, m25_msg_ReadReply d = some (g, e) ∧ (e = 0 → saneRep g = true ∧ d = eS5 (tupRep g)) ∧ (e ≠ 0 → g = zrep) := by
  obtain ⟨x, e', p', hr, hp, _, hs, _, _⟩ := RRep_rs.run 0 0 d (Nat.zero_le _) hd
  rw [readRep_eq d hd]
  rw [show ((0 : Nat) : Int) = 0 from rfl] at hr
  rw [hr]
  simp only [Option.bind_some]
  rw [end_m _ _ _ hp hd]
  simp only [Option.bind_some]
  by_cases he : e' = 0
  · subst he
    obtain ⟨hV, h2⟩ := hs rfl
    by_cases hlt : p' < d.length
    · exact ⟨zrep, 3, by simp [hlt], fun h => absurd h (by decide), fun _ => rfl⟩
    · have hz : d.drop p' = [] := List.drop_eq_nil_iff.2 (by omega)
      rw [hz, List.append_nil, List.drop_zero] at h2
      have hl8 : (repOf x).List.length ≤ 8 := hV.2.2.2.2.2.2.2.1
      rw [saneRep_m _ (by omega)]
      cases hsn : saneRep (repOf x) with
      | true => exact ⟨repOf x, 0, by simp [hlt], fun _ => ⟨hsn, by rw [tupRep_rep]; exact h2⟩, fun h => absurd rfl h⟩
      | false => exact ⟨zrep, 3, by simp [hlt], fun h => absurd h (by decide), fun _ => rfl⟩
  · exact ⟨zrep, e', by simp [he], fun h => absurd h he, fun _ => rfl⟩
theorem readRep_back {g : GMsgReply} (h : saneRep g = true) : m25_msg_ReadReply (eS5 (tupRep g)) = some (g, 0) := by
  have hl := (eS5_len h).2
  obtain ⟨hV, hl8⟩ := saneRep_V h
  obtain ⟨x, e', p', hr, hp, _, _, hc, _⟩ := RRep_rs.run 0 0 (eS5 (tupRep g)) (Nat.zero_le _) (by omega)
  obtain ⟨rfl, rfl, h3⟩ := hc rfl (tupRep g) [] hV (by simp)
  have hp' : p' = (eS5 (tupRep g)).length := by
    have := List.drop_eq_nil_iff.1 h3.symm
    omega
  rw [readRep_eq _ (by omega)]
  rw [show ((0 : Nat) : Int) = 0 from rfl] at hr
  rw [hr]
  simp only [Option.bind_some]
  rw [end_m _ _ _ hp (by omega)]
  simp only [Option.bind_some]
  rw [hp', repOf_tup, saneRep_m _ (by omega), h]
  simp
theorem readRep_more {g : GMsgReply} (h : saneRep g = true) (y : UInt8) : m25_msg_ReadReply (eS5 (tupRep g) ++ [y]) = some (zrep, 3) := by
  have hl := (eS5_len h).2
  obtain ⟨hV, hl8⟩ := saneRep_V h
  have hld : (eS5 (tupRep g) ++ [y]).length ≤ 100000000 := by simp; omega
  obtain ⟨x, e', p', hr, hp, _, _, hc, _⟩ := RRep_rs.run 0 0 (eS5 (tupRep g) ++ [y]) (Nat.zero_le _) hld
  obtain ⟨rfl, rfl, h3⟩ := hc rfl (tupRep g) [y] hV (by simp)
  have hp' : p' < (eS5 (tupRep g) ++ [y]).length := by
    have := congrArg List.length h3
    rw [List.length_drop] at this
    simp at this ⊢
    omega
  rw [readRep_eq _ hld]
  rw [show ((0 : Nat) : Int) = 0 from rfl] at hr
  rw [hr]
  simp only [Option.bind_some]
  rw [end_m _ _ _ hp hld, if_neg (by simp), if_pos hp']
  rfl
theorem readRep_less {g : GMsgReply} (h : saneRep g = true) {d x : List UInt8} (hx : eS5 (tupRep g) = d ++ x) (hne : x ≠ []) : m25_msg_ReadReply d = some (zrep, 2) := by
  have hl := (eS5_len h).2
  have hdl : d.length ≤ 100000000 := by
    have := congrArg List.length hx
    simp at this; omega
  obtain ⟨hV, hl8⟩ := saneRep_V h
  obtain ⟨u, e', p', hr, hp, _, _, _, ht⟩ := RRep_rs.run 0 0 d (Nat.zero_le _) hdl
  obtain rfl := ht rfl (tupRep g) x hV (by simpa using hx) hne
  rw [readRep_eq _ hdl]
  rw [show ((0 : Nat) : Int) = 0 from rfl] at hr
  rw [hr]
  simp only [Option.bind_some]
  rw [end_m _ _ _ hp hdl]
  rfl
theorem same_bytes (a b : List UInt8) : m63_bytes_Equal a b = some (a == b) := rfl
theorem sameRep1_m (a b : GMsgReply) : ∃ r, m31_msg_SameReply_k1 a b () = some r ∧ (r = true ↔ a.Kind = b.Kind ∧ a.Seq = b.Seq ∧ a.Code = b.Code ∧ a.N = b.N ∧ a.Found = b.Found ∧ a.Val = b.Val) := by
  unfold m31_msg_SameReply_k1
  simp only [same_bytes, Option.bind_some]
  by_cases h1 : a.Kind = b.Kind
  · by_cases h2 : a.Seq = b.Seq
    · by_cases h3 : a.Code = b.Code
      · by_cases h4 : a.N = b.N
        · by_cases h5 : a.Found = b.Found
          · exact ⟨a.Val == b.Val, by simp [h1, h2, h3, h4, h5], by simp [h1, h2, h3, h4, h5]⟩
          · exact ⟨false, by simp [h1, h2, h3, h4, h5], by simp [h5]⟩
        · exact ⟨false, by simp [h1, h2, h3, h4], by simp [h4]⟩
      · exact ⟨false, by simp [h1, h2, h3], by simp [h3]⟩
    · exact ⟨false, by simp [h1, h2], by simp [h2]⟩
  · exact ⟨false, by simp [h1], by simp [h1]⟩
theorem kv_eq {x y : GApiKV} (h1 : x.Key = y.Key) (h2 : x.Val = y.Val) : x = y := by
  cases x; cases y; simp_all
theorem sameRep_m (a b : GMsgReply) (hl : a.List.length ≤ 1000000) : ∃ r, m31_msg_SameReply a b = some r ∧ (r = true ↔ a = b) := by
  unfold m31_msg_SameReply
  by_cases hlen : a.List.length = b.List.length
  · rw [if_neg (by simp [hlen])]
    obtain ⟨r, hr, hR⟩ := iter_inv (f := m31_msg_SameReply_s3 a b) (P := fun s => 0 ≤ s ∧ s ≤ (a.List.length : Int) ∧ ∀ j, j < s.toNat → a.List[j]? = b.List[j]?) (μ := fun s => a.List.length - s.toNat)
      (R := fun r => match r with | .inl r => r = false ∧ a.List ≠ b.List | .inr _ => a.List = b.List)
      (fun s hs => by
        obtain ⟨h0, h1, h2⟩ := hs
        unfold m31_msg_SameReply_s3
        by_cases hlt : s < (a.List.length : Int)
        · obtain ⟨x, hx, hx'⟩ := idx_get h0 hlt
          obtain ⟨y, hy, hy'⟩ := idx_get (xs := b.List) h0 (by omega)
          rw [if_pos (decide_eq_true hlt), hx, hy]
          simp only [Option.bind_some, same_bytes]
          have hbad : x ≠ y → a.List ≠ b.List := fun hne he => by
            rw [he, hy'] at hx'
            cases hx'
            exact hne rfl
          by_cases h3 : x.Key = y.Key
          · by_cases h4 : x.Val = y.Val
            · refine .inl ⟨s + 1, ?_, ⟨by omega, by omega, fun j hj => ?_⟩, by omega⟩
              · rw [if_neg (by simp [h3]), if_neg (by simp [h4]), wI_id (by omega) (by omega)]
              · by_cases hj' : j < s.toNat
                · exact h2 j hj'
                · have : j = s.toNat := by omega
                  subst this
                  rw [hx', hy', kv_eq h3 h4]
            · exact .inr (.inr ⟨false, by rw [if_neg (by simp [h3]), if_pos (by simp [h4])], rfl, hbad (fun e => h4 (by rw [e]))⟩)
          · exact .inr (.inr ⟨false, by rw [if_pos (by simp [h3])], rfl, hbad (fun e => h3 (by rw [e]))⟩)
        · refine .inr (.inl ⟨(), by rw [if_neg (by rw [decide_eq_true_eq]; exact hlt)], ?_⟩)
          show a.List = b.List
          apply List.ext_getElem?
          intro j
          by_cases hj : j < s.toNat
          · exact h2 j hj
          · rw [List.getElem?_eq_none (by omega), List.getElem?_eq_none (by omega)]) fuel 0 ⟨by omega, by omega, fun j hj => by simp at hj⟩ (lt_fuel (by simp; omega))
    rw [hr]
    simp only [Option.bind_some]
    cases r with
    | inl r =>
      obtain ⟨rfl, hne⟩ := hR
      exact ⟨false, rfl, ⟨fun h => (by cases h), fun h => absurd (congrArg GMsgReply.List h) hne⟩⟩
    | inr u =>
      have he : a.List = b.List := hR
      obtain ⟨q, hq, hq2⟩ := sameRep1_m a b
      refine ⟨q, hq, hq2.trans ⟨fun h => ?_, fun h => by rw [h]; simp⟩⟩
      obtain ⟨a1, a2, a3, a4, a5, a6⟩ := h
      cases a; cases b
      simp_all
  · rw [if_pos (by simp; omega)]
    exact ⟨false, rfl, ⟨fun h => (by cases h), fun h => absurd (congrArg (fun g => g.List.length) h) hlen⟩⟩
end Go.Proofs.YtljkjkkpogkgbaaDoor.Abs
