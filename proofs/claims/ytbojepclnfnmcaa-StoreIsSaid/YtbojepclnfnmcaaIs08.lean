/-
  StoreIs.
-/
import Derived.Test.YtbojepclnfnmcaaI08d
import Derived.Test.YtbojepclnfnmcaaVac08
namespace Go.Proofs.Ytbojepclnfnmcaa.Abs


theorem ours_in {R : List GR07Chain} {T : Int} {K : Keys} {i : Nat} {c : GR07Chain} (hc : R[i]? = some c) (hl : c.L.length ≤ 1000) (acc : List GChainChain) :
    iterB (m13_l08_ours_s5 ⟨K, R, T⟩ ((i : Int), acc)) fuel (0, []) = some (c.L.map cv) := by
  obtain ⟨v, hv, hr⟩ := iterB_inv (f := m13_l08_ours_s5 ⟨K, R, T⟩ ((i : Int), acc)) (P := fun s => ∃ j : Nat, j ≤ c.L.length ∧ s = ((j : Int), (c.L.take j).map cv)) (μ := fun s => c.L.length - s.1.toNat)
    (R := fun v => v = c.L.map cv) (by
      rintro _ ⟨j, hj, rfl⟩
      unfold m13_l08_ours_s5
      dsimp only
      rw [idx_nat, hc, Option.bind_some, Option.bind_some]
      rcases Nat.lt_or_ge j c.L.length with hlt | hge
      · left
        have hx := List.getElem?_eq_getElem hlt
        rw [if_pos (decide_eq_true (by omega)), idx_nat, hx, Option.bind_some, if_pos (by rw [List.length_map, List.length_take, List.length_singleton]; omega)]
        refine ⟨_, rfl, ⟨j + 1, hlt, ?_⟩, by simp only [wI_id (show -9223372036854775808 ≤ (j : Int) + 1 by omega) (by omega)]; omega⟩
        rw [wI_id (by omega) (by omega), List.take_succ_eq_append_getElem hlt, List.map_append]; rfl
      · right
        have e : j = c.L.length := by omega
        subst e
        rw [if_neg (by rw [decide_eq_true_eq]; omega)]
        exact ⟨_, rfl, by rw [List.take_length]⟩) fuel (0, []) ⟨0, Nat.zero_le _, by simp⟩ (lt_fuel (by show c.L.length - 0 ≤ _; omega))
  rw [hv, hr]

theorem ours_m {K : Keys} {C : List GR07Chain} {T : Int} (hC : C.length ≤ 1000) (hl : ∀ c ∈ C, c.L.length ≤ 1000) : m13_l08_ours ⟨K, C, T⟩ = some ⟨K, C.map asC, T⟩ := by
  unfold m13_l08_ours
  obtain ⟨v, hv, hr⟩ := iterB_inv (f := m13_l08_ours_s2 ⟨K, C, T⟩) (P := fun s => ∃ j : Nat, j ≤ C.length ∧ s = ((j : Int), (C.take j).map asC)) (μ := fun s => C.length - s.1.toNat)
    (R := fun v => v = C.map asC) (by
      rintro _ ⟨j, hj, rfl⟩
      unfold m13_l08_ours_s2
      dsimp only
      rcases Nat.lt_or_ge j C.length with hlt | hge
      · left
        have hx := List.getElem?_eq_getElem hlt
        rw [if_pos (decide_eq_true (by omega)), ours_in hx (hl _ (List.getElem_mem hlt)), Option.bind_some]
        unfold m13_l08_ours_k3
        dsimp only
        rw [if_pos (by rw [List.length_map, List.length_take, List.length_singleton]; omega)]
        refine ⟨_, rfl, ⟨j + 1, hlt, ?_⟩, by simp only [wI_id (show -9223372036854775808 ≤ (j : Int) + 1 by omega) (by omega)]; omega⟩
        rw [wI_id (by omega) (by omega), List.take_succ_eq_append_getElem hlt, List.map_append]; rfl
      · right
        have e : j = C.length := by omega
        subst e
        rw [if_neg (by rw [decide_eq_true_eq]; omega)]
        exact ⟨_, rfl, by rw [List.take_length]⟩) fuel (0, []) ⟨0, Nat.zero_le _, by simp⟩ (lt_fuel (by show C.length - 0 ≤ _; omega))
  rw [hv, Option.bind_some, hr]
  rfl

theorem few08 (s : GR08Store) : ∃ b, m10_r08_Few s = some b ∧ (b = true → s.Keys.length ≤ 140 ∧ s.Chains.length ≤ 140 ∧ (∀ k ∈ s.Keys, k.length ≤ 50) ∧ ∀ c ∈ s.Chains, c.L.length ≤ 60) := by
  unfold m10_r08_Few
  by_cases h1 : 140 < (s.Keys.length : Int)
  · rw [if_pos (decide_eq_true h1)]; exact ⟨false, rfl, fun h => (by cases h)⟩
  rw [if_neg (by rw [decide_eq_true_eq]; exact h1)]
  by_cases h2 : 140 < (s.Chains.length : Int)
  · rw [if_pos (decide_eq_true h2)]; exact ⟨false, rfl, fun h => (by cases h)⟩
  rw [if_neg (by rw [decide_eq_true_eq]; exact h2)]
  unfold m10_r08_Few_k1
  rcases scan08 s.Keys (fun _ k => decide (50 < (k.length : Int))) (m10_r08_Few_s8 s) (by omega) (fun i x hx => by
    have hlt := (List.getElem?_eq_some_iff.1 hx).1
    unfold m10_r08_Few_s8
    rw [if_pos (decide_eq_true (by omega)), idx_nat, hx, Option.bind_some]
    by_cases h : 50 < (x.length : Int)
    · rw [if_pos (decide_eq_true h), decide_eq_true h]; rfl
    · rw [if_neg (by rw [decide_eq_true_eq]; exact h), decide_eq_false h, if_neg (by decide), wI_id (by omega) (by omega)]; rfl) (by
    unfold m10_r08_Few_s8
    rw [if_neg (by rw [decide_eq_true_eq]; omega)]) with ⟨i, x, hx, hp, e⟩ | ⟨hp, e⟩
  · rw [e]; exact ⟨false, rfl, fun h => (by cases h)⟩
  rw [e, Option.bind_some]
  show ∃ b, m10_r08_Few_k2 s () = some b ∧ _
  unfold m10_r08_Few_k2
  rcases scan08 s.Chains (fun _ c => !(m37_r07_Few c).getD false) (m10_r08_Few_s4 s) (by omega) (fun i x hx => by
    have hlt := (List.getElem?_eq_some_iff.1 hx).1
    unfold m10_r08_Few_s4
    rw [if_pos (decide_eq_true (by omega)), idx_nat, hx, Option.bind_some]
    rcases few_cases x with e | ⟨e, _⟩
    · rw [e]; rfl
    · rw [e, Option.bind_some, if_neg (by decide), wI_id (by omega) (by omega)]; rfl) (by
    unfold m10_r08_Few_s4
    rw [if_neg (by rw [decide_eq_true_eq]; omega)]) with ⟨i, x, hx, hp2, e2⟩ | ⟨hp2, e2⟩
  · rw [e2]; exact ⟨false, rfl, fun h => (by cases h)⟩
  rw [e2]
  refine ⟨true, rfl, fun _ => ⟨by omega, by omega, fun k hk => ?_, fun c hc => ?_⟩⟩
  · obtain ⟨i, hi⟩ := List.mem_iff_getElem?.1 hk
    have := hp i k hi
    rw [decide_eq_false_iff_not] at this
    omega
  · obtain ⟨i, hi⟩ := List.mem_iff_getElem?.1 hc
    have := hp2 i c hi
    rcases few_cases c with e | ⟨_, e, _⟩
    · rw [e] at this; cases this
    · exact e

theorem asR_len {C : List GChainChain} (h : ∀ c ∈ C, c.L.length ≤ 1000) : ∀ c ∈ C.map asR, c.L.length ≤ 1000 := fun c hc => by
  obtain ⟨d, hd, rfl⟩ := List.mem_map.1 hc
  show (d.L.map vc).length ≤ _
  rw [List.length_map]; exact h d hd

/-- What both sides tell of a store. -/
structure Both (K : Keys) (R : List GR07Chain) (T : Int) (k : List UInt8) (r : GApiRange) (t most : Int) (l : List GApiWrite) : Prop where
  get : ∃ x, m14_store_Get ⟨K, R.map asC, T⟩ k t = some x ∧ m15_r08_Get ⟨K, R, T⟩ k t = some x
  inst : ∃ (K' : Keys) (C' : List GChainChain) (u e : Int), m16_store_Install ⟨K, R.map asC, T⟩ t l = some (⟨K', C', u⟩, e) ∧ m17_r08_Install ⟨K, R, T⟩ t l = some (⟨K', C'.map asR, u⟩, e) ∧ K'.length ≤ 1000 ∧ C'.length ≤ 1000 ∧ ∀ c ∈ C', c.L.length ≤ 1000
  scan : ∃ x, m21_store_Scan ⟨K, R.map asC, T⟩ r t most = some x ∧ m22_r08_Scan ⟨K, R, T⟩ r t most = some x ∧ x.length ≤ 1000
  sane : ∃ b, m23_store_Sane ⟨K, R.map asC, T⟩ = some b ∧ m24_r08_Sane ⟨K, R, T⟩ = some b
  vac : ∃ (K' : Keys) (C' : List GChainChain), m25_store_Vacuum ⟨K, R.map asC, T⟩ t = some ⟨K', C', T⟩ ∧ m26_r08_Vacuum ⟨K, R, T⟩ t = some ⟨K', C'.map asR, T⟩ ∧ K'.length ≤ 1000 ∧ C'.length ≤ 1000 ∧ ∀ c ∈ C', c.L.length ≤ 1000
  wrote : ∃ b, m27_store_Wrote ⟨K, R.map asC, T⟩ k t = some b ∧ m28_r08_Wrote ⟨K, R, T⟩ k t = some b
  chg : ∃ x, m30_store_Changed ⟨K, R.map asC, T⟩ r t = some x ∧ m31_r08_Changed ⟨K, R, T⟩ r t = some x ∧ x.length ≤ 1000
  latest : ∃ x, m32_store_Latest ⟨K, R.map asC, T⟩ = some x ∧ m33_r08_Latest ⟨K, R, T⟩ = some x ∧ x.length ≤ 1000

theorem both_m {K : Keys} {R : List GR07Chain} {T : Int} (hK : K.length ≤ 140) (hR : R.length ≤ 140) (hk50 : ∀ k ∈ K, k.length ≤ 50) (hlen : ∀ c ∈ R, c.L.length ≤ 60) (k : List UInt8) (r : GApiRange) (t most : Int) (l : List GApiWrite) (hl : l.length ≤ 140) (hlk : ∀ w ∈ l, w.Key.length ≤ 50) :
    Both K R T k r t most l := by
  have hk50' : ∀ k ∈ K, k.length ≤ 1000 := fun k hk => by have := hk50 k hk; omega
  have hlenC : ∀ c ∈ R.map asC, c.L.length ≤ 60 := fun c hc => by
    obtain ⟨d, hd, rfl⟩ := List.mem_map.1 hc
    show (d.L.map cv).length ≤ _
    rw [List.length_map]; exact hlen d hd
  obtain ⟨b, hb1, hb2, hb3⟩ := sane_both (K := K) (R := R) (T := T) (by omega) (by omega) hk50' (fun c hc => by have := hlen c hc; omega)
  cases b with
  | false =>
    have hnil : ∀ c ∈ ([] : List GChainChain), c.L.length ≤ 1000 := fun c hc => (by cases hc)
    refine ⟨⟨([], false), ?_, ?_⟩, ⟨[], [], 0, 1, ?_, ?_, by decide, by decide, hnil⟩, ⟨[], ?_, rscan_not hb2 .., by decide⟩, ⟨false, hb1, hb2⟩, ⟨K, R.map asC, ?_, ?_, by omega, by rw [List.length_map]; omega, fun c hc => by have := hlenC c hc; omega⟩, ⟨false, ?_, ?_⟩, ⟨[], ?_, rchanged_not hb2 .., by decide⟩, ⟨[], ?_, ?_, by decide⟩⟩
    · unfold m14_store_Get
      dsimp only
      rw [find_m K k (by omega), Option.bind_some]
      cases hit K k with
      | false => rfl
      | true => rw [if_neg (fun h => Bool.noConfusion h), hb1]; rfl
    · unfold m15_r08_Get
      dsimp only
      rw [rchain_not (by omega) hk50' hb2, Option.bind_some, rvalue_m (Nat.zero_le _), Option.bind_some]; rfl
    · unfold m16_store_Install
      dsimp only
      rw [hb1]; rfl
    · unfold m17_r08_Install
      dsimp only
      rw [hb2]; rfl
    · unfold m21_store_Scan
      rw [hb1]; rfl
    · unfold m25_store_Vacuum
      rw [hb1]; rfl
    · unfold m26_r08_Vacuum
      rw [hb2, asR_map]; rfl
    · unfold m27_store_Wrote
      dsimp only
      rw [find_m K k (by omega), Option.bind_some]
      cases hit K k with
      | false => rfl
      | true => rw [if_pos rfl, hb1]; rfl
    · unfold m28_r08_Wrote
      rw [rchain_not (by omega) hk50' hb2]; rfl
    · unfold m30_store_Changed
      rw [hb1]; rfl
    · unfold m32_store_Latest
      dsimp only
      unfold m21_store_Scan
      rw [hb1]; rfl
    · unfold m33_r08_Latest
      dsimp only
      rw [rscan_not hb2]; rfl
  | true =>
    have hSP := hb3.1 rfl
    have hok := hSP.ok hlenC
    have hK8 := hSP.2.2.2.1
    have hRl : R.length = K.length := by have := hok.cl; rw [List.length_map] at this; exact this
    have hRef : Ref K R T := ⟨hK8, hRl, hk50', hlen, hb2, hok⟩
    have hvl := vac_len (if T < t then T else t) K (R.map asC)
    have hvo := vac_ok hok (if T < t then T else t)
    refine ⟨?_, install_both hRef t l (by omega) (fun w hw => by have := hlk w hw; omega), ⟨_, scan_m hok (by omega) hK8 r t most, rscan_m hRef r t most, ?_⟩, ⟨true, hb1, hb2⟩, ⟨_, _, vacS_m hok (by omega) hK8 t, rvac_m hRef t, by omega, by have := hvo.cl; omega, fun c hc => by have := (hvo.cs c hc).2.2.2; omega⟩, ?_, ⟨_, changed_m hok (by omega) hK8 r t, rchanged_m hRef r t, by have := chgs_len r t K (R.map asC); omega⟩, ⟨_, latest_m hok (by omega) hK8, ?_, by have := ents_len ⟨[], [], true⟩ T K (R.map asC); omega⟩⟩
    · unfold m15_r08_Get
      dsimp only
      rcases rchain_ok (by omega) hk50' hRl hb2 k with ⟨c, hh, hg, e⟩ | ⟨hh, e⟩
      · rw [e, Option.bind_some, rvalue_m (by have := hlen c (List.mem_of_getElem? hg); show c.L.length ≤ _; omega), Option.bind_some]
        rcases get_m hok (by omega) hK8 k t with ⟨c', hc', e'⟩ | ⟨hn, _⟩
        · have : asC c = c' := At.uniq hok.pw ⟨_, hit_get hh, by rw [List.getElem?_map, hg]; rfl⟩ hc'
          subst this
          exact ⟨_, e', rfl⟩
        · exact absurd ⟨asC c, _, hit_get hh, by rw [List.getElem?_map, hg]; rfl⟩ hn
      · rw [e, Option.bind_some, rvalue_m (Nat.zero_le _), Option.bind_some]
        rcases get_m hok (by omega) hK8 k t with ⟨c', hc', _⟩ | ⟨_, e'⟩
        · rw [(At.hit hok.pw hc').1] at hh; cases hh
        · exact ⟨_, e', rfl⟩
    · have := ents_len r t K (R.map asC)
      rw [List.length_take]; omega
    · unfold m28_r08_Wrote
      rcases rchain_ok (by omega) hk50' hRl hb2 k with ⟨c, hh, hg, e⟩ | ⟨hh, e⟩
      · have hgm : (R.map asC)[kat K k]? = some (asC c) := by rw [List.getElem?_map, hg]; rfl
        have hcs := hok.cs _ (List.mem_of_getElem? hgm)
        have hpos : 0 < c.L.length := by
          have := List.length_pos_iff.2 hcs.1
          rwa [show (asC c).L.length = c.L.length from List.length_map _] at this
        rw [e, Option.bind_some, if_pos (decide_eq_true (by omega)), rlast_eq (by have := hlen c (List.mem_of_getElem? hg); omega), Option.bind_some]
        exact ⟨_, wrote_m hok (by omega) hK8 ⟨_, hit_get hh, hgm⟩ t, rfl⟩
      · refine ⟨false, ?_, by rw [e]; rfl⟩
        unfold m27_store_Wrote
        dsimp only
        rw [find_m K k (by omega), Option.bind_some, hh]
        rfl
    · unfold m33_r08_Latest
      dsimp only
      rw [rscan_m hRef, Option.bind_some, List.take_of_length_le]
      have := ents_len ⟨[], [], true⟩ T K (R.map asC)
      omega

theorem storeIs_true (a0 : GR08Store) (a1 : List UInt8) (a2 : GApiRange) (a3 a4 : Int) (a5 : List GApiWrite) : m3_l08_StoreIs a0 a1 a2 a3 a4 a5 = some true := by
  unfold m3_l08_StoreIs
  rw [awake08, Option.bind_some]
  obtain ⟨b, hb, hb2⟩ := few08 a0
  rw [hb, Option.bind_some]
  cases b with
  | false => rfl
  | true =>
  obtain ⟨f1, f2, f3, f4⟩ := hb2 rfl
  rw [if_neg (by decide)]
  by_cases h1 : 50 < (a1.length : Int)
  · rw [if_pos (decide_eq_true h1)]
  rw [if_neg (by rw [decide_eq_true_eq]; exact h1)]
  obtain ⟨b, hb, _⟩ := short_m (GApiRange.mk a2.Lo a2.Hi a2.Open)
  rw [hb, Option.bind_some]
  cases b with
  | false => rfl
  | true =>
  rw [if_neg (by decide)]
  obtain ⟨b, hb, hb2⟩ := fewW_m a5
  rw [hb, Option.bind_some]
  cases b with
  | false => rfl
  | true =>
  obtain ⟨hw0, hw1⟩ := hb2 rfl
  rw [if_neg (by decide)]
  unfold m3_l08_StoreIs_k2
  obtain ⟨K, R, T⟩ := a0
  dsimp only at f1 f2 f3 f4
  have B := both_m (T := T) f1 f2 f3 f4 a1 (GApiRange.mk a2.Lo a2.Hi a2.Open) a3 a4 a5 hw0 (fun w hw => (hw1 w hw).1)
  have hRl : ∀ c ∈ R, c.L.length ≤ 1000 := fun c hc => by have := f4 c hc; omega
  have hCl : ∀ c ∈ R.map asC, c.L.length ≤ 1000 := fun c hc => by
    obtain ⟨d, hd, rfl⟩ := List.mem_map.1 hc
    show (d.L.map cv).length ≤ _
    rw [List.length_map]; exact hRl d hd
  obtain ⟨x1, g1, g2⟩ := B.get
  obtain ⟨K1, C1, u1, e1, i1, i2, i3, i4, i5⟩ := B.inst
  obtain ⟨x2, s1, s2, s3⟩ := B.scan
  obtain ⟨x3, z1, z2⟩ := B.sane
  obtain ⟨K4, C4, v1, v2, v3, v4, v5⟩ := B.vac
  obtain ⟨x5, w1, w2⟩ := B.wrote
  obtain ⟨x6, c1, c2, c3⟩ := B.chg
  obtain ⟨x7, l1, l2, l3⟩ := B.latest
  have t1 : m19_l08_theirs ⟨K1, C1, u1⟩ = some ⟨K1, C1.map asR, u1⟩ := theirs_m i4 i5
  have t2 : m18_r08_Same ⟨K1, C1.map asR, u1⟩ ⟨K1, C1.map asR, u1⟩ = some true := same8_self _ i3 (by show (C1.map asR).length ≤ _; rw [List.length_map]; exact i4) (asR_len i5)
  have t3 : m19_l08_theirs ⟨K4, C4, T⟩ = some ⟨K4, C4.map asR, T⟩ := theirs_m v4 v5
  have t4 : m18_r08_Same ⟨K4, C4.map asR, T⟩ ⟨K4, C4.map asR, T⟩ = some true := same8_self _ v3 (by show (C4.map asR).length ≤ _; rw [List.length_map]; exact v4) (asR_len v5)
  have t5 : m19_l08_theirs ⟨K, R.map asC, T⟩ = some ⟨K, R, T⟩ := by rw [theirs_m (by rw [List.length_map]; omega) hCl, asR_map]
  have t6 : m18_r08_Same ⟨K, R, T⟩ ⟨K, R, T⟩ = some true := same8_self _ (by show K.length ≤ _; omega) (by show R.length ≤ _; omega) hRl
  rw [ours_m (by omega) hRl, Option.bind_some, g1, Option.bind_some]
  dsimp only
  rw [g2, Option.bind_some, i1, Option.bind_some, i2, Option.bind_some, if_neg (by simp), if_neg (by simp), t1, Option.bind_some, t2, Option.bind_some, if_neg (by decide), if_neg (by rw [decide_eq_true rfl]; decide), s1, Option.bind_some, s2, Option.bind_some, kvs_m _ (by omega), Option.bind_some, if_neg (by decide)]
  unfold m3_l08_StoreIs_k8
  dsimp only
  rw [if_pos rfl, z1, Option.bind_some, z2, Option.bind_some, if_pos (beq_self_eq_true _), v1, Option.bind_some, t3, Option.bind_some, v2, Option.bind_some, t4, Option.bind_some, if_pos rfl, w1, Option.bind_some, w2, Option.bind_some, if_pos (beq_self_eq_true _), c1, Option.bind_some, c2, Option.bind_some, lists_m _ (by omega), Option.bind_some, if_pos rfl, l1, Option.bind_some, l2, Option.bind_some, kvs_m _ (by omega), Option.bind_some, if_pos rfl, t5, Option.bind_some, t6, Option.bind_some]
end Go.Proofs.Ytbojepclnfnmcaa.Abs
