/-
  StoreIs: the document's side: what is got, scanned, vacuumed.
-/
import Derived.Test.YtbojepclnfnmcaaI08a
namespace Go.Proofs.Ytbojepclnfnmcaa.Abs


theorem asR_asC (c : GR07Chain) : asR (asC c) = c := by
  cases c with | mk L =>
  show GR07Chain.mk ((L.map cv).map vc) = ⟨L⟩
  rw [vc_cv]
theorem asR_map (R : List GR07Chain) : (R.map asC).map asR = R := by
  rw [List.map_map]
  conv => rhs; rw [← List.map_id R]
  exact List.map_congr_left fun c _ => asR_asC c
theorem get_map {R : List GR07Chain} {i : Nat} {c : GChainChain} (h : (R.map asC)[i]? = some c) : ∃ d, R[i]? = some d ∧ asC d = c := by
  rw [List.getElem?_map] at h
  cases e : R[i]? with
  | none => rw [e] at h; cases h
  | some d => rw [e] at h; exact ⟨d, rfl, Option.some.inj h⟩

theorem rvalue_m {c : GR07Chain} (h : c.L.length ≤ 1000) (t : Int) : m40_r07_Value c t = some (valC (c.L.map cv) t) := by
  obtain ⟨x, b, h1, h2⟩ := at_both h t
  have h3 := value_of h2
  rw [value_m (c := ⟨c.L.map cv⟩) (by show (c.L.map cv).length ≤ _; rw [List.length_map]; exact h)] at h3
  rw [rvalue_of h1]
  exact h3.symm

theorem rchain_not {K : Keys} {R : List GR07Chain} {T : Int} (hK : K.length ≤ 1000) (hk50 : ∀ k ∈ K, k.length ≤ 1000) (hs : m24_r08_Sane ⟨K, R, T⟩ = some false) (k : List UInt8) : m41_r08_Chain ⟨K, R, T⟩ k = some ⟨[]⟩ := by
  unfold m41_r08_Chain
  dsimp only
  rw [rfind_m K k (by omega) (fun x hx => by have := hk50 x hx; omega), Option.bind_some]
  cases hit K k with
  | false => rfl
  | true => rw [if_neg (fun h => Bool.noConfusion h), hs]; rfl
theorem rchain_ok {K : Keys} {R : List GR07Chain} {T : Int} (hK : K.length ≤ 1000) (hk50 : ∀ k ∈ K, k.length ≤ 1000) (hl : R.length = K.length) (hs : m24_r08_Sane ⟨K, R, T⟩ = some true) (k : List UInt8) :
    (∃ c, hit K k = true ∧ R[kat K k]? = some c ∧ m41_r08_Chain ⟨K, R, T⟩ k = some c) ∨ (hit K k = false ∧ m41_r08_Chain ⟨K, R, T⟩ k = some ⟨[]⟩) := by
  unfold m41_r08_Chain
  dsimp only
  rw [rfind_m K k (by omega) (fun x hx => by have := hk50 x hx; omega), Option.bind_some]
  cases hh : hit K k with
  | false => exact .inr ⟨rfl, rfl⟩
  | true =>
    have hlt := hit_lt hh
    have hg : R[kat K k]? = some (R[kat K k]'(by omega)) := List.getElem?_eq_getElem (by omega)
    refine .inl ⟨_, rfl, hg, ?_⟩
    rw [if_neg (fun h => Bool.noConfusion h), hs, Option.bind_some, if_neg (by decide)]
    unfold m41_r08_Chain_k2
    dsimp only
    rw [idx_nat, hg]; rfl

theorem iterB_stop {σ β : Type} {f : σ → Option (LB σ β)} {s : σ} {b : β} (h : f s = some (.brk b)) : iterB f fuel s = some b := by
  obtain ⟨v, hv, hr⟩ := iterB_inv (f := f) (P := fun q => q = s) (μ := fun _ => 0) (R := fun v => v = b) (by
    rintro _ rfl
    exact .inr ⟨_, h, rfl⟩) fuel s rfl (lt_fuel (by omega))
  rw [hv, hr]

theorem rscan_not {K : Keys} {R : List GR07Chain} {T : Int} (hs : m24_r08_Sane ⟨K, R, T⟩ = some false) (r : GApiRange) (t most : Int) : m22_r08_Scan ⟨K, R, T⟩ r t most = some [] := by
  unfold m22_r08_Scan
  rw [iterB_stop (b := []) (by
    unfold m22_r08_Scan_s2
    dsimp only
    by_cases h0 : 0 < (K.length : Int)
    · rw [if_pos (decide_eq_true h0), hs, Option.bind_some, if_neg (by decide)]
    · rw [if_neg (by rw [decide_eq_true_eq]; exact h0)])]
  rfl
theorem rchanged_not {K : Keys} {R : List GR07Chain} {T : Int} (hs : m24_r08_Sane ⟨K, R, T⟩ = some false) (r : GApiRange) (t : Int) : m31_r08_Changed ⟨K, R, T⟩ r t = some [] := by
  unfold m31_r08_Changed
  rw [iterB_stop (b := []) (by
    unfold m31_r08_Changed_s2
    dsimp only
    by_cases h0 : 0 < (K.length : Int)
    · rw [if_pos (decide_eq_true h0), hs, Option.bind_some, if_neg (by decide)]
    · rw [if_neg (by rw [decide_eq_true_eq]; exact h0)])]
  rfl

structure Ref (K : Keys) (R : List GR07Chain) (T : Int) : Prop where
  hK : K.length ≤ 128
  hR : R.length = K.length
  k50 : ∀ k ∈ K, k.length ≤ 1000
  len : ∀ c ∈ R, c.L.length ≤ 60
  sane : m24_r08_Sane ⟨K, R, T⟩ = some true
  ok : OkS K (R.map asC) T 60

theorem rscan_m {K : Keys} {R : List GR07Chain} {T : Int} (h : Ref K R T) (r : GApiRange) (t most : Int) : m22_r08_Scan ⟨K, R, T⟩ r t most = some ((ents r t K (R.map asC)).take most.toNat) := by
  have hK := h.hK
  have hR := h.hR
  have hcl : (R.map asC).length = K.length := by rw [List.length_map]; exact hR
  have hzl : (K.zip (R.map asC)).length = K.length := by rw [List.length_zip]; omega
  unfold m22_r08_Scan
  obtain ⟨v, hv, hr⟩ := iterB_inv (f := m22_r08_Scan_s2 ⟨K, R, T⟩ r t most) (P := fun s => ∃ i : Nat, i ≤ K.length ∧ s = ((i : Int), ((((K.zip (R.map asC)).take i).flatMap (ent r t)).take most.toNat))) (μ := fun s => K.length - s.1.toNat)
    (R := fun v => v = (ents r t K (R.map asC)).take most.toNat) (by
      rintro _ ⟨i, hi, rfl⟩
      unfold m22_r08_Scan_s2
      dsimp only
      rcases Nat.lt_or_ge i K.length with hlt | hge
      · have hx := List.getElem?_eq_getElem hlt
        have hd : R[i]? = some (R[i]'(by omega)) := List.getElem?_eq_getElem (by omega)
        have hc : (R.map asC)[i]? = some (asC (R[i]'(by omega))) := by rw [List.getElem?_map, hd]; rfl
        have hdl := h.len _ (List.getElem_mem (show i < R.length by omega))
        generalize R[i]'(by omega) = d at hd hc hdl
        have hst := flat_step (f := ent r t) (zip_get hx hc)
        have hlen : (((K.zip (R.map asC)).take i).flatMap (ent r t)).length ≤ 128 := by
          refine Nat.le_trans (flat8_len _ (ent_len r t) _) ?_
          rw [List.length_take]; omega
        rw [if_pos (decide_eq_true (by omega)), h.sane, Option.bind_some, if_pos rfl]
        unfold m22_r08_Scan_k3
        dsimp only
        rw [idx_nat, hd, Option.bind_some, rvalue_m (by omega), Option.bind_some]
        left
        have hnil : ent r t (K[i], asC d) = [] → (((K.zip (R.map asC)).take (i + 1)).flatMap (ent r t)) = (((K.zip (R.map asC)).take i).flatMap (ent r t)) := fun e => by rw [hst, e, List.append_nil]
        have hw : wI ((i : Int) + 1) = ((i + 1 : Nat) : Int) := by rw [wI_id (by omega) (by omega)]; rfl
        have hmu : ∀ x : List GApiKV, K.length - (((i + 1 : Nat) : Int), x).1.toNat < K.length - (((i : Nat) : Int), x).1.toNat := fun x => by dsimp only; omega
        cases hv : (valC (d.L.map cv) t).2 with
        | false =>
          rw [if_neg (by decide), hw]
          refine ⟨_, rfl, ⟨i + 1, hlt, ?_⟩, by dsimp only; omega⟩
          rw [hnil (by unfold ent; dsimp only; rw [hv, Bool.and_false]; rfl)]
        | true =>
          rw [if_pos rfl, idx_nat, hx, Option.bind_some, show (GApiRange.mk r.Lo r.Hi r.Open) = r from rfl, rhas_m _ _ (by have := h.k50 _ (List.getElem_mem hlt); omega), Option.bind_some]
          cases hh : hasV r K[i] with
          | false =>
            rw [if_neg (by decide), hw]
            refine ⟨_, rfl, ⟨i + 1, hlt, ?_⟩, by dsimp only; omega⟩
            rw [hnil (by unfold ent; dsimp only; rw [hh]; rfl)]
          | true =>
            have he : ent r t (K[i], asC d) = [⟨K[i], (valC (d.L.map cv) t).1⟩] := by unfold ent; dsimp only; rw [hh, hv]; rfl
            rw [he] at hst
            rw [if_pos rfl]
            by_cases hm : (((((K.zip (R.map asC)).take i).flatMap (ent r t)).take most.toNat).length : Int) < most
            · rw [List.length_take] at hm
              have hid : (((K.zip (R.map asC)).take i).flatMap (ent r t)).take most.toNat = ((K.zip (R.map asC)).take i).flatMap (ent r t) := List.take_of_length_le (by omega)
              rw [hid, if_pos (decide_eq_true (by omega)), Option.bind_some, if_pos (by rw [List.length_singleton]; omega), hw]
              refine ⟨_, rfl, ⟨i + 1, hlt, ?_⟩, by dsimp only; omega⟩
              rw [hst]
              refine congrArg (Prod.mk _) (List.take_of_length_le ?_).symm
              rw [List.length_append, List.length_singleton]; omega
            · rw [if_neg (by rw [decide_eq_true_eq]; exact hm), hw]
              rw [List.length_take] at hm
              refine ⟨_, rfl, ⟨i + 1, hlt, ?_⟩, by dsimp only; omega⟩
              rw [hst, List.take_append_of_le_length (by omega)]
      · have e : i = K.length := by omega
        subst e
        rw [if_neg (by rw [decide_eq_true_eq]; omega)]
        refine .inr ⟨_, rfl, ?_⟩
        unfold ents
        rw [← hzl, List.take_length]) fuel (0, []) ⟨0, Nat.zero_le _, by simp⟩ (lt_fuel (by show K.length - 0 ≤ _; omega))
  rw [hv, hr]
  rfl

theorem rchanged_m {K : Keys} {R : List GR07Chain} {T : Int} (h : Ref K R T) (r : GApiRange) (t : Int) : m31_r08_Changed ⟨K, R, T⟩ r t = some (chgs r t K (R.map asC)) := by
  have hK := h.hK
  have hR := h.hR
  have hcl : (R.map asC).length = K.length := by rw [List.length_map]; exact hR
  have hzl : (K.zip (R.map asC)).length = K.length := by rw [List.length_zip]; omega
  unfold m31_r08_Changed
  obtain ⟨v, hv, hr⟩ := iterB_inv (f := m31_r08_Changed_s2 ⟨K, R, T⟩ r t) (P := fun s => ∃ i : Nat, i ≤ K.length ∧ s = ((i : Int), ((K.zip (R.map asC)).take i).flatMap (chg r t))) (μ := fun s => K.length - s.1.toNat)
    (R := fun v => v = chgs r t K (R.map asC)) (by
      rintro _ ⟨i, hi, rfl⟩
      unfold m31_r08_Changed_s2
      dsimp only
      rcases Nat.lt_or_ge i K.length with hlt | hge
      · have hx := List.getElem?_eq_getElem hlt
        have hd : R[i]? = some (R[i]'(by omega)) := List.getElem?_eq_getElem (by omega)
        have hc : (R.map asC)[i]? = some (asC (R[i]'(by omega))) := by rw [List.getElem?_map, hd]; rfl
        have hdl := h.len _ (List.getElem_mem (show i < R.length by omega))
        generalize R[i]'(by omega) = d at hd hc hdl
        have hst := flat_step (f := chg r t) (zip_get hx hc)
        have hlen : (((K.zip (R.map asC)).take i).flatMap (chg r t)).length ≤ 128 := by
          refine Nat.le_trans (flat8_len _ (chg_len r t) _) ?_
          rw [List.length_take]; omega
        rw [if_pos (decide_eq_true (by omega)), h.sane, Option.bind_some, if_pos rfl]
        unfold m31_r08_Changed_k3
        dsimp only
        rw [idx_nat, hx, Option.bind_some, rhas_m _ _ (by have := h.k50 _ (List.getElem_mem hlt); omega), Option.bind_some]
        left
        have hnil : chg r t (K[i], asC d) = [] → (((K.zip (R.map asC)).take (i + 1)).flatMap (chg r t)) = (((K.zip (R.map asC)).take i).flatMap (chg r t)) := fun e => by rw [hst, e, List.append_nil]
        have hw : wI ((i : Int) + 1) = ((i + 1 : Nat) : Int) := by rw [wI_id (by omega) (by omega)]; rfl
        cases hh : hasV r K[i] with
        | false =>
          rw [if_neg (by decide), hw]
          refine ⟨_, rfl, ⟨i + 1, hlt, ?_⟩, by dsimp only; omega⟩
          rw [hnil (by unfold chg; dsimp only; rw [hh]; rfl)]
        | true =>
          rw [if_pos rfl, idx_nat, hd, Option.bind_some, rlast_eq (by omega), Option.bind_some]
          by_cases ht : t < lastTs (d.L.map cv)
          · have he : chg r t (K[i], asC d) = [K[i]] := by unfold chg; dsimp only; rw [hh, decide_eq_true ht]; rfl
            rw [if_pos (decide_eq_true ht), Option.bind_some, if_pos (by rw [List.length_singleton]; omega), hw]
            refine ⟨_, rfl, ⟨i + 1, hlt, ?_⟩, by dsimp only; omega⟩
            rw [hst, he]
          · rw [if_neg (by rw [decide_eq_true_eq]; exact ht), hw]
            refine ⟨_, rfl, ⟨i + 1, hlt, ?_⟩, by dsimp only; omega⟩
            rw [hnil (by unfold chg; dsimp only; rw [hh, decide_eq_false ht]; rfl)]
      · have e : i = K.length := by omega
        subst e
        rw [if_neg (by rw [decide_eq_true_eq]; omega)]
        refine .inr ⟨_, rfl, ?_⟩
        unfold chgs
        rw [← hzl, List.take_length]) fuel (0, []) ⟨0, Nat.zero_le _, by simp⟩ (lt_fuel (by show K.length - 0 ≤ _; omega))
  rw [hv, hr]
  rfl

theorem rvac_m {K : Keys} {R : List GR07Chain} {T : Int} (h : Ref K R T) (o : Int) :
    m26_r08_Vacuum ⟨K, R, T⟩ o = some ⟨(vacP (if T < o then T else o) K (R.map asC)).map (·.1), ((vacP (if T < o then T else o) K (R.map asC)).map (·.2)).map asR, T⟩ := by
  have hK := h.hK
  have hR := h.hR
  have hcl : (R.map asC).length = K.length := by rw [List.length_map]; exact hR
  have hzl : (K.zip (R.map asC)).length = K.length := by rw [List.length_zip]; omega
  unfold m26_r08_Vacuum
  rw [h.sane, Option.bind_some, if_neg (by decide)]
  obtain ⟨v, hv, hr⟩ := iterB_inv (f := m26_r08_Vacuum_s3 ⟨K, R, T⟩ o) (P := fun s => ∃ i : Nat, i ≤ K.length ∧ s = ((i : Int), (((K.zip (R.map asC)).take i).flatMap (vac1 (if T < o then T else o))).map (·.1), ((((K.zip (R.map asC)).take i).flatMap (vac1 (if T < o then T else o))).map (·.2)).map asR)) (μ := fun s => K.length - s.1.toNat)
    (R := fun v => v = ((vacP (if T < o then T else o) K (R.map asC)).map (·.1), ((vacP (if T < o then T else o) K (R.map asC)).map (·.2)).map asR)) (by
      rintro _ ⟨i, hi, rfl⟩
      unfold m26_r08_Vacuum_s3
      dsimp only
      generalize (if T < o then T else o) = o'
      rcases Nat.lt_or_ge i K.length with hlt | hge
      · left
        have hx := List.getElem?_eq_getElem hlt
        have hd : R[i]? = some (R[i]'(by omega)) := List.getElem?_eq_getElem (by omega)
        have hc : (R.map asC)[i]? = some (asC (R[i]'(by omega))) := by rw [List.getElem?_map, hd]; rfl
        have hdl := h.len _ (List.getElem_mem (show i < R.length by omega))
        generalize R[i]'(by omega) = d at hd hc hdl
        have hst := flat_step (f := vac1 o') (zip_get hx hc)
        have hlen : (((K.zip (R.map asC)).take i).flatMap (vac1 o')).length ≤ 128 := by
          refine Nat.le_trans (flat8_len _ (vac1_len o') _) ?_
          rw [List.length_take]; omega
        obtain ⟨h1, h2, h3, h4⟩ := h.ok.cs _ (List.mem_of_getElem? hc)
        obtain ⟨q, hq1, hq2, _⟩ := vac_both hdl o'
        rw [vac_eq (c := asC d) (by omega) h2] at hq2
        have hq3 : q = asR ⟨(asC d).L.drop (gone (asC d).L o')⟩ := by rw [Option.some.inj hq2]; exact (asR_asC q).symm
        have hql : q.L.length = ((asC d).L.drop (gone (asC d).L o')).length := by rw [hq3]; exact List.length_map _
        have hw : wI ((i : Int) + 1) = ((i + 1 : Nat) : Int) := by rw [wI_id (by omega) (by omega)]; rfl
        rw [if_pos (decide_eq_true (by omega)), idx_nat, hd, Option.bind_some, hq1, Option.bind_some, hw]
        by_cases hdr : 0 < ((asC d).L.drop (gone (asC d).L o')).length
        · have e : vac1 o' (K[i], asC d) = [(K[i], ⟨(asC d).L.drop (gone (asC d).L o')⟩)] := if_pos hdr
          rw [if_pos (decide_eq_true (by omega)), idx_nat, hx, Option.bind_some, if_pos (by rw [List.length_map, List.length_singleton]; omega), if_pos (by rw [List.length_map, List.length_map, List.length_singleton]; omega)]
          refine ⟨_, rfl, ⟨i + 1, hlt, ?_⟩, by dsimp only; omega⟩
          rw [hst, e, List.map_append, List.map_append, List.map_append, hq3]; rfl
        · have e : vac1 o' (K[i], asC d) = [] := if_neg hdr
          rw [if_neg (by rw [decide_eq_true_eq]; omega)]
          refine ⟨_, rfl, ⟨i + 1, hlt, ?_⟩, by dsimp only; omega⟩
          rw [hst, e, List.append_nil]
      · right
        have e : i = K.length := by omega
        subst e
        rw [if_neg (by rw [decide_eq_true_eq]; omega)]
        refine ⟨_, rfl, ?_⟩
        unfold vacP
        rw [← hzl, List.take_length]) fuel (0, [], []) ⟨0, Nat.zero_le _, by simp⟩ (lt_fuel (by show K.length - 0 ≤ _; omega))
  rw [hv, Option.bind_some, hr]
  rfl
end Go.Proofs.Ytbojepclnfnmcaa.Abs
