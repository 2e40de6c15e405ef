/-
  StoreIs: what is installed is the same on both sides.
-/
import Derived.Test.YtbojepclnfnmcaaI08c
namespace Go.Proofs.Ytbojepclnfnmcaa.Abs


theorem cv_inj {a b : List GR07Ver} (h : a.map cv = b.map cv) : a = b := by
  rw [← vc_cv a, ← vc_cv b, h]

/-- A push of what may follow. -/
theorem rpush_m {c : GR07Chain} (h : c.L.length ≤ 60) (hk : OkC (c.L.map cv)) {v : GR07Ver} (hv : vOk (cv v) = true) (hl : lastTs (c.L.map cv) < v.Ts) : m48_r07_Push c v = some (⟨c.L ++ [v]⟩, 0) := by
  obtain ⟨q, e, h1, h2, _⟩ := push_both h v
  rw [push_new (c := ⟨c.L.map cv⟩) (by show (c.L.map cv).length ≤ _; rw [List.length_map]; omega) hk hv hl] at h2
  have h3 := Option.some.inj h2
  have h4 : (c.L.map cv ++ [cv v]) = q.L.map cv := congrArg (fun x => x.1.L) h3
  have h5 : (0 : Int) = e := congrArg (fun x => x.2) h3
  have h6 : c.L ++ [v] = q.L := cv_inj (by rw [List.map_append]; exact h4)
  rw [h1, ← h5, h6]

/-- One key's chain on the document's side. -/
theorem inst_in {l : List GApiWrite} {K' : Keys} {ts : Int} {i : Nat} {k : List UInt8} (hk : K'[i]? = some k) (hl : l.length ≤ 1000) (hp : PW (l.map (·.Key))) (acc : List GR07Chain) (c : GR07Chain)
    (hc : c.L.length ≤ 60) (ho : OkC (c.L.map cv)) (hts : 1 ≤ ts ∧ ts ≤ 1099511627776) (hlt : lastTs (c.L.map cv) < ts) (hw : ∀ w ∈ l, wOk w = true) :
    iterB (m17_r08_Install_s10 ts l K' ((i : Int), acc)) fuel (0, c.L) = some (match l.find? (fun w => w.Key == k) with | some w => c.L ++ [⟨ts, w.Val, w.Del⟩] | none => c.L) := by
  obtain ⟨v, hv, hr⟩ := iterB_inv (f := m17_r08_Install_s10 ts l K' ((i : Int), acc)) (P := fun s => ∃ j : Nat, j ≤ l.length ∧ s = ((j : Int), match (l.take j).find? (fun w => w.Key == k) with | some w => c.L ++ [⟨ts, w.Val, w.Del⟩] | none => c.L)) (μ := fun s => l.length - s.1.toNat)
    (R := fun v => v = (match l.find? (fun w => w.Key == k) with | some w => c.L ++ [⟨ts, w.Val, w.Del⟩] | none => c.L)) (by
      rintro _ ⟨j, hj, rfl⟩
      unfold m17_r08_Install_s10
      dsimp only
      rcases Nat.lt_or_ge j l.length with hlj | hge
      · left
        have hx := List.getElem?_eq_getElem hlj
        have hw1 : wI ((j : Int) + 1) = ((j + 1 : Nat) : Int) := by rw [wI_id (by omega) (by omega)]; rfl
        rw [if_pos (decide_eq_true (by omega)), idx_nat, hx, Option.bind_some, idx_nat, hk, Option.bind_some, hw1]
        by_cases he : l[j].Key = k
        · have hnone : (l.take j).find? (fun w => w.Key == k) = none := by
            rw [List.find?_eq_none]
            intro w hm e
            have e := eq_of_beq e
            obtain ⟨m, hmm⟩ := List.mem_iff_getElem?.1 hm
            rw [List.getElem?_take] at hmm
            split at hmm
            · next hmj =>
              have h1 : (l.map (·.Key))[m]? = some k := by rw [List.getElem?_map, hmm, ← e]; rfl
              have h2 : (l.map (·.Key))[j]? = some k := by rw [List.getElem?_map, hx, ← he]; rfl
              have := pw_inj hp h1 h2
              omega
            · cases hmm
          have hsome : (l.take (j + 1)).find? (fun w => w.Key == k) = some l[j] := by
            rw [List.take_succ_eq_append_getElem hlj, List.find?_append, hnone, List.find?_singleton]
            simp [he]
          rw [if_pos (by rw [he]; exact beq_self_eq_true k), Option.bind_some, Option.bind_some, hnone]
          dsimp only
          rw [rpush_m (c := ⟨c.L⟩) (v := ⟨ts, l[j].Val, l[j].Del⟩) hc ho (vOk_ver hts.1 hts.2 (hw _ (List.getElem_mem hlj))) hlt, Option.bind_some]
          exact ⟨_, rfl, ⟨j + 1, hlj, by rw [hsome]⟩, by dsimp only; omega⟩
        · have hsame : (l.take (j + 1)).find? (fun w => w.Key == k) = (l.take j).find? (fun w => w.Key == k) := by
            rw [List.take_succ_eq_append_getElem hlj, List.find?_append, List.find?_singleton]
            simp [he]
          rw [if_neg (by rw [beq_iff_eq]; exact he)]
          exact ⟨_, rfl, ⟨j + 1, hlj, by rw [hsame]⟩, by dsimp only; omega⟩
      · right
        have e : j = l.length := by omega
        subst e
        rw [if_neg (by rw [decide_eq_true_eq]; omega)]
        rw [List.take_length]
        exact ⟨_, rfl, rfl⟩) fuel (0, c.L) ⟨0, Nat.zero_le _, rfl⟩ (lt_fuel (by show l.length - 0 ≤ _; omega))
  rw [hv, hr]

theorem rinstall_loop {K : Keys} {R : List GR07Chain} {T : Int} (h : Ref K R T) {ts : Int} (ht : T < ts ∧ ts ≤ 1099511627776) {l : List GApiWrite} (hl : l.length ≤ 1000) (hwp : WP l) {K' : Keys} {C' : List GChainChain} (hL : Laid K (R.map asC) ts l K' C') (hK' : K'.length ≤ 1000) :
    iterB (m17_r08_Install_s5 ⟨K, R, T⟩ ts l K') fuel (0, []) = some (C'.map asR) := by
  have hcl := hL.cl
  have h0 := h.ok.t0
  obtain ⟨hw, hkk, hp⟩ := hwp
  obtain ⟨v, hv, hr⟩ := iterB_inv (f := m17_r08_Install_s5 ⟨K, R, T⟩ ts l K') (P := fun s => ∃ j : Nat, j ≤ K'.length ∧ s = ((j : Int), (C'.take j).map asR)) (μ := fun s => K'.length - s.1.toNat)
    (R := fun v => v = C'.map asR) (by
      rintro _ ⟨j, hj, rfl⟩
      unfold m17_r08_Install_s5
      dsimp only
      rcases Nat.lt_or_ge j K'.length with hlj | hge
      · left
        have hx := List.getElem?_eq_getElem hlj
        have hc : C'[j]? = some (C'[j]'(by omega)) := List.getElem?_eq_getElem (by omega)
        have hat : At K' C' K'[j] (C'[j]'(by omega)) := ⟨j, hx, hc⟩
        rw [if_pos (decide_eq_true (by omega)), idx_nat, hx, Option.bind_some]
        have key : ∃ d : GR07Chain, m41_r08_Chain ⟨K, R, T⟩ K'[j] = some d ∧ d.L.length ≤ 60 ∧ OkC (d.L.map cv) ∧ lastTs (d.L.map cv) ≤ T ∧ ((At K (R.map asC) K'[j] (asC d)) ∨ ((¬ ∃ c, At K (R.map asC) K'[j] c) ∧ d = ⟨[]⟩)) := by
          rcases rchain_ok (by have := h.hK; omega) h.k50 h.hR h.sane K'[j] with ⟨d, hh, hg, e⟩ | ⟨hh, e⟩
          · have hgm : (R.map asC)[kat K K'[j]]? = some (asC d) := by rw [List.getElem?_map, hg]; rfl
            have hcs := h.ok.cs _ (List.mem_of_getElem? hgm)
            exact ⟨d, e, h.len d (List.mem_of_getElem? hg), hcs.2.1, hcs.2.2.1, .inl ⟨_, hit_get hh, hgm⟩⟩
          · exact ⟨⟨[]⟩, e, Nat.zero_le _, okC_nil, h0, .inr ⟨fun ⟨c, hc⟩ => (by rw [(At.hit h.ok.pw hc).1] at hh; cases hh), rfl⟩⟩
        obtain ⟨d, e1, hd1, hd2, hd3, hd4⟩ := key
        rw [e1, Option.bind_some, inst_in hx hl hp _ d hd1 hd2 ⟨by omega, ht.2⟩ (by omega) hw, Option.bind_some]
        have hres : (match l.find? (fun w => w.Key == K'[j]) with | some w => d.L ++ [⟨ts, w.Val, w.Del⟩] | none => d.L) = (C'[j]'(by omega)).L.map vc := by
          cases hf : l.find? (fun w => w.Key == K'[j]) with
          | none =>
            have hne : ∀ w ∈ l, w.Key ≠ K'[j] := fun w hm e => by
              have := List.find?_eq_none.1 hf w hm
              rw [e] at this
              exact this (beq_self_eq_true _)
            have hold := (hL.old _ _ hne).1 hat
            rcases hd4 with hd | ⟨hn, _⟩
            · have := At.uniq h.ok.pw hd hold
              rw [← this]
              exact (vc_cv d.L).symm
            · exact absurd ⟨_, hold⟩ hn
          | some w =>
            have hm := List.mem_of_find?_eq_some hf
            have he1 : (fun w : GApiWrite => w.Key == K'[j]) w = true := List.find?_some (p := fun w : GApiWrite => w.Key == K'[j]) hf
            have he : w.Key = K'[j] := eq_of_beq he1
            dsimp only
            have hat' : At K' C' w.Key (C'[j]'(by omega)) := by rw [he]; exact hat
            rcases hL.new w hm _ hat' with ⟨c0, h1, h2⟩ | ⟨h1, h2⟩
            · rcases hd4 with hd | ⟨hn, _⟩
              · rw [he] at h1
                have := At.uniq h.ok.pw hd h1
                rw [h2, ← this, List.map_append]
                show _ = (d.L.map cv).map vc ++ _
                rw [vc_cv]; rfl
              · rw [he] at h1
                exact absurd ⟨_, h1⟩ hn
            · rcases hd4 with hd | ⟨_, rfl⟩
              · rw [he] at h1
                exact absurd ⟨_, hd⟩ h1
              · rw [h2]; rfl
        rw [hres]
        unfold m17_r08_Install_k8
        dsimp only
        rw [if_pos (by rw [List.length_map, List.length_take, List.length_singleton]; omega), wI_id (by omega) (by omega)]
        refine ⟨_, rfl, ⟨j + 1, hlj, ?_⟩, by dsimp only; omega⟩
        rw [List.take_succ_eq_append_getElem (show j < C'.length by omega), List.map_append]; rfl
      · right
        have e : j = C'.length := by omega
        subst e
        rw [if_neg (by rw [decide_eq_true_eq]; omega)]
        exact ⟨_, rfl, by rw [List.take_length]⟩) fuel (0, []) ⟨0, Nat.zero_le _, by simp⟩ (lt_fuel (by show K'.length - 0 ≤ _; omega))
  rw [hv, hr]

theorem laid_mem {K : Keys} {C : List GChainChain} {ts : Int} {l : List GApiWrite} {K' : Keys} {C' : List GChainChain} (hl : C.length = K.length) (hL : Laid K C ts l K' C') (x : List UInt8) : x ∈ K' ↔ x ∈ K ∨ ∃ w ∈ l, w.Key = x := by
  have hcl := hL.cl
  constructor
  · intro hx
    by_cases hex : ∃ w ∈ l, w.Key = x
    · exact .inr hex
    · obtain ⟨i, hi⟩ := List.mem_iff_getElem?.1 hx
      have hlt := (List.getElem?_eq_some_iff.1 hi).1
      obtain ⟨j, hj, _⟩ := (hL.old x (C'[i]'(by omega)) (fun w hw e => hex ⟨w, hw, e⟩)).1 ⟨i, hi, List.getElem?_eq_getElem (by omega)⟩
      exact .inl (List.mem_of_getElem? hj)
  · intro hx
    by_cases hex : ∃ w ∈ l, w.Key = x
    · obtain ⟨w, hw, rfl⟩ := hex
      obtain ⟨c, i, hi, _⟩ := hL.is w hw
      exact List.mem_of_getElem? hi
    · rcases hx with hx | hx
      · obtain ⟨i, hi⟩ := List.mem_iff_getElem?.1 hx
        have hlt := (List.getElem?_eq_some_iff.1 hi).1
        obtain ⟨j, hj, _⟩ := (hL.old x (C[i]'(by omega)) (fun w hw e => hex ⟨w, hw, e⟩)).2 ⟨i, hi, List.getElem?_eq_getElem (by omega)⟩
        exact List.mem_of_getElem? hj
      · exact absurd hx hex

/-- Both sides install the same. -/
theorem install_both {K : Keys} {R : List GR07Chain} {T : Int} (h : Ref K R T) (ts : Int) (l : List GApiWrite) (hl : l.length ≤ 1000) (hlk : ∀ w ∈ l, w.Key.length ≤ 1000) :
    ∃ (K' : Keys) (C' : List GChainChain) (t e : Int), m16_store_Install ⟨K, R.map asC, T⟩ ts l = some (⟨K', C', t⟩, e) ∧ m17_r08_Install ⟨K, R, T⟩ ts l = some (⟨K', C'.map asR, t⟩, e) ∧ K'.length ≤ 1000 ∧ C'.length ≤ 1000 ∧ ∀ c ∈ C', c.L.length ≤ 1000 := by
  have hcl : (R.map asC).length = K.length := h.ok.cl
  have h0 := h.ok.t0
  have hnil : ∀ c ∈ ([] : List GChainChain), c.L.length ≤ 1000 := fun c hc => (by cases hc)
  have ours : m16_store_Install ⟨K, R.map asC, T⟩ ts l = (m42_store_saneWrites l).bind fun v => if (!v) then some (zstore, 1) else m16_store_Install_k1 ⟨K, R.map asC, T⟩ ts l () := by
    unfold m16_store_Install
    show (m23_store_Sane ⟨K, R.map asC, T⟩).bind _ = _
    rw [ssane_m h.ok (by omega) h.hK, Option.bind_some, if_neg (by decide)]
  have ref : m17_r08_Install ⟨K, R, T⟩ ts l = (m46_r08_Writes l).bind fun v => if (!v) then some (⟨[], [], 0⟩, 1) else m17_r08_Install_k1 ⟨K, R, T⟩ ts l () := by
    unfold m17_r08_Install
    show (m24_r08_Sane ⟨K, R, T⟩).bind _ = _
    rw [h.sane, Option.bind_some, if_neg (by decide)]
  obtain ⟨b, hb, hb2⟩ := saneWrites_iff l (by omega)
  obtain ⟨b', hb', hb2'⟩ := rwrites_iff l (by omega) hlk
  have : b = b' := by rw [Bool.eq_iff_iff]; exact hb2.trans hb2'.symm
  subst this
  rw [ours, ref, hb, hb', Option.bind_some, Option.bind_some]
  cases b with
  | false => exact ⟨[], [], 0, 1, rfl, rfl, by decide, by decide, hnil⟩
  | true =>
  have hwp := hb2.1 rfl
  rw [if_neg (by decide), if_neg (by decide)]
  unfold m16_store_Install_k1 m17_r08_Install_k1
  dsimp only
  by_cases h1 : ts ≤ T
  · rw [if_pos (decide_eq_true h1), if_pos (decide_eq_true h1)]; exact ⟨[], [], 0, 7, rfl, rfl, by decide, by decide, hnil⟩
  have hn1 : ¬ decide (ts ≤ T) = true := by rw [decide_eq_true_eq]; exact h1
  rw [if_neg hn1, if_neg hn1]
  by_cases h2 : 1099511627776 < ts
  · rw [if_pos (decide_eq_true h2), if_pos (decide_eq_true h2)]; exact ⟨[], [], 0, 7, rfl, rfl, by decide, by decide, hnil⟩
  have hn2 : ¬ decide (1099511627776 < ts) = true := by rw [decide_eq_true_eq]; exact h2
  rw [if_neg hn2, if_neg hn2]
  unfold m16_store_Install_k2 m17_r08_Install_k2
  have hK := h.hK
  have e1 : m43_slices_Cloneo K = some K := by
    unfold m43_slices_Cloneo
    rw [if_pos (by simp only [List.length_nil]; omega)]; rfl
  have e2 : m44_slices_Cloneo (R.map asC) = some (R.map asC) := by
    unfold m44_slices_Cloneo
    rw [if_pos (by simp only [List.length_nil]; omega)]; rfl
  dsimp only
  rw [e1, Option.bind_some, e2, Option.bind_some]
  obtain ⟨K', C', e3, hL⟩ := lays_m h.ok (by omega) h.hK (ts := ts) ⟨by omega, by omega⟩ l hl hwp.1 hwp.2.1 hwp.2.2
  obtain ⟨X, e4, hX, hXm⟩ := inserts_m l K h.ok.pw (by omega) h.k50 hl hlk
  have hXK : X = K' := pw_ext hX hL.pw fun x => (hXm x).trans (laid_mem hcl hL x).symm
  subst hXK
  rw [e3, Option.bind_some, e4, Option.bind_some]
  unfold m16_store_Install_k5 m17_r08_Install_k3
  dsimp only
  have hlen := hL.len
  by_cases h8 : 128 < (X.length : Int)
  · rw [if_pos (decide_eq_true h8), if_pos (decide_eq_true h8)]; exact ⟨[], [], 0, 8, rfl, rfl, by decide, by decide, hnil⟩
  have hn8 : ¬ decide (128 < (X.length : Int)) = true := by rw [decide_eq_true_eq]; exact h8
  rw [if_neg hn8, if_neg hn8, rinstall_loop h ⟨by omega, by omega⟩ hl hwp hL (by omega), Option.bind_some]
  refine ⟨X, C', ts, 0, rfl, rfl, by omega, by have := hL.cl; omega, fun c hc => ?_⟩
  obtain ⟨k, hat⟩ := At.mem hL.cl hc
  have hcs : ∀ c ∈ R.map asC, OkC c.L ∧ c.L.length ≤ 60 := fun c hc => ⟨(h.ok.cs c hc).2.1, (h.ok.cs c hc).2.2.2⟩
  by_cases hex : ∃ w ∈ l, w.Key = k
  · obtain ⟨w, hwm, rfl⟩ := hex
    have hh := Grew.ok hcs ⟨by omega, by omega⟩ (hwp.1 w hwm) (fun c ⟨i, _, hi⟩ => by have := (h.ok.cs c (List.mem_of_getElem? hi)).2.2.1; omega) (hL.new w hwm c hat)
    have := hh.2.1
    omega
  · obtain ⟨i, _, hi⟩ := (hL.old k c (fun w hwm e => hex ⟨w, hwm, e⟩)).1 hat
    have := (hcs c (List.mem_of_getElem? hi)).2
    omega
end Go.Proofs.Ytbojepclnfnmcaa.Abs
