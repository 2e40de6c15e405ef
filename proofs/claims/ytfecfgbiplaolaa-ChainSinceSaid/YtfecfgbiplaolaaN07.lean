/-
  The statements on versions.
-/
import Derived.Test.YtfecfgbiplaolaaM07b
namespace Go.Proofs.Ytfecfgbiplaolaa.Abs

theorem awake07 : m8_l07_awake = some true := by decide +kernel

theorem chainIs_true (a0 : GR07Chain) (a1 : GR07Ver) (a2 : Int) : m3_l07_ChainIs a0 a1 a2 = some true := by
  unfold m3_l07_ChainIs
  rw [awake07, Option.bind_some]
  rcases few_cases a0 with hf | ⟨hf, hlen, hval⟩
  · rw [hf]; rfl
  rw [hf, Option.bind_some, if_neg (by simp)]
  by_cases hv : (100 : Int) < a1.Val.length
  · rw [if_pos (decide_eq_true hv)]
  rw [if_neg (by simpa using hv)]
  have hl : (a0.L.map cv).length ≤ 1000 := by simp; omega
  unfold m3_l07_ChainIs_k2 m16_l07_ver
  obtain ⟨x, b, e1, e2⟩ := at_both (c := a0) (by omega) a2
  obtain ⟨q, e, e3, e4, e5⟩ := push_both hlen a1
  obtain ⟨d, e6, e7, e8⟩ := vac_both hlen a2
  have e4' : m15_chain_Push ⟨a0.L.map cv⟩ ⟨a1.Ts, a1.Val, a1.Del⟩ = some (⟨q.L.map cv⟩, e) := e4
  have t1 : m19_l07_theirs [cv x] = some [x] := by rw [theirs_eq _ (by simp)]; rfl
  have tq : m19_l07_theirs (q.L.map cv) = some q.L := by rw [theirs_eq _ (by simpa using e5), vc_cv]
  have td : m19_l07_theirs (d.L.map cv) = some d.L := by rw [theirs_eq _ (by simpa using e8), vc_cv]
  have t0 : m19_l07_theirs (a0.L.map cv) = some a0.L := by rw [theirs_eq _ (by simp; omega), vc_cv]
  have hsn : m26_chain_Since ⟨a0.L.map cv⟩ a2 = some ((a0.L.filter fun v => decide (a2 < v.Ts)).map cv) := by
    rw [since_eq (c := ⟨a0.L.map cv⟩) (by simpa using hlen) (fun v hm => by
      obtain ⟨u, hu, rfl⟩ := List.mem_map.1 hm
      exact hval u hu), later_map]
  have hfl : (a0.L.filter fun v => decide (a2 < v.Ts)).length ≤ 60 := Nat.le_trans (List.length_filter_le ..) hlen
  have ts : m19_l07_theirs ((a0.L.filter fun v => decide (a2 < v.Ts)).map cv) = some (a0.L.filter fun v => decide (a2 < v.Ts)) := by rw [theirs_eq _ (by simp only [List.length_map]; omega), vc_cv]
  have same : ∀ l : List GR07Ver, l.length ≤ 1000 → m18_r07_Same l l = some true := fun l h => by rw [same_eq l l h]; simp
  rw [ours_eq ⟨a0.L⟩ (by show a0.L.length ≤ 1000; omega)]
  simp only [Option.bind_some]
  rw [e2, e1]
  simp only [Option.bind_some]
  rw [value_of e2, rvalue_of e1]
  simp only [Option.bind_some]
  rw [e4', e3]
  simp only [Option.bind_some]
  rw [t1]
  simp only [Option.bind_some]
  rw [same [x] (by simp)]
  have hcv : (cv x).Del = x.Del := rfl
  have hcv2 : (cv x).Val = x.Val := rfl
  rw [hcv, hcv2]
  simp only [Option.bind_some, beq_self_eq_true, Bool.not_true, Bool.false_eq_true, if_false]
  rw [tq]
  simp only [Option.bind_some]
  rw [same q.L e5]
  simp only [Option.bind_some, Bool.not_true, Bool.false_eq_true, if_false, decide_true]
  unfold m3_l07_ChainIs_k11
  rw [if_pos rfl]
  have hsane : ∃ b, m20_chain_Sane ⟨a0.L.map cv⟩ = some b ∧ m21_r07_Sane ⟨a0.L⟩ = some b := by
    rcases sane_cases (c := ⟨a0.L.map cv⟩) hl with ⟨h1, h2⟩ | ⟨h1, h2⟩ <;> rcases rsane_cases (c := ⟨a0.L⟩) (by show a0.L.length ≤ 1000; omega) with ⟨h3, h4⟩ | ⟨h3, h4⟩
    · exact ⟨_, h1, h3⟩
    · exact absurd h2 h4
    · exact absurd h4 h2
    · exact ⟨_, h1, h3⟩
  obtain ⟨bs, s1, s2⟩ := hsane
  rw [s1, s2]
  simp only [Option.bind_some, beq_self_eq_true, if_true]
  rw [last_eq (c := ⟨a0.L.map cv⟩) hl, rlast_eq (c := ⟨a0.L⟩) (by show a0.L.length ≤ 1000; omega)]
  simp only [Option.bind_some, decide_true, if_true]
  rw [e7, Option.bind_some, td, Option.bind_some, e6, Option.bind_some, same d.L e8]
  simp only [Option.bind_some, if_true]
  rw [hsn, Option.bind_some, ts, Option.bind_some, rsince_eq hlen, Option.bind_some, same _ (by omega)]
  simp only [Option.bind_some, if_true]
  rw [t0, Option.bind_some, same a0.L (by omega)]
  rfl

/-! Versions that may be, of any -/
theorem okC_nil : OkC [] := ⟨fun i v h => by simp at h, fun i v w h => by simp at h⟩
theorem okC_snoc {l : List GChainVer} (h : OkC l) {v : GChainVer} (hv : vOk v = true) (hl : lastTs l < v.Ts) : OkC (l ++ [v]) := by
  refine ⟨fun i u hu => ?_, fun i u w hu hw => ?_⟩
  · by_cases hi : i < l.length
    · rw [List.getElem?_append_left hi] at hu; exact h.each i u hu
    · rw [List.getElem?_append_right (by omega)] at hu
      cases hj : i - l.length with
      | zero => rw [hj] at hu; cases hu; exact hv
      | succ j => rw [hj] at hu; simp at hu
  · by_cases hi : i + 1 < l.length
    · rw [List.getElem?_append_left (by omega)] at hu
      rw [List.getElem?_append_left hi] at hw
      exact h.asc i u w hu hw
    · by_cases hi2 : i < l.length
      · rw [List.getElem?_append_left hi2] at hu
        rw [List.getElem?_append_right (by omega), show i + 1 - l.length = 0 by omega] at hw
        cases hw
        unfold lastTs at hl
        rw [show l.length - 1 = i by omega, hu] at hl
        exact hl
      · rw [List.getElem?_append_right (by omega)] at hw
        cases hj : i + 1 - l.length with
        | zero => omega
        | succ j => rw [hj] at hw; simp at hw
theorem okC_drop {l : List GChainVer} (h : OkC l) (n : Nat) : OkC (l.drop n) := by
  refine ⟨fun i v hv => ?_, fun i v w hv hw => ?_⟩
  · rw [List.getElem?_drop] at hv; exact h.each _ v hv
  · rw [List.getElem?_drop] at hv hw; exact h.asc (n + i) v w hv (by rw [Nat.add_assoc]; exact hw)
theorem okC_take {l : List GChainVer} (h : OkC l) (n : Nat) : OkC (l.take n) := by
  refine ⟨fun i v hv => ?_, fun i v w hv hw => ?_⟩
  · rw [List.getElem?_take] at hv
    split at hv
    · exact h.each _ v hv
    · cases hv
  · rw [List.getElem?_take] at hv hw
    split at hw
    · rw [if_pos (by omega)] at hv
      exact h.asc i v w hv hw
    · cases hw
theorem okC_val {l : List GChainVer} (h : OkC l) : ∀ v ∈ l, v.Val.length ≤ 100 := fun v hm => by
  obtain ⟨i, hi, hiv⟩ := List.getElem_of_mem hm
  have := h.each i v (by rw [List.getElem?_eq_getElem hi, hiv])
  unfold vOk at this
  simp only [Bool.and_eq_true, decide_eq_true_eq] at this
  omega
theorem okC_le {l : List GChainVer} (h : OkC l) {i : Nat} {v : GChainVer} (hv : l[i]? = some v) : ∀ (d : Nat) (w : GChainVer), l[i + d]? = some w → v.Ts ≤ w.Ts
  | 0, w, hw => by rw [Nat.add_zero, hv] at hw; cases hw; exact Int.le_refl _
  | d + 1, w, hw => by
    have hlt := (List.getElem?_eq_some_iff.1 hw).1
    have hg := List.getElem?_eq_getElem (show i + d < l.length by omega)
    have ih := okC_le h hv d _ hg
    have := h.asc (i + d) _ w hg (by rw [Nat.add_assoc]; exact hw)
    omega

theorem grown_eq (l : List GR07Ver) (h : l.length ≤ 60) : ∃ c, m28_l07_grown l = some c ∧ OkC c.L ∧ c.L.length ≤ 60 := by
  obtain ⟨x, hx, hR⟩ := iterB_inv (f := m28_l07_grown_s2 l) (P := fun s => ∃ i : Nat, i ≤ l.length ∧ s.1 = (i : Int) ∧ OkC s.2 ∧ s.2.length ≤ i) (μ := fun s => l.length - s.1.toNat) (R := fun x => OkC x ∧ x.length ≤ 60) (by
    rintro ⟨_, cur⟩ ⟨i, hi, rfl, hk, hc⟩
    dsimp only at hk hc
    unfold m28_l07_grown_s2 m16_l07_ver
    dsimp only
    rcases Nat.lt_or_ge i l.length with hlt | hge
    · left
      rw [if_pos (decide_eq_true (by omega)), idx_nat, List.getElem?_eq_getElem hlt, wn (by omega)]
      simp only [Option.bind_some]
      generalize l[i] = v
      have hmu : l.length - (((i + 1 : Nat) : Int)).toNat < l.length - ((i : Nat) : Int).toNat := by omega
      have stay : ∃ s', (if decide ((7 : Int) = 0) = true then some (LB.cont (((i + 1 : Nat) : Int), ([] : List GChainVer))) else some (.cont (((i + 1 : Nat) : Int), cur)) : Option (LB (Int × List GChainVer) (List GChainVer))) = some (.cont s') ∧ (∃ i : Nat, i ≤ l.length ∧ s'.1 = (i : Int) ∧ OkC s'.2 ∧ s'.2.length ≤ i) ∧ l.length - s'.1.toNat < l.length - ((i : Nat) : Int).toNat :=
        ⟨_, if_neg (by decide), ⟨i + 1, hlt, rfl, hk, by show cur.length ≤ i + 1; omega⟩, hmu⟩
      cases hv : vOk (⟨v.Ts, v.Val, v.Del⟩ : GChainVer) with
      | false =>
        rw [push_not (c := ⟨cur⟩) (by show cur.length ≤ 1000; omega) (.inr hv)]
        exact ⟨_, rfl, ⟨i + 1, hlt, rfl, hk, by show cur.length ≤ i + 1; omega⟩, hmu⟩
      | true =>
        by_cases hls : v.Ts ≤ lastTs cur
        · rw [push_old (c := ⟨cur⟩) (by show cur.length ≤ 1000; omega) hk hv hls]
          exact ⟨_, rfl, ⟨i + 1, hlt, rfl, hk, by show cur.length ≤ i + 1; omega⟩, hmu⟩
        · have hls' : lastTs cur < v.Ts := by omega
          rw [push_new (c := ⟨cur⟩) (by show cur.length ≤ 1000; omega) hk hv hls']
          exact ⟨_, rfl, ⟨i + 1, hlt, rfl, okC_snoc hk hv hls', by show (cur ++ [_]).length ≤ i + 1; simp; omega⟩, hmu⟩
    · right
      rw [if_neg (by simp; omega)]
      exact ⟨_, rfl, hk, by omega⟩) fuel (0, []) ⟨0, Nat.zero_le _, rfl, okC_nil, by simp⟩ (lt_fuel (by show l.length - 0 ≤ _; omega))
  refine ⟨⟨x⟩, ?_, hR.1, hR.2⟩
  unfold m28_l07_grown
  rw [hx]
  rfl

/-- How many are seen at or ahead of a time. -/
def pc (l : List GChainVer) (t : Int) : Nat := (plc l t l.length + 1).toNat
theorem pc_le (l : List GChainVer) (t : Int) : pc l t ≤ l.length := by
  obtain ⟨h1, h2, _, _⟩ := plc_spec l t l.length (Nat.le_refl _)
  unfold pc; omega
theorem plc_pc (l : List GChainVer) (t : Int) : plc l t l.length = (pc l t : Int) - 1 := by
  obtain ⟨h1, h2, _, _⟩ := plc_spec l t l.length (Nat.le_refl _)
  unfold pc; omega
theorem pc_iff {l : List GChainVer} (h : OkC l) (t : Int) {i : Nat} {v : GChainVer} (hv : l[i]? = some v) : i < pc l t ↔ v.Ts ≤ t := by
  obtain ⟨h1, h2, h3, h4⟩ := plc_spec l t l.length (Nat.le_refl _)
  have hp := plc_pc l t
  have hlt := (List.getElem?_eq_some_iff.1 hv).1
  constructor
  · intro hi
    have hk : pc l t - 1 < l.length := by have := pc_le l t; omega
    have hg := List.getElem?_eq_getElem hk
    have h5 := h3 (pc l t - 1) _ (by omega) hg
    have h6 := okC_le h hv (pc l t - 1 - i) _ (by rw [show i + (pc l t - 1 - i) = pc l t - 1 by omega]; exact hg)
    omega
  · intro ht
    rcases Nat.lt_or_ge i (pc l t) with hi | hi
    · exact hi
    · have := h4 i v (by omega) hlt hv
      omega
/-- It is the only number that parts them so. -/
theorem pc_eq {l : List GChainVer} (h : OkC l) {t : Int} {n : Nat} (hn : n ≤ l.length) (ha : ∀ (i : Nat) v, i < n → l[i]? = some v → v.Ts ≤ t) (hb : ∀ (i : Nat) v, n ≤ i → l[i]? = some v → t < v.Ts) : pc l t = n := by
  have h1 := pc_le l t
  rcases Nat.lt_trichotomy (pc l t) n with hl | hl | hl
  · have hg := List.getElem?_eq_getElem (show pc l t < l.length by omega)
    have := (pc_iff h t hg).2 (ha _ _ hl hg)
    omega
  · exact hl
  · have hg := List.getElem?_eq_getElem (show n < l.length by omega)
    have := (pc_iff h t hg).1 hl
    have := hb _ _ (Nat.le_refl _) hg
    omega
theorem pc_drop {l : List GChainVer} (h : OkC l) (t : Int) (n : Nat) (hn : n ≤ l.length) : pc (l.drop n) t = pc l t - n := by
  have h1 := pc_le l t
  refine pc_eq (okC_drop h n) (by simp; omega) (fun i v hi hv => ?_) (fun i v hi hv => ?_)
  · rw [List.getElem?_drop] at hv
    exact (pc_iff h t hv).1 (by omega)
  · rw [List.getElem?_drop] at hv
    rcases Nat.lt_or_ge (n + i) (pc l t) with hlt | hge
    · omega
    · have := mt (pc_iff h t hv).2 (by omega)
      omega
theorem pc_mono {l : List GChainVer} (h : OkC l) {s t : Int} (hst : s ≤ t) : pc l s ≤ pc l t := by
  rcases Nat.lt_or_ge (pc l t) (pc l s) with hl | hl
  · have h1 := pc_le l s
    have hg := List.getElem?_eq_getElem (show pc l t < l.length by omega)
    have h2 := (pc_iff h s hg).1 hl
    have := (pc_iff h t hg).2 (by omega)
    omega
  · exact hl

theorem at0 {c : GChainChain} (h : c.L.length ≤ 1000) {t : Int} (hp : pc c.L t = 0) : m11_chain_At c t = some (⟨0, [], false⟩, false) :=
  at_none h (by rw [plc_pc, hp]; rfl)
theorem at1 {c : GChainChain} (h : c.L.length ≤ 1000) {t : Int} {v : GChainVer} (hp : 0 < pc c.L t) (hv : c.L[pc c.L t - 1]? = some v) : m11_chain_At c t = some (v, true) :=
  at_some h (by rw [plc_pc]; omega) hv

theorem later_drop {l : List GChainVer} (h : OkC l) (t : Int) : later7 l t = l.drop (pc l t) := by
  unfold later7
  conv => lhs; rw [← List.take_append_drop (pc l t) l]
  rw [List.filter_append]
  have h1 : (l.take (pc l t)).filter (fun v => decide (t < v.Ts)) = [] := by
    rw [List.filter_eq_nil_iff]
    intro v hm
    obtain ⟨i, hi, hiv⟩ := List.getElem_of_mem hm
    have hi' : i < pc l t := by rw [List.length_take] at hi; omega
    have hv : l[i]? = some v := by
      have := List.getElem?_eq_getElem hi
      rw [hiv, List.getElem?_take, if_pos hi'] at this
      exact this
    have := (pc_iff h t hv).1 hi'
    simp; omega
  have h2 : (l.drop (pc l t)).filter (fun v => decide (t < v.Ts)) = l.drop (pc l t) := by
    rw [List.filter_eq_self]
    intro v hm
    obtain ⟨i, hi, hiv⟩ := List.getElem_of_mem hm
    have hv : l[pc l t + i]? = some v := by
      have := List.getElem?_eq_getElem hi
      rw [hiv, List.getElem?_drop] at this
      exact this
    have := mt (pc_iff h t hv).2 (by omega)
    simp; omega
  rw [h1, h2, List.nil_append]

theorem gone_eq (l : List GChainVer) (t : Int) : (pc l t = 0 ∧ gone l t = 0) ∨ ∃ v, 0 < pc l t ∧ l[pc l t - 1]? = some v ∧ gone l t = if v.Del then pc l t else pc l t - 1 := by
  have hp := plc_pc l t
  have hle := pc_le l t
  rcases Nat.eq_zero_or_pos (pc l t) with h0 | h0
  · left
    refine ⟨h0, ?_⟩
    unfold gone
    split
    · rw [if_pos (by omega)]
    · rfl
  · right
    have hg := List.getElem?_eq_getElem (show pc l t - 1 < l.length by omega)
    refine ⟨_, h0, hg, ?_⟩
    unfold gone
    rw [show (plc l t l.length).toNat = pc l t - 1 by omega, hg]
    dsimp only
    rw [if_neg (by omega), show pc l t - 1 + 1 = pc l t by omega]
theorem gone_le (l : List GChainVer) (t : Int) : gone l t ≤ pc l t := by
  rcases gone_eq l t with ⟨h1, h2⟩ | ⟨v, h1, h2, h3⟩
  · omega
  · rw [h3]; split <;> omega
end Go.Proofs.Ytfecfgbiplaolaa.Abs
