/-
  The statements on versions: what is gone, what is seen, what came later.
-/
import Derived.Test.YtfecfgbiplaolaaN07
namespace Go.Proofs.Ytfecfgbiplaolaa.Abs

theorem same_self (l : List GR07Ver) (h : l.length ≤ 1000) : m18_r07_Same l l = some true := by rw [same_eq l l h]; simp

/-- Who looks from a time on sees what was seen. -/
theorem value_drop {c : GChainChain} (h : c.L.length ≤ 60) (hk : OkC c.L) {o t : Int} (hot : o ≤ t) : ∃ r, m13_chain_Value c t = some r ∧ m13_chain_Value ⟨c.L.drop (gone c.L o)⟩ t = some r := by
  have hm := pc_mono hk hot
  have hle := pc_le c.L t
  have hgl := gone_le c.L o
  have hlc : c.L.length ≤ 1000 := by omega
  have hld : (c.L.drop (gone c.L o)).length ≤ 1000 := by simp; omega
  have hpd : pc (c.L.drop (gone c.L o)) t = pc c.L t - gone c.L o := pc_drop hk t _ (by omega)
  have self : ∃ v b, m11_chain_At c t = some (v, b) := by
    rcases Nat.eq_zero_or_pos (pc c.L t) with h0 | h0
    · exact ⟨_, _, at0 hlc h0⟩
    · exact ⟨_, _, at1 hlc h0 (List.getElem?_eq_getElem (by omega))⟩
  rcases gone_eq c.L o with ⟨_, h2⟩ | ⟨v, h1, h2, h3⟩
  · obtain ⟨v, b, hv⟩ := self
    rw [h2]
    exact ⟨_, value_of hv, value_of hv⟩
  · have hg := List.getElem?_eq_getElem (show pc c.L t - 1 < c.L.length by omega)
    have at_c := at1 (c := c) hlc (t := t) (by omega) hg
    by_cases hz : pc c.L t = gone c.L o
    · have hd : v.Del = true := by
        cases hd : v.Del with
        | true => rfl
        | false => rw [hd] at h3; simp at h3; omega
      have e1 : pc c.L t = pc c.L o := by omega
      have hgv : c.L[pc c.L t - 1]'(by omega) = v := by
        have : c.L[pc c.L t - 1]? = some v := by rw [e1]; exact h2
        rw [hg] at this; exact Option.some.inj this
      have at_d := at0 (c := ⟨c.L.drop (gone c.L o)⟩) hld (t := t) (by show pc (c.L.drop (gone c.L o)) t = 0; omega)
      refine ⟨_, value_of at_c, ?_⟩
      rw [value_of at_d, hgv, hd]
      rfl
    · have hlt : gone c.L o < pc c.L t := by omega
      have at_d := at1 (c := ⟨c.L.drop (gone c.L o)⟩) hld (t := t) (v := c.L[pc c.L t - 1]'(by omega)) (by show 0 < pc (c.L.drop (gone c.L o)) t; omega) (by
        show (c.L.drop (gone c.L o))[pc (c.L.drop (gone c.L o)) t - 1]? = _
        rw [hpd, List.getElem?_drop, ← hg]
        congr 1
        omega)
      exact ⟨_, value_of at_c, value_of at_d⟩

theorem chainVacuum_true (a0 : List GR07Ver) (a1 a2 : Int) : m4_l07_ChainVacuum a0 a1 a2 = some true := by
  unfold m4_l07_ChainVacuum
  rw [awake07, Option.bind_some]
  rcases few_cases ⟨a0⟩ with hf | ⟨hf, hlen, _⟩
  · rw [hf]; rfl
  have hlen' : a0.length ≤ 60 := hlen
  obtain ⟨c, hc, hk, hl⟩ := grown_eq a0 hlen'
  rw [hf, Option.bind_some, if_neg (by simp), hc, Option.bind_some, vac_eq (by omega) hk, Option.bind_some]
  have hot : a1 ≤ (if a1 > a2 then a1 else a2) := by split <;> omega
  obtain ⟨r, hr1, hr2⟩ := value_drop hl hk hot
  rw [hr1, Option.bind_some, hr2, Option.bind_some]
  have hP := pc_le c.L a1
  have hgl := gone_le c.L a1
  have hkd := okC_drop hk (gone c.L a1)
  have hpd : pc (c.L.drop (gone c.L a1)) a1 = pc c.L a1 - gone c.L a1 := pc_drop hk a1 _ (by omega)
  have hone : pc (c.L.drop (gone c.L a1)) a1 ≤ 1 := by
    rcases gone_eq c.L a1 with ⟨h1, h2⟩ | ⟨v, h1, h2, h3⟩
    · omega
    · rw [hpd, h3]; split <;> omega
  have hld : (c.L.drop (gone c.L a1)).length ≤ 60 := by simp; omega
  -- how many are left at or ahead of that time
  obtain ⟨x, hx, hR⟩ := iterB_inv (f := m4_l07_ChainVacuum_s17 a1 ⟨c.L.drop (gone c.L a1)⟩) (P := fun s => ∃ i : Nat, i ≤ (c.L.drop (gone c.L a1)).length ∧ s = (((min i (pc (c.L.drop (gone c.L a1)) a1) : Nat) : Int), (i : Int))) (μ := fun s => (c.L.drop (gone c.L a1)).length - s.2.toNat) (R := fun x => x ≤ 1) (by
    rintro _ ⟨i, hi, rfl⟩
    unfold m4_l07_ChainVacuum_s17
    dsimp only
    rcases Nat.lt_or_ge i (c.L.drop (gone c.L a1)).length with hlt | hge
    · left
      rw [if_pos (decide_eq_true (by omega)), idx_nat, wn (n := i) (by omega)]
      have hg := List.getElem?_eq_getElem hlt
      generalize (c.L.drop (gone c.L a1))[i] = v at hg
      rw [hg, Option.bind_some]
      have hiff := pc_iff hkd a1 hg
      by_cases ht : v.Ts ≤ a1
      · rw [if_pos (decide_eq_true ht), wn (by omega)]
        have := hiff.2 ht
        exact ⟨_, rfl, ⟨i + 1, hlt, by rw [show min i (pc (c.L.drop (gone c.L a1)) a1) + 1 = min (i + 1) (pc (c.L.drop (gone c.L a1)) a1) by omega]⟩, by simp only [Int.toNat_natCast]; omega⟩
      · rw [if_neg (by simpa using ht)]
        have := mt hiff.1 ht
        exact ⟨_, rfl, ⟨i + 1, hlt, by rw [show min i (pc (c.L.drop (gone c.L a1)) a1) = min (i + 1) (pc (c.L.drop (gone c.L a1)) a1) by omega]⟩, by simp only [Int.toNat_natCast]; omega⟩
    · right
      rw [if_neg (by simp only [decide_eq_true_eq]; omega)]
      refine ⟨_, rfl, ?_⟩
      omega) fuel (0, 0) ⟨0, Nat.zero_le _, by rw [Nat.zero_min]; rfl⟩ (lt_fuel (by show (c.L.drop (gone c.L a1)).length - 0 ≤ _; omega))
  rw [hx, Option.bind_some]
  -- the rest
  have k8 : m4_l07_ChainVacuum_k8 a1 true c ⟨c.L.drop (gone c.L a1)⟩ r r x true = some true := by
    unfold m4_l07_ChainVacuum_k8
    rw [if_pos rfl]
    rcases sane_cases (c := ⟨c.L.drop (gone c.L a1)⟩) (by show (c.L.drop (gone c.L a1)).length ≤ 1000; omega) with ⟨h1, _⟩ | ⟨_, h2⟩
    · have hl1 : (c.L.drop (pc c.L a1)).length ≤ 60 := by simp; omega
      have hs : later7 (c.L.drop (gone c.L a1)) a1 = c.L.drop (pc c.L a1) := by
        rw [later_drop hkd, List.drop_drop, hpd, show gone c.L a1 + (pc c.L a1 - gone c.L a1) = pc c.L a1 by omega]
      rw [h1, Option.bind_some, if_pos rfl]
      simp only [beq_self_eq_true, if_true]
      rw [if_pos (decide_eq_true hR), since_eq hl (okC_val hk), Option.bind_some, later_drop hk, theirs_eq _ (by omega), Option.bind_some, since_eq (c := ⟨c.L.drop (gone c.L a1)⟩) hld (okC_val hkd), Option.bind_some, hs, theirs_eq _ (by omega), Option.bind_some, same_self _ (by simp only [List.length_map]; omega), Option.bind_some, if_pos rfl]
      refine congrArg some (decide_eq_true ?_)
      simp only [List.length_drop]
      omega
    · exact absurd hkd h2
  unfold m4_l07_ChainVacuum_k7
  by_cases h0 : ((c.L.drop (gone c.L a1)).length : Int) = 0
  · rw [if_pos (decide_eq_true h0)]
    exact k8
  rw [if_neg (by simpa using h0)]
  have hg := List.getElem?_eq_getElem (show 0 < (c.L.drop (gone c.L a1)).length by omega)
  have hi0 : idx (c.L.drop (gone c.L a1)) 0 = (c.L.drop (gone c.L a1))[0]? := idx_nat _ 0
  dsimp only
  rw [hi0, hg]
  simp only [Option.bind_some]
  generalize hu : (c.L.drop (gone c.L a1))[0]'(by omega) = u at hg
  by_cases ht : a1 < u.Ts
  · rw [if_pos (decide_eq_true ht)]
    exact k8
  · rw [if_neg (by simpa using ht)]
    have hpos := (pc_iff hkd a1 hg).2 (by omega)
    rcases gone_eq c.L a1 with ⟨h1, h2⟩ | ⟨v, h1, h2, h3⟩
    · omega
    · have hd : v.Del = false := by
        cases hd : v.Del with
        | false => rfl
        | true => rw [hd] at h3; simp at h3; omega
      rw [hd] at h3
      simp at h3
      have huv : u = v := by
        rw [List.getElem?_drop, h3, Nat.add_zero, h2] at hg
        exact (Option.some.inj hg).symm
      rw [huv, hd]
      exact k8

theorem ts_pos {l : List GChainVer} (h : OkC l) {i : Nat} {v : GChainVer} (hv : l[i]? = some v) : 1 ≤ v.Ts := by
  have := h.each i v hv
  unfold vOk at this
  simp only [Bool.and_eq_true, decide_eq_true_eq] at this
  omega

theorem sees_k6 {c : GChainChain} (hl : c.L.length ≤ 60) (hk : OkC c.L) (a1 a2 : Int) {v : GChainVer} {b : Bool} (hv : ∀ (i : Nat) u, c.L[i]? = some u → u.Ts ≤ (if a2 < a1 then a2 else a1) → b = true ∧ u.Ts ≤ v.Ts) : m5_l07_ChainSees_k6 a1 a2 true c (v, b) () = some true := by
  unfold m5_l07_ChainSees_k6
  obtain ⟨x, hx, hR⟩ := iter_inv (f := m5_l07_ChainSees_s11 a1 a2 c (v, b)) (P := fun s => ∃ i : Nat, i ≤ c.L.length ∧ s = (i : Int)) (μ := fun s => c.L.length - s.toNat) (R := fun x => x = .inr ()) (by
    rintro _ ⟨i, hi, rfl⟩
    unfold m5_l07_ChainSees_s11
    rcases Nat.lt_or_ge i c.L.length with hlt | hge
    · left
      rw [if_pos (decide_eq_true (by omega)), idx_nat, wn (by omega)]
      have hg := List.getElem?_eq_getElem hlt
      generalize c.L[i] = u at hg
      rw [hg]
      simp only [Option.bind_some]
      by_cases ht : u.Ts ≤ (if a2 < a1 then a2 else a1)
      · obtain ⟨h1, h2⟩ := hv i u hg ht
        rw [if_pos (decide_eq_true ht), h1, if_neg (by simp), if_neg (by simp only [decide_eq_true_eq]; omega)]
        exact ⟨_, rfl, ⟨i + 1, hlt, rfl⟩, by simp only [Int.toNat_natCast]; omega⟩
      · rw [if_neg (by simpa using ht)]
        exact ⟨_, rfl, ⟨i + 1, hlt, rfl⟩, by simp only [Int.toNat_natCast]; omega⟩
    · right; left
      rw [if_neg (by simp only [decide_eq_true_eq]; omega)]
      exact ⟨_, rfl, rfl⟩) fuel 0 ⟨0, Nat.zero_le _, rfl⟩ (lt_fuel (by show c.L.length - 0 ≤ _; omega))
  rw [hx, hR]
  simp only [Option.bind_some]
  unfold m5_l07_ChainSees_k7
  have hp0 : pc c.L 0 = 0 := pc_eq hk (Nat.zero_le _) (fun i v h => by omega) (fun i v _ hv => by have := ts_pos hk hv; omega)
  rw [if_pos rfl, since_eq hl (okC_val hk), Option.bind_some, later_drop hk, hp0, List.drop_zero, if_pos (decide_eq_true rfl)]
  by_cases h0 : (c.L.length : Int) = 0
  · rw [if_pos (decide_eq_true h0)]
  · rw [if_neg (by simpa using h0), last_eq (by omega), Option.bind_some, wI_id (by omega) (by omega), show (c.L.length : Int) - 1 = ((c.L.length - 1 : Nat) : Int) by omega, idx_nat]
    unfold lastTs
    have hg := List.getElem?_eq_getElem (show c.L.length - 1 < c.L.length by omega)
    rw [hg]
    simp

theorem chainSees_true (a0 : List GR07Ver) (a1 a2 : Int) : m5_l07_ChainSees a0 a1 a2 = some true := by
  unfold m5_l07_ChainSees
  rw [awake07, Option.bind_some]
  rcases few_cases ⟨a0⟩ with hf | ⟨hf, hlen, _⟩
  · rw [hf]; rfl
  have hlen' : a0.length ≤ 60 := hlen
  obtain ⟨c, hc, hk, hl⟩ := grown_eq a0 hlen'
  rw [hf, Option.bind_some, if_neg (by simp), hc, Option.bind_some]
  have hlh : (if a2 < a1 then a2 else a1) ≤ (if a2 > a1 then a2 else a1) := by split <;> split <;> omega
  generalize hlo : (if a2 < a1 then a2 else a1) = lo at *
  generalize (if a2 > a1 then a2 else a1) = hi at *
  have hm := pc_mono hk hlh
  have h1 := pc_le c.L hi
  have hlc : c.L.length ≤ 1000 := by omega
  have k6 : ∀ {v : GChainVer} {b : Bool}, (∀ (i : Nat) u, c.L[i]? = some u → u.Ts ≤ lo → b = true ∧ u.Ts ≤ v.Ts) → m5_l07_ChainSees_k6 a1 a2 true c (v, b) () = some true := fun h => sees_k6 hl hk a1 a2 (by rw [hlo]; exact h)
  rcases Nat.eq_zero_or_pos (pc c.L lo) with hz | hz
  · rw [at0 hlc hz, Option.bind_some]
    have hk6 : m5_l07_ChainSees_k6 a1 a2 true c (⟨0, [], false⟩, false) () = some true := k6 (fun i u hu ht => by have := (pc_iff hk lo hu).2 ht; omega)
    rcases Nat.eq_zero_or_pos (pc c.L hi) with hz2 | hz2
    · rw [at0 hlc hz2, Option.bind_some]
      exact hk6
    · have hg := List.getElem?_eq_getElem (show pc c.L hi - 1 < c.L.length by omega)
      have := (pc_iff hk hi hg).1 (by omega)
      rw [at1 hlc hz2 hg, Option.bind_some, if_neg (by simp), if_pos rfl, if_neg (by simp only [decide_eq_true_eq]; omega)]
      exact hk6
  · have hz2 : 0 < pc c.L hi := by omega
    have hg := List.getElem?_eq_getElem (show pc c.L lo - 1 < c.L.length by omega)
    have hg2 := List.getElem?_eq_getElem (show pc c.L hi - 1 < c.L.length by omega)
    have t1 := (pc_iff hk lo hg).1 (by omega)
    have t2 := (pc_iff hk hi hg2).1 (by omega)
    have t3 := okC_le hk hg (pc c.L hi - pc c.L lo) _ (by rw [show pc c.L lo - 1 + (pc c.L hi - pc c.L lo) = pc c.L hi - 1 by omega]; exact hg2)
    rw [at1 hlc hz hg, Option.bind_some, at1 hlc hz2 hg2, Option.bind_some, if_pos rfl, if_neg (by simp), if_neg (by simp only [decide_eq_true_eq]; omega), if_neg (by simp only [decide_eq_true_eq]; omega), if_pos rfl, if_neg (by simp only [decide_eq_true_eq]; omega)]
    refine k6 fun i u hu ht => ⟨rfl, ?_⟩
    have := (pc_iff hk lo hu).2 ht
    exact okC_le hk hu (pc c.L lo - 1 - i) _ (by rw [show i + (pc c.L lo - 1 - i) = pc c.L lo - 1 by omega]; exact hg)

theorem chainSince_true (a0 : List GR07Ver) (a1 : Int) : m6_l07_ChainSince a0 a1 = some true := by
  unfold m6_l07_ChainSince
  rw [awake07, Option.bind_some]
  rcases few_cases ⟨a0⟩ with hf | ⟨hf, hlen, _⟩
  · rw [hf]; rfl
  have hlen' : a0.length ≤ 60 := hlen
  obtain ⟨c, hc, hk, hl⟩ := grown_eq a0 hlen'
  rw [hf, Option.bind_some, if_neg (by simp), hc, Option.bind_some, since_eq hl (okC_val hk), Option.bind_some, later_drop hk]
  have hp := pc_le c.L a1
  have hn : wI ((c.L.length : Int) - ((c.L.drop (pc c.L a1)).length : Int)) = ((pc c.L a1 : Nat) : Int) := by
    rw [List.length_drop, wI_id (by omega) (by omega)]; omega
  rw [hn, if_neg (by simp only [decide_eq_true_eq]; omega), cut_of (Int.le_refl 0) (by omega) (by omega), Option.bind_some]
  have htk : (c.L.drop (0 : Int).toNat).take (((pc c.L a1 : Nat) : Int).toNat - (0 : Int).toNat) = c.L.take (pc c.L a1) := by simp
  rw [htk]
  obtain ⟨x, hx, hR⟩ := iter_inv (f := m6_l07_ChainSince_s11 a1 (c.L.drop (pc c.L a1))) (P := fun s => ∃ i : Nat, i ≤ c.L.length - pc c.L a1 ∧ s = ((i : Int), c.L.take (pc c.L a1 + i))) (μ := fun s => c.L.length - pc c.L a1 - s.1.toNat) (R := fun x => x = .inr c.L) (by
    rintro _ ⟨i, hi, rfl⟩
    unfold m6_l07_ChainSince_s11
    dsimp only
    rw [List.length_drop]
    rcases Nat.lt_or_ge i (c.L.length - pc c.L a1) with hlt | hge
    · left
      rw [if_pos (decide_eq_true (by omega)), idx_nat, List.getElem?_drop, wn (by omega)]
      have hlt' : pc c.L a1 + i < c.L.length := by omega
      have hg := List.getElem?_eq_getElem hlt'
      have hts := List.take_succ_eq_append_getElem hlt'
      generalize c.L[pc c.L a1 + i] = u at hg hts
      rw [hg]
      simp only [Option.bind_some]
      have ht := mt (pc_iff hk a1 hg).2 (by omega)
      have hlast : lastTs (c.L.take (pc c.L a1 + i)) < u.Ts := by
        unfold lastTs
        rw [List.length_take, Nat.min_eq_left (by omega)]
        cases hj : pc c.L a1 + i with
        | zero =>
          have := ts_pos hk hg
          simp
          omega
        | succ j =>
          rw [hj] at hg
          rw [Nat.add_sub_cancel, List.getElem?_take, if_pos (by omega)]
          have hgj := List.getElem?_eq_getElem (show j < c.L.length by omega)
          rw [hgj]
          exact hk.asc j _ _ hgj hg
      rw [if_neg (by simp only [decide_eq_true_eq]; omega), push_new (c := ⟨c.L.take (pc c.L a1 + i)⟩) (by simp; omega) (okC_take hk _) (hk.each _ u hg) hlast, Option.bind_some]
      exact ⟨_, rfl, ⟨i + 1, hlt, by rw [← hts]; rfl⟩, by simp only [Int.toNat_natCast]; omega⟩
    · right; left
      rw [if_neg (by simp only [decide_eq_true_eq]; omega)]
      refine ⟨_, rfl, ?_⟩
      rw [List.take_of_length_le (by omega)]) fuel (0, c.L.take (pc c.L a1)) ⟨0, Nat.zero_le _, rfl⟩ (lt_fuel (by show c.L.length - pc c.L a1 - 0 ≤ _; omega))
  rw [hx, hR]
  simp only [Option.bind_some]
  unfold m6_l07_ChainSince_k6
  rw [hn]
  have hlc : c.L.length ≤ 1000 := by omega
  rcases Nat.eq_zero_or_pos (pc c.L a1) with hz | hz
  · rw [at0 hlc hz, Option.bind_some, if_pos rfl, theirs_eq _ hlc, Option.bind_some, Option.bind_some, same_self _ (by simpa using hlc), Option.bind_some, if_pos rfl, hz]
    rfl
  · rw [at1 hlc hz (List.getElem?_eq_getElem (show pc c.L a1 - 1 < c.L.length by omega)), Option.bind_some, if_pos rfl, theirs_eq _ hlc, Option.bind_some, Option.bind_some, same_self _ (by simpa using hlc), Option.bind_some, if_pos rfl, decide_eq_true (by omega)]
    rfl

theorem chainTwice_true (a0 : List GR07Ver) (a1 a2 : Int) : m7_l07_ChainTwice a0 a1 a2 = some true := by
  unfold m7_l07_ChainTwice
  rw [awake07, Option.bind_some]
  rcases few_cases ⟨a0⟩ with hf | ⟨hf, hlen, _⟩
  · rw [hf]; rfl
  have hlen' : a0.length ≤ 60 := hlen
  obtain ⟨c, hc, hk, hl⟩ := grown_eq a0 hlen'
  rw [hf, Option.bind_some, if_neg (by simp), hc, Option.bind_some]
  have hlh : (if a2 < a1 then a2 else a1) ≤ (if a2 > a1 then a2 else a1) := by split <;> split <;> omega
  generalize (if a2 < a1 then a2 else a1) = lo at *
  generalize (if a2 > a1 then a2 else a1) = hi at *
  have hlc : c.L.length ≤ 1000 := by omega
  have hm := pc_mono hk hlh
  have hb := pc_le c.L hi
  have g1 := gone_le c.L lo
  have g2 := gone_le c.L hi
  have hl1 : (c.L.drop (gone c.L lo)).length ≤ 1000 := by simp; omega
  have hl2 : (c.L.drop (gone c.L hi)).length ≤ 1000 := by simp; omega
  have k1 := okC_drop hk (gone c.L lo)
  have k2 := okC_drop hk (gone c.L hi)
  have p1 : pc (c.L.drop (gone c.L lo)) hi = pc c.L hi - gone c.L lo := pc_drop hk hi _ (by omega)
  have p2 : pc (c.L.drop (gone c.L hi)) lo = pc c.L lo - gone c.L hi := pc_drop hk lo _ (by omega)
  have e1 : gone c.L lo + gone (c.L.drop (gone c.L lo)) hi = gone c.L hi := by
    rcases gone_eq (c.L.drop (gone c.L lo)) hi with ⟨q1, q2⟩ | ⟨v, q1, q2, q3⟩
    · rcases gone_eq c.L lo with ⟨r1, r2⟩ | ⟨w, r1, r2, r3⟩ <;> rcases gone_eq c.L hi with ⟨s1, s2⟩ | ⟨u, s1, s2, s3⟩
      · omega
      · omega
      · omega
      · have e : pc c.L lo = pc c.L hi := by omega
        rw [e] at r2
        rw [s2] at r2
        cases r2
        rw [e] at r3
        omega
    · rcases gone_eq c.L hi with ⟨s1, s2⟩ | ⟨u, s1, s2, s3⟩
      · omega
      · rw [List.getElem?_drop, show gone c.L lo + (pc (c.L.drop (gone c.L lo)) hi - 1) = pc c.L hi - 1 by omega, s2] at q2
        cases q2
        rw [q3, s3]
        split <;> omega
  have e2 : gone (c.L.drop (gone c.L hi)) lo = 0 := by
    rcases gone_eq (c.L.drop (gone c.L hi)) lo with ⟨q1, q2⟩ | ⟨v, q1, q2, q3⟩
    · exact q2
    · rcases gone_eq c.L hi with ⟨s1, s2⟩ | ⟨u, s1, s2, s3⟩
      · omega
      · have hd : u.Del = false := by
          cases hd : u.Del with
          | false => rfl
          | true => rw [hd] at s3; simp at s3; omega
        rw [hd] at s3
        simp at s3
        rw [List.getElem?_drop, show gone c.L hi + (pc (c.L.drop (gone c.L hi)) lo - 1) = pc c.L hi - 1 by omega, s2] at q2
        cases q2
        rw [q3, hd]
        simp
        omega
  rw [vac_eq hlc hk lo, Option.bind_some, vac_eq (c := ⟨c.L.drop (gone c.L lo)⟩) hl1 k1, Option.bind_some, vac_eq hlc hk hi, Option.bind_some, vac_eq (c := ⟨c.L.drop (gone c.L hi)⟩) hl2 k2, Option.bind_some, if_pos rfl]
  dsimp only
  rw [List.drop_drop, e1, e2, List.drop_zero, theirs_eq _ hl2]
  simp only [Option.bind_some]
  rw [same_self _ (by simpa using hl2)]
  rfl
end Go.Proofs.Ytfecfgbiplaolaa.Abs
