/-
  Stores: stores that grew; what is got.
-/
import Derived.Test.YtbojepclnfnmcaaK08b
namespace Go.Proofs.Ytbojepclnfnmcaa.Abs


theorem awake08 : m9_l08_awake = some true := by decide +kernel

theorem OkS.mono {K : Keys} {C : List GChainChain} {T : Int} {B B' : Nat} (h : OkS K C T B) (hb : B ≤ B') : OkS K C T B' :=
  ⟨h.t0, h.t1, h.cl, h.ks, h.pw, fun c hc => ⟨(h.cs c hc).1, (h.cs c hc).2.1, (h.cs c hc).2.2.1, Nat.le_trans (h.cs c hc).2.2.2 hb⟩⟩

theorem fewW_m (l : List GApiWrite) : ∃ b, m12_r08_FewWrites l = some b ∧ (b = true → l.length ≤ 140 ∧ ∀ w ∈ l, w.Key.length ≤ 50 ∧ w.Val.length ≤ 100) := by
  unfold m12_r08_FewWrites
  by_cases h : 140 < (l.length : Int)
  · rw [if_pos (decide_eq_true h)]; exact ⟨false, rfl, fun h => (by cases h)⟩
  rw [if_neg (by rw [decide_eq_true_eq]; exact h)]
  rcases scan08 l (fun _ w => decide (50 < (w.Key.length : Int)) || decide (100 < (w.Val.length : Int))) (m12_r08_FewWrites_s2 l) (by omega) (fun i x hx => by
    have hlt := (List.getElem?_eq_some_iff.1 hx).1
    unfold m12_r08_FewWrites_s2
    rw [if_pos (decide_eq_true (by omega)), idx_nat, hx, Option.bind_some, Option.bind_some]
    by_cases h1 : 50 < (x.Key.length : Int)
    · rw [if_pos (decide_eq_true h1), decide_eq_true h1]; rfl
    rw [if_neg (by rw [decide_eq_true_eq]; exact h1), decide_eq_false h1, Bool.false_or]
    by_cases h2 : 100 < (x.Val.length : Int)
    · rw [if_pos (decide_eq_true h2), decide_eq_true h2]; rfl
    · rw [if_neg (by rw [decide_eq_true_eq]; exact h2), decide_eq_false h2, if_neg (by decide), wI_id (by omega) (by omega)]; rfl) (by
    unfold m12_r08_FewWrites_s2
    rw [if_neg (by rw [decide_eq_true_eq]; omega)]) with ⟨i, x, hx, hp, e⟩ | ⟨hp, e⟩
  · rw [e]; exact ⟨false, rfl, fun h => (by cases h)⟩
  · rw [e]
    refine ⟨true, rfl, fun _ => ⟨by omega, fun w hw => ?_⟩⟩
    obtain ⟨i, hi⟩ := List.mem_iff_getElem?.1 hw
    have := hp i w hi
    simp only [Bool.or_eq_false_iff, decide_eq_false_iff_not] at this
    omega

theorem few_m08 (l : List GL08Lot) : ∃ b, m34_l08_few l = some b ∧ (b = true → l.length ≤ 30 ∧ ∀ x ∈ l, x.L.length ≤ 20) := by
  unfold m34_l08_few
  by_cases h : 30 < (l.length : Int)
  · rw [if_pos (decide_eq_true h)]; exact ⟨false, rfl, fun h => (by cases h)⟩
  rw [if_neg (by rw [decide_eq_true_eq]; exact h)]
  rcases scan08 l (fun _ x => !(m12_r08_FewWrites x.L).getD false || decide (20 < (x.L.length : Int))) (m34_l08_few_s2 l) (by omega) (fun i x hx => by
    have hlt := (List.getElem?_eq_some_iff.1 hx).1
    unfold m34_l08_few_s2
    rw [if_pos (decide_eq_true (by omega)), idx_nat, hx, Option.bind_some]
    obtain ⟨q, hq, _⟩ := fewW_m x.L
    rw [hq, Option.bind_some]
    cases q with
    | false => rfl
    | true =>
      rw [if_neg (by decide), Option.bind_some]
      by_cases h2 : 20 < (x.L.length : Int)
      · rw [if_pos (decide_eq_true h2), decide_eq_true h2]; rfl
      · rw [if_neg (by rw [decide_eq_true_eq]; exact h2), decide_eq_false h2, wI_id (by omega) (by omega)]; rfl) (by
    unfold m34_l08_few_s2
    rw [if_neg (by rw [decide_eq_true_eq]; omega)]) with ⟨i, x, hx, hp, e⟩ | ⟨hp, e⟩
  · rw [e]; exact ⟨false, rfl, fun h => (by cases h)⟩
  · rw [e]
    refine ⟨true, rfl, fun _ => ⟨by omega, fun w hw => ?_⟩⟩
    obtain ⟨i, hi⟩ := List.mem_iff_getElem?.1 hw
    have := hp i w hi
    simp only [Bool.or_eq_false_iff, decide_eq_false_iff_not] at this
    omega

theorem grown_m (l : List GL08Lot) (hl : l.length ≤ 30) (hL : ∀ x ∈ l, x.L.length ≤ 20) : ∃ K C T, m35_l08_grown l = some ⟨K, C, T⟩ ∧ OkS K C T 30 ∧ K.length ≤ 128 ∧ T ≤ 120 := by
  unfold m35_l08_grown
  obtain ⟨v, hv, hr⟩ := iterB_inv (f := m35_l08_grown_s2 l) (P := fun s => ∃ i : Nat, i ≤ l.length ∧ s.1 = (i : Int) ∧ OkS s.2.1 s.2.2.1 s.2.2.2 i ∧ s.2.1.length ≤ 128 ∧ s.2.2.2 ≤ 4 * i) (μ := fun s => l.length - s.1.toNat)
    (R := fun v => OkS v.1 v.2.1 v.2.2 30 ∧ v.1.length ≤ 128 ∧ v.2.2 ≤ 120) (by
      rintro ⟨_, K, C, T⟩ ⟨i, hi, rfl, h, hk, ht⟩
      have h : OkS K C T i := h
      have hk : K.length ≤ 128 := hk
      have ht : T ≤ 4 * i := ht
      have h0 := h.t0
      unfold m35_l08_grown_s2
      dsimp only
      rcases Nat.lt_or_ge i l.length with hlt | hge
      · left
        have hx := List.getElem?_eq_getElem hlt
        rw [if_pos (decide_eq_true (by omega)), idx_nat, hx, Option.bind_some, Option.bind_some]
        have hm : (BitVec.ofInt 64 l[i].More &&& BitVec.ofInt 64 3).toNat ≤ 3 := by
          rw [BitVec.toNat_and]; exact Nat.le_trans Nat.and_le_right (by decide)
        generalize (BitVec.ofInt 64 l[i].More &&& BitVec.ofInt 64 3).toNat = m at hm
        have e1 : wI (wI (T + 1) + wI (m : Int)) = T + 1 + m := by rw [wI_id (n := (m : Int)) (by omega) (by omega), wI_id (n := T + 1) (by omega) (by omega), wI_id (by omega) (by omega)]
        rw [e1]
        rcases install_m h (by omega) hk (T + 1 + m) l[i].L (by have := hL _ (List.getElem_mem hlt); omega) with ⟨e, he, hi2⟩ | ⟨K', C', hi2, htt, _, _, hk', _, hok⟩
        · rw [hi2, Option.bind_some]
          dsimp only
          rw [if_neg (by rw [decide_eq_true_eq]; omega)]
          exact ⟨_, rfl, ⟨i + 1, hlt, by dsimp only; rw [wI_id (by omega) (by omega)]; rfl, h.mono (Nat.le_succ _), hk, by dsimp only; omega⟩, by dsimp only; rw [wI_id (by omega) (by omega)]; omega⟩
        · rw [hi2, Option.bind_some]
          dsimp only
          rw [if_pos (decide_eq_true rfl)]
          exact ⟨_, rfl, ⟨i + 1, hlt, by dsimp only; rw [wI_id (by omega) (by omega)]; rfl, hok, hk', by dsimp only; omega⟩, by dsimp only; rw [wI_id (by omega) (by omega)]; omega⟩
      · right
        rw [if_neg (by rw [decide_eq_true_eq]; omega)]
        exact ⟨_, rfl, h.mono (by omega), hk, by dsimp only; omega⟩) fuel (0, [], [], 0) ⟨0, Nat.zero_le _, rfl, ⟨by decide, by decide, rfl, fun k h => (by cases h), List.Pairwise.nil, fun c h => (by cases h)⟩, by decide, by decide⟩ (lt_fuel (by show l.length - 0 ≤ _; omega))
  rw [hv]
  exact ⟨v.1, v.2.1, v.2.2, rfl, hr⟩

/-- What is seen of a chain. -/
def valC (l : List GChainVer) (t : Int) : List UInt8 × Bool := match pc l t with
  | 0 => ([], false)
  | n + 1 => match l[n]? with
    | some v => if v.Del then ([], false) else (v.Val, true)
    | none => ([], false)
theorem value_m {c : GChainChain} (h : c.L.length ≤ 1000) (t : Int) : m39_chain_Value c t = some (valC c.L t) := by
  have hle := pc_le c.L t
  unfold valC
  cases hp : pc c.L t with
  | zero =>
    rw [value_of (at0 h hp)]
    rfl
  | succ n =>
    have hx : c.L[n]? = some (c.L[n]'(by omega)) := List.getElem?_eq_getElem (by omega)
    rw [value_of (at1 (t := t) h (by omega) (by rw [hp]; exact hx))]
    dsimp only
    rw [hx]
    dsimp only
    cases (c.L[n]'(by omega)).Del <;> rfl

theorem valC_early {l : List GChainVer} {v : GChainVer} (h : OkC (l ++ [v])) {t : Int} (ht : t < v.Ts) : valC (l ++ [v]) t = valC l t := by
  have hl : OkC l := by
    have := okC_take h l.length
    rwa [List.take_left] at this
  have hle := pc_le l t
  have e : pc (l ++ [v]) t = pc l t := by
    refine pc_eq h (by rw [List.length_append]; omega) (fun i u hi hu => ?_) (fun i u hi hu => ?_)
    · rw [List.getElem?_append_left (by omega)] at hu
      exact (pc_iff hl t hu).1 hi
    · rcases Nat.lt_or_ge i l.length with hlt | hge
      · rw [List.getElem?_append_left hlt] at hu
        have : ¬ u.Ts ≤ t := fun hh => by have := (pc_iff hl t hu).2 hh; omega
        omega
      · rw [List.getElem?_append_right hge] at hu
        have : i - l.length = 0 := by
          have := (List.getElem?_eq_some_iff.1 hu).1
          rw [List.length_singleton] at this; omega
        rw [this] at hu
        cases hu
        exact ht
  unfold valC
  rw [e]
  cases hp : pc l t with
  | zero => rfl
  | succ n =>
    dsimp only
    rw [List.getElem?_append_left (by omega)]
theorem valC_late {l : List GChainVer} {v : GChainVer} (h : OkC (l ++ [v])) {t : Int} (ht : v.Ts ≤ t) : valC (l ++ [v]) t = if v.Del then ([], false) else (v.Val, true) := by
  have e : pc (l ++ [v]) t = l.length + 1 := by
    have hg : (l ++ [v])[l.length]? = some v := by rw [List.getElem?_append_right (Nat.le_refl _), Nat.sub_self]; rfl
    have h1 := (pc_iff h t hg).2 ht
    have h2 := pc_le (l ++ [v]) t
    rw [List.length_append, List.length_singleton] at h2
    omega
  unfold valC
  rw [e]
  dsimp only
  rw [List.getElem?_append_right (Nat.le_refl _), Nat.sub_self]
  rfl

theorem get_m {K : Keys} {C : List GChainChain} {T : Int} {B : Nat} (h : OkS K C T B) (hB : B ≤ 1000) (hK : K.length ≤ 128) (k : List UInt8) (t : Int) :
    (∃ c, At K C k c ∧ m14_store_Get ⟨K, C, T⟩ k t = some (valC c.L t)) ∨ ((¬ ∃ c, At K C k c) ∧ m14_store_Get ⟨K, C, T⟩ k t = some ([], false)) := by
  unfold m14_store_Get
  dsimp only
  rw [find_m K k (by omega), Option.bind_some]
  cases hh : hit K k with
  | false =>
    refine .inr ⟨fun ⟨c0, hc0⟩ => (by rw [(At.hit h.pw hc0).1] at hh; cases hh), ?_⟩
    rfl
  | true =>
    obtain ⟨c0, hat, hget⟩ := At.of_hit h.cl hh
    refine .inl ⟨c0, hat, ?_⟩
    rw [if_neg (fun h => Bool.noConfusion h)]
    show (m23_store_Sane ⟨K, C, T⟩).bind _ = _
    rw [ssane_m h hB hK, Option.bind_some, if_neg (by decide)]
    unfold m14_store_Get_k2
    dsimp only
    rw [idx_nat, hget, Option.bind_some, value_m (c := c0) (by have := (h.cs c0 (List.mem_of_getElem? hget)).2.2.2; omega), Option.bind_some]
end Go.Proofs.Ytbojepclnfnmcaa.Abs
