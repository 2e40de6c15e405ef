/-
  Versions: what the program and the document reckon.
-/
import Derived.Test.YtfecfgbiplaolaaS07
namespace Go.Proofs.Ytfecfgbiplaolaa.Abs

def cv (x : GR07Ver) : GChainVer := ⟨x.Ts, x.Val, x.Del⟩
def vc (x : GChainVer) : GR07Ver := ⟨x.Ts, x.Val, x.Del⟩
instance : DecidableEq GR07Ver := fun a b => decidable_of_iff (a.Ts = b.Ts ∧ a.Val = b.Val ∧ a.Del = b.Del) (by cases a; cases b; simp)
theorem vc_cv (l : List GR07Ver) : (l.map cv).map vc = l := by
  rw [List.map_map]
  exact List.map_id l
theorem vc_inj {l m : List GChainVer} (h : l.map vc = m.map vc) : l = m := by
  have : ∀ l : List GChainVer, (l.map vc).map cv = l := fun l => by rw [List.map_map]; exact List.map_id l
  rw [← this l, ← this m, h]

theorem wn {n : Nat} (h : n ≤ 1000000000000000000) : wI ((n : Int) + 1) = ((n + 1 : Nat) : Int) := by rw [wI_id (by omega) (by omega)]; rfl

/-! The same? -/
theorem one_eq (a b : GR07Ver) : m33_r07_One a b = some (decide (a = b)) := by
  unfold m33_r07_One
  obtain ⟨t, v, d⟩ := a
  obtain ⟨t', v', d'⟩ := b
  simp only [GR07Ver.mk.injEq]
  by_cases h1 : t = t'
  · rw [if_pos (decide_eq_true h1)]
    by_cases h2 : d = d'
    · rw [if_pos (by simpa using h2)]
      by_cases h3 : v = v'
      · simp [h1, h2, h3]
      · simp [h1, h2, h3]
    · rw [if_neg (by simpa using h2)]
      simp [h2]
  · rw [if_neg (by simpa using h1)]
    simp [h1]

theorem same_eq (a b : List GR07Ver) (h : a.length ≤ 1000) : m18_r07_Same a b = some (decide (a = b)) := by
  unfold m18_r07_Same
  by_cases hl : (a.length : Int) = (b.length : Int)
  · rw [if_neg (by simpa using hl)]
    have hl' : a.length = b.length := by omega
    obtain ⟨x, hx, hR⟩ := iter_inv (f := m18_r07_Same_s2 a b) (P := fun s => ∃ i : Nat, i ≤ a.length ∧ s = (i : Int) ∧ a.take i = b.take i) (μ := fun s => a.length - s.toNat)
      (R := fun x => match x with | .inl r => r = false ∧ a ≠ b | .inr _ => a = b) (by
      rintro _ ⟨i, hi, rfl, he⟩
      unfold m18_r07_Same_s2
      rcases Nat.lt_or_ge i a.length with hlt | hge
      · rw [if_pos (decide_eq_true (by omega)), idx_nat, idx_nat, List.getElem?_eq_getElem hlt, List.getElem?_eq_getElem (show i < b.length by omega)]
        simp only [Option.bind_some]
        rw [one_eq, Option.bind_some]
        by_cases ho : a[i] = b[i]'(by omega)
        · left
          rw [if_neg (by simpa using ho), wn (by omega)]
          refine ⟨_, rfl, ⟨i + 1, hlt, rfl, ?_⟩, by simp only [Int.toNat_natCast]; omega⟩
          rw [List.take_succ_eq_append_getElem hlt, List.take_succ_eq_append_getElem (show i < b.length by omega), he, ho]
        · right; right
          rw [if_pos (by simpa using ho)]
          exact ⟨_, rfl, rfl, fun e => ho (by subst e; rfl)⟩
      · right; left
        rw [if_neg (by simp; omega)]
        refine ⟨_, rfl, ?_⟩
        rw [List.take_of_length_le (by omega), List.take_of_length_le (by omega)] at he
        exact he) fuel 0 ⟨0, Nat.zero_le _, rfl, rfl⟩ (lt_fuel (by show a.length - 0 ≤ _; omega))
    rw [hx]
    cases x with
    | inl r =>
      obtain ⟨h1, h2⟩ := hR
      subst h1
      simp [h2]
    | inr u =>
      have hR' : a = b := hR
      simp [hR', m18_r07_Same_k1]
  · rw [if_pos (by simpa using hl)]
    have : a ≠ b := fun e => hl (by rw [e])
    simp [this]

/-! There, and back -/
theorem theirs_eq (l : List GChainVer) (h : l.length ≤ 1000) : m19_l07_theirs l = some (l.map vc) := by
  obtain ⟨x, hx, hR⟩ := iterB_inv (f := m19_l07_theirs_s2 l) (P := fun s => ∃ i : Nat, i ≤ l.length ∧ s = ((i : Int), (l.take i).map vc)) (μ := fun s => l.length - s.1.toNat) (R := fun x => x = l.map vc) (by
    rintro _ ⟨i, hi, rfl⟩
    unfold m19_l07_theirs_s2
    rcases Nat.lt_or_ge i l.length with hlt | hge
    · left
      dsimp only
      rw [if_pos (decide_eq_true (by omega)), idx_nat, List.getElem?_eq_getElem hlt]
      simp only [Option.bind_some]
      rw [if_pos (by simp; omega), wn (by omega)]
      refine ⟨_, rfl, ⟨i + 1, hlt, ?_⟩, by simp only [Int.toNat_natCast]; omega⟩
      rw [List.take_succ_eq_append_getElem hlt, List.map_append]
      rfl
    · right
      rw [if_neg (by simp; omega)]
      refine ⟨_, rfl, ?_⟩
      dsimp only
      rw [List.take_of_length_le hge]) fuel (0, []) ⟨0, Nat.zero_le _, rfl⟩ (lt_fuel (by show l.length - 0 ≤ _; omega))
  unfold m19_l07_theirs
  rw [hx, hR]
  rfl
theorem ours_eq (c : GR07Chain) (h : c.L.length ≤ 1000) : m10_l07_ours c = some ⟨c.L.map cv⟩ := by
  obtain ⟨x, hx, hR⟩ := iterB_inv (f := m10_l07_ours_s2 c) (P := fun s => ∃ i : Nat, i ≤ c.L.length ∧ s = ((i : Int), (c.L.take i).map cv)) (μ := fun s => c.L.length - s.1.toNat) (R := fun x => x = c.L.map cv) (by
    rintro _ ⟨i, hi, rfl⟩
    unfold m10_l07_ours_s2 m16_l07_ver
    rcases Nat.lt_or_ge i c.L.length with hlt | hge
    · left
      dsimp only
      rw [if_pos (decide_eq_true (by omega)), idx_nat, List.getElem?_eq_getElem hlt]
      simp only [Option.bind_some]
      rw [if_pos (by simp; omega), wn (by omega)]
      refine ⟨_, rfl, ⟨i + 1, hlt, ?_⟩, by simp only [Int.toNat_natCast]; omega⟩
      rw [List.take_succ_eq_append_getElem hlt, List.map_append]
      rfl
    · right
      rw [if_neg (by simp; omega)]
      refine ⟨_, rfl, ?_⟩
      dsimp only
      rw [List.take_of_length_le hge]) fuel (0, []) ⟨0, Nat.zero_le _, rfl⟩ (lt_fuel (by show c.L.length - 0 ≤ _; omega))
  unfold m10_l07_ours
  rw [hx, hR]
  rfl

theorem few_cases (c : GR07Chain) : m9_r07_Few c = some false ∨ (m9_r07_Few c = some true ∧ c.L.length ≤ 60 ∧ ∀ v ∈ c.L, v.Val.length ≤ 100) := by
  unfold m9_r07_Few
  by_cases h : (60 : Int) < c.L.length
  · left; rw [if_pos (decide_eq_true h)]
  rw [if_neg (by simpa using h)]
  obtain ⟨x, hx, hR⟩ := iter_inv (f := m9_r07_Few_s2 c) (P := fun s => ∃ i : Nat, i ≤ c.L.length ∧ s = (i : Int) ∧ ∀ v ∈ c.L.take i, v.Val.length ≤ 100) (μ := fun s => c.L.length - s.toNat)
    (R := fun x => match x with | .inl r => r = false | .inr _ => ∀ v ∈ c.L, v.Val.length ≤ 100) (by
    rintro _ ⟨i, hi, rfl, ha⟩
    unfold m9_r07_Few_s2
    rcases Nat.lt_or_ge i c.L.length with hlt | hge
    · rw [if_pos (decide_eq_true (by omega)), idx_nat, List.getElem?_eq_getElem hlt]
      simp only [Option.bind_some]
      by_cases hv : (100 : Int) < (c.L[i].Val.length : Int)
      · right; right
        rw [if_pos (decide_eq_true hv)]
        exact ⟨_, rfl, rfl⟩
      · left
        rw [if_neg (by simpa using hv), wn (by omega)]
        refine ⟨_, rfl, ⟨i + 1, hlt, rfl, fun v hm => ?_⟩, by simp only [Int.toNat_natCast]; omega⟩
        rw [List.take_succ_eq_append_getElem hlt, List.mem_append] at hm
        rcases hm with hm | hm
        · exact ha v hm
        · rw [List.mem_singleton] at hm
          subst hm
          omega
    · right; left
      rw [if_neg (by simp; omega)]
      refine ⟨_, rfl, ?_⟩
      rw [List.take_of_length_le hge] at ha
      exact ha) fuel 0 ⟨0, Nat.zero_le _, rfl, by simp⟩ (lt_fuel (by show c.L.length - 0 ≤ _; omega))
  rw [hx]
  cases x with
  | inl r =>
    have hR' : r = false := hR
    subst hR'
    exact .inl rfl
  | inr u => exact .inr ⟨rfl, by omega, hR⟩

/-! Whether versions may be -/
def vOk (v : GChainVer) : Bool := decide (1 ≤ v.Ts) && decide (v.Ts ≤ 1099511627776) && decide ((v.Val.length : Int) ≤ 32) && !(v.Del && decide (0 < (v.Val.length : Int)))
theorem sv_eq (v : GChainVer) : m31_chain_saneVer v = some (vOk v) := by
  unfold m31_chain_saneVer vOk
  cases h1 : decide (1 ≤ v.Ts) <;> cases h2 : decide (v.Ts ≤ 1099511627776) <;> cases h3 : decide ((v.Val.length : Int) ≤ 32) <;> cases h4 : v.Del <;> simp

/-- Versions that may be. -/
structure OkC (l : List GChainVer) : Prop where
  each : ∀ (i : Nat) (v : GChainVer), l[i]? = some v → vOk v = true
  asc : ∀ (i : Nat) (v w : GChainVer), l[i]? = some v → l[i + 1]? = some w → v.Ts < w.Ts

/-- The first n may be, and lie below b. -/
def OkN (l : List GChainVer) (n : Nat) (b : Int) : Prop :=
  (∀ (i : Nat) (v : GChainVer), i < n → l[i]? = some v → vOk v = true) ∧ (∀ (i : Nat) (v w : GChainVer), i + 1 < n → l[i]? = some v → l[i + 1]? = some w → v.Ts < w.Ts) ∧ ∀ (k : Nat) (v : GChainVer), n = k + 1 → l[k]? = some v → v.Ts < b

theorem it39_eq {c : GChainChain} (h : c.L.length ≤ 1000) : it39 c = some (it39d c.L c.L.length) := if_pos (by omega)

theorem sane_go (l : List GChainVer) : ∀ (n : Nat) (b : Int), n ≤ l.length → ∃ e r, rangeL m20_chain_Sane_r1 (it39d l n) b = some e ∧ rangeK m20_chain_Sane_k3 m20_chain_Sane_k4 (fun _ _ => none) e = some r ∧ (r = true ↔ OkN l n b)
  | 0, b, _ => ⟨_, _, rfl, rfl, by simp [OkN]⟩
  | n + 1, b, h => by
    rw [it39d_succ (by omega)]
    have hg := List.getElem?_eq_getElem (show n < l.length by omega)
    generalize l[n]'(by omega) = v at hg
    unfold rangeL
    unfold m20_chain_Sane_r1
    dsimp only
    rw [sv_eq, Option.bind_some]
    cases hs : vOk v with
    | false =>
      refine ⟨_, false, rfl, rfl, ?_⟩
      simp only [Bool.false_eq_true, false_iff]
      intro hk
      rw [hk.1 n v (Nat.lt_succ_self n) hg] at hs
      cases hs
    | true =>
      by_cases hb : b ≤ v.Ts
      · rw [if_neg (by simp), if_pos (decide_eq_true hb)]
        refine ⟨_, false, rfl, rfl, ?_⟩
        simp only [Bool.false_eq_true, false_iff]
        intro hk
        have := hk.2.2 n v rfl hg
        omega
      · rw [if_neg (by simp), if_neg (by simpa using hb)]
        obtain ⟨e, r, h1, h2, h3⟩ := sane_go l n v.Ts (by omega)
        refine ⟨e, r, h1, h2, h3.trans ⟨fun hk => ⟨fun i u hi hu => ?_, fun i u w hi hu hw => ?_, fun k u hk2 hu => ?_⟩, fun hk => ⟨fun i u hi hu => hk.1 i u (by omega) hu, fun i u w hi hu hw => hk.2.1 i u w (by omega) hu hw, fun k u hk2 hu => ?_⟩⟩⟩
        · by_cases e : i = n
          · subst e; rw [hg] at hu; cases hu; exact hs
          · exact hk.1 i u (by omega) hu
        · by_cases e : i + 1 = n
          · subst e; rw [hg] at hw; cases hw; exact hk.2.2 i u rfl hu
          · exact hk.2.1 i u w (by omega) hu hw
        · have : k = n := by omega
          subst this
          rw [hg] at hu; cases hu; omega
        · subst hk2
          exact hk.2.1 k u v (by omega) hu hg

theorem okN_iff (l : List GChainVer) : OkN l l.length 1099511627777 ↔ OkC l := by
  constructor
  · intro h
    exact ⟨fun i v hv => h.1 i v (List.getElem?_eq_some_iff.1 hv).1 hv, fun i v w hv hw => h.2.1 i v w (List.getElem?_eq_some_iff.1 hw).1 hv hw⟩
  · intro h
    refine ⟨fun i v _ hv => h.each i v hv, fun i v w _ hv hw => h.asc i v w hv hw, fun k v _ hv => ?_⟩
    have := h.each k v hv
    unfold vOk at this
    simp only [Bool.and_eq_true, decide_eq_true_eq] at this
    omega
theorem sane_cases {c : GChainChain} (h : c.L.length ≤ 1000) : (m20_chain_Sane c = some true ∧ OkC c.L) ∨ (m20_chain_Sane c = some false ∧ ¬ OkC c.L) := by
  obtain ⟨e, r, h1, h2, h3⟩ := sane_go c.L c.L.length 1099511627777 (Nat.le_refl _)
  have : m20_chain_Sane c = some r := by
    unfold m20_chain_Sane
    rw [it39_eq h, Option.bind_some, h1, Option.bind_some, h2]
  rw [okN_iff] at h3
  cases r with
  | true => exact .inl ⟨this, h3.1 rfl⟩
  | false => exact .inr ⟨this, fun hk => by have := h3.2 hk; cases this⟩

theorem rsane_cases {c : GR07Chain} (h : c.L.length ≤ 1000) : (m21_r07_Sane c = some true ∧ OkC (c.L.map cv)) ∨ (m21_r07_Sane c = some false ∧ ¬ OkC (c.L.map cv)) := by
  obtain ⟨x, hx, hR⟩ := iter_inv (f := m21_r07_Sane_s2 c) (P := fun s => ∃ i : Nat, i ≤ c.L.length ∧ s = (i : Int) ∧ (∀ j v, j < i → c.L[j]? = some v → vOk (cv v) = true) ∧ (∀ j v w, j + 1 < i → c.L[j]? = some v → c.L[j + 1]? = some w → v.Ts < w.Ts)) (μ := fun s => c.L.length - s.toNat)
    (R := fun x => match x with | .inl r => r = false ∧ ¬ OkC (c.L.map cv) | .inr _ => OkC (c.L.map cv)) (by
    rintro _ ⟨i, hi, rfl, h1, h2⟩
    unfold m21_r07_Sane_s2
    rcases Nat.lt_or_ge i c.L.length with hlt | hge
    · rw [if_pos (decide_eq_true (by omega)), idx_nat]
      have hg := List.getElem?_eq_getElem hlt
      generalize c.L[i] = v at hg
      rw [hg, Option.bind_some]
      have hgm : (c.L.map cv)[i]? = some (cv v) := by rw [List.getElem?_map, hg]; rfl
      have hsv : vOk (cv v) = (decide (1 ≤ v.Ts) && decide (v.Ts ≤ 1099511627776) && decide ((v.Val.length : Int) ≤ 32) && !(v.Del && decide (0 < (v.Val.length : Int)))) := rfl
      have bad : vOk (cv v) = false → ¬ OkC (c.L.map cv) := fun hs hk => by rw [hk.each i _ hgm] at hs; cases hs
      have good : vOk (cv v) = true → (∀ w, 0 < i → c.L[i - 1]? = some w → w.Ts < v.Ts) → ∃ i' : Nat, i' ≤ c.L.length ∧ wI ((i : Int) + 1) = (i' : Int) ∧ (∀ j v, j < i' → c.L[j]? = some v → vOk (cv v) = true) ∧ (∀ j v w, j + 1 < i' → c.L[j]? = some v → c.L[j + 1]? = some w → v.Ts < w.Ts) := fun hs hp => by
        refine ⟨i + 1, hlt, wn (by omega), fun j u hj hu => ?_, fun j u w hj hu hw => ?_⟩
        · by_cases e : j = i
          · subst e; rw [hg] at hu; cases hu; exact hs
          · exact h1 j u (by omega) hu
        · by_cases e : j + 1 = i
          · subst e; rw [hg] at hw; cases hw; exact hp u (by omega) hu
          · exact h2 j u w (by omega) hu hw
      have hmu : c.L.length - (wI ((i : Int) + 1)).toNat < c.L.length - ((i : Int)).toNat := by rw [wn (by omega)]; omega
      by_cases c1 : v.Ts < 1
      · right; right
        rw [if_pos (decide_eq_true c1)]
        refine ⟨_, rfl, rfl, bad ?_⟩
        rw [hsv, decide_eq_false (by omega)]; rfl
      rw [if_neg (by simpa using c1)]
      by_cases c2 : 1099511627776 < v.Ts
      · right; right
        rw [if_pos (decide_eq_true c2)]
        refine ⟨_, rfl, rfl, bad ?_⟩
        rw [hsv, decide_eq_false (show ¬ v.Ts ≤ 1099511627776 by omega), Bool.and_false]; rfl
      rw [if_neg (by simpa using c2)]
      have rest : (∀ w, 0 < i → c.L[i - 1]? = some w → w.Ts < v.Ts) → ∀ y, y = (if (decide (32 < (v.Val.length : Int))) then (some (LR.ret false)) else (if v.Del then (if (decide (0 < (v.Val.length : Int))) then (some (.ret false)) else (some (.cont (wI ((i : Int) + 1))))) else (some (.cont (wI ((i : Int) + 1)))))) →
          (∃ s', y = some (LR.cont s') ∧ (∃ i' : Nat, i' ≤ c.L.length ∧ s' = (i' : Int) ∧ (∀ j v, j < i' → c.L[j]? = some v → vOk (cv v) = true) ∧ (∀ j v w, j + 1 < i' → c.L[j]? = some v → c.L[j + 1]? = some w → v.Ts < w.Ts)) ∧ c.L.length - s'.toNat < c.L.length - ((i : Int)).toNat) ∨ (∃ b : Unit, y = some (.brk b) ∧ OkC (c.L.map cv)) ∨ ∃ r, y = some (.ret r) ∧ r = false ∧ ¬ OkC (c.L.map cv) := by
        rintro hp _ rfl
        by_cases c3 : 32 < (v.Val.length : Int)
        · right; right
          rw [if_pos (decide_eq_true c3)]
          refine ⟨_, rfl, rfl, bad ?_⟩
          rw [hsv, decide_eq_false (show ¬ (v.Val.length : Int) ≤ 32 by omega), Bool.and_false]; rfl
        rw [if_neg (by simpa using c3)]
        have hbase : vOk (cv v) = !(v.Del && decide (0 < (v.Val.length : Int))) := by
          rw [hsv, decide_eq_true (by omega), decide_eq_true (by omega), decide_eq_true (by omega)]; rfl
        cases hd : v.Del with
        | false =>
          left
          rw [if_neg (by simp)]
          exact ⟨_, rfl, good (by rw [hbase, hd]; rfl) hp, hmu⟩
        | true =>
          rw [if_pos rfl]
          by_cases c4 : 0 < (v.Val.length : Int)
          · right; right
            rw [if_pos (decide_eq_true c4)]
            refine ⟨_, rfl, rfl, bad ?_⟩
            rw [hbase, hd, decide_eq_true c4]; rfl
          · left
            rw [if_neg (by simpa using c4)]
            exact ⟨_, rfl, good (by rw [hbase, hd, decide_eq_false c4]; rfl) hp, hmu⟩
      by_cases c0 : 0 < (i : Int)
      · rw [if_pos (decide_eq_true c0), wI_id (by omega) (by omega)]
        have hgp := List.getElem?_eq_getElem (show i - 1 < c.L.length by omega)
        generalize c.L[i - 1]'(by omega) = u at hgp
        rw [show (i : Int) - 1 = ((i - 1 : Nat) : Int) by omega, idx_nat, hgp, Option.bind_some]
        by_cases c5 : v.Ts ≤ u.Ts
        · right; right
          rw [if_pos (decide_eq_true c5)]
          refine ⟨_, rfl, rfl, fun hk => ?_⟩
          have := hk.asc (i - 1) (cv u) (cv v) (by rw [List.getElem?_map, hgp]; rfl) (by rw [show i - 1 + 1 = i by omega]; exact hgm)
          have h9 : u.Ts < v.Ts := this
          omega
        · rw [if_neg (by simpa using c5)]
          exact rest (fun w _ hw => by rw [hgp] at hw; cases hw; omega) _ rfl
      · rw [if_neg (by simpa using c0)]
        exact rest (fun w hw => by omega) _ rfl
    · right; left
      rw [if_neg (by simp; omega)]
      refine ⟨_, rfl, ⟨fun j v hv => ?_, fun j v w hv hw => ?_⟩⟩
      · rw [List.getElem?_map] at hv
        cases hu : c.L[j]? with
        | none => rw [hu] at hv; cases hv
        | some u =>
          rw [hu] at hv; cases hv
          exact h1 j u (by have := (List.getElem?_eq_some_iff.1 hu).1; omega) hu
      · rw [List.getElem?_map] at hv hw
        cases hu : c.L[j]? with
        | none => rw [hu] at hv; cases hv
        | some u =>
          rw [hu] at hv; cases hv
          cases hu2 : c.L[j + 1]? with
          | none => rw [hu2] at hw; cases hw
          | some u2 =>
            rw [hu2] at hw; cases hw
            exact h2 j u u2 (by have := (List.getElem?_eq_some_iff.1 hu2).1; omega) hu hu2) fuel 0 ⟨0, Nat.zero_le _, rfl, fun j v h => by omega, fun j v w h => by omega⟩ (lt_fuel (by show c.L.length - 0 ≤ _; omega))
  unfold m21_r07_Sane
  rw [hx]
  cases x with
  | inl r =>
    obtain ⟨h1, h2⟩ := hR
    subst h1
    exact .inr ⟨rfl, h2⟩
  | inr u => exact .inl ⟨rfl, hR⟩
end Go.Proofs.Ytfecfgbiplaolaa.Abs
