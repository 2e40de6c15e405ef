/-
  What the library's functions compute.
-/
import Derived.Test.YtbojepclnfnmcaaPk08
namespace Go.Proofs.Ytbojepclnfnmcaa.Abs




def cv (x : GR07Ver) : GChainVer := ⟨x.Ts, x.Val, x.Del⟩
def vc (x : GChainVer) : GR07Ver := ⟨x.Ts, x.Val, x.Del⟩
instance : DecidableEq GR07Ver := fun a b => decidable_of_iff (a.Ts = b.Ts ∧ a.Val = b.Val ∧ a.Del = b.Del) (by cases a; cases b; simp)
theorem vc_cv (l : List GR07Ver) : (l.map cv).map vc = l := by
  rw [List.map_map]
  exact List.map_id l
theorem vc_inj {l m : List GChainVer} (h : l.map vc = m.map vc) : l = m := by
  have : ∀ l : List GChainVer, (l.map vc).map cv = l := fun l => by rw [List.map_map]; exact List.map_id l
  rw [← this l, ← this m, h]

theorem wn {n : Nat} (h : n ≤ 1000000000000000000) : wI ((n : Int) + 1) = ((n + 1 : Nat) : Int) := by rw [wI_id (by omega) (by omega)]; rfl

/-! The same? -/
theorem one_eq (a b : GR07Ver) : m70_r07_One a b = some (decide (a = b)) := by
  unfold m70_r07_One
  obtain ⟨t, v, d⟩ := a
  obtain ⟨t', v', d'⟩ := b
  simp only [GR07Ver.mk.injEq]
  by_cases h1 : t = t'
  · rw [if_pos (decide_eq_true h1)]
    by_cases h2 : d = d'
    · rw [if_pos (by simpa using h2)]
      by_cases h3 : v = v'
      · simp [h1, h2, h3]
      · simp [h1, h2, h3]
    · rw [if_neg (by simpa using h2)]
      simp [h2]
  · rw [if_neg (by simpa using h1)]
    simp [h1]

theorem same_eq (a b : List GR07Ver) (h : a.length ≤ 1000) : m49_r07_Same a b = some (decide (a = b)) := by
  unfold m49_r07_Same
  by_cases hl : (a.length : Int) = (b.length : Int)
  · rw [if_neg (by simpa using hl)]
    have hl' : a.length = b.length := by omega
    obtain ⟨x, hx, hR⟩ := iter_inv (f := m49_r07_Same_s2 a b) (P := fun s => ∃ i : Nat, i ≤ a.length ∧ s = (i : Int) ∧ a.take i = b.take i) (μ := fun s => a.length - s.toNat)
      (R := fun x => match x with | .inl r => r = false ∧ a ≠ b | .inr _ => a = b) (by
      rintro _ ⟨i, hi, rfl, he⟩
      unfold m49_r07_Same_s2
      rcases Nat.lt_or_ge i a.length with hlt | hge
      · rw [if_pos (decide_eq_true (by omega)), idx_nat, idx_nat, List.getElem?_eq_getElem hlt, List.getElem?_eq_getElem (show i < b.length by omega)]
        simp only [Option.bind_some]
        rw [one_eq, Option.bind_some]
        by_cases ho : a[i] = b[i]'(by omega)
        · left
          rw [if_neg (by simpa using ho), wn (by omega)]
          refine ⟨_, rfl, ⟨i + 1, hlt, rfl, ?_⟩, by simp only [Int.toNat_natCast]; omega⟩
          rw [List.take_succ_eq_append_getElem hlt, List.take_succ_eq_append_getElem (show i < b.length by omega), he, ho]
        · right; right
          rw [if_pos (by simpa using ho)]
          exact ⟨_, rfl, rfl, fun e => ho (by subst e; rfl)⟩
      · right; left
        rw [if_neg (by simp; omega)]
        refine ⟨_, rfl, ?_⟩
        rw [List.take_of_length_le (by omega), List.take_of_length_le (by omega)] at he
        exact he) fuel 0 ⟨0, Nat.zero_le _, rfl, rfl⟩ (lt_fuel (by show a.length - 0 ≤ _; omega))
    rw [hx]
    cases x with
    | inl r =>
      obtain ⟨h1, h2⟩ := hR
      subst h1
      simp [h2]
    | inr u =>
      have hR' : a = b := hR
      simp [hR', m49_r07_Same_k1]
  · rw [if_pos (by simpa using hl)]
    have : a ≠ b := fun e => hl (by rw [e])
    simp [this]

/-! There, and back -/
theorem few_cases (c : GR07Chain) : m37_r07_Few c = some false ∨ (m37_r07_Few c = some true ∧ c.L.length ≤ 60 ∧ ∀ v ∈ c.L, v.Val.length ≤ 100) := by
  unfold m37_r07_Few
  by_cases h : (60 : Int) < c.L.length
  · left; rw [if_pos (decide_eq_true h)]
  rw [if_neg (by simpa using h)]
  obtain ⟨x, hx, hR⟩ := iter_inv (f := m37_r07_Few_s2 c) (P := fun s => ∃ i : Nat, i ≤ c.L.length ∧ s = (i : Int) ∧ ∀ v ∈ c.L.take i, v.Val.length ≤ 100) (μ := fun s => c.L.length - s.toNat)
    (R := fun x => match x with | .inl r => r = false | .inr _ => ∀ v ∈ c.L, v.Val.length ≤ 100) (by
    rintro _ ⟨i, hi, rfl, ha⟩
    unfold m37_r07_Few_s2
    rcases Nat.lt_or_ge i c.L.length with hlt | hge
    · rw [if_pos (decide_eq_true (by omega)), idx_nat, List.getElem?_eq_getElem hlt]
      simp only [Option.bind_some]
      by_cases hv : (100 : Int) < (c.L[i].Val.length : Int)
      · right; right
        rw [if_pos (decide_eq_true hv)]
        exact ⟨_, rfl, rfl⟩
      · left
        rw [if_neg (by simpa using hv), wn (by omega)]
        refine ⟨_, rfl, ⟨i + 1, hlt, rfl, fun v hm => ?_⟩, by simp only [Int.toNat_natCast]; omega⟩
        rw [List.take_succ_eq_append_getElem hlt, List.mem_append] at hm
        rcases hm with hm | hm
        · exact ha v hm
        · rw [List.mem_singleton] at hm
          subst hm
          omega
    · right; left
      rw [if_neg (by simp; omega)]
      refine ⟨_, rfl, ?_⟩
      rw [List.take_of_length_le hge] at ha
      exact ha) fuel 0 ⟨0, Nat.zero_le _, rfl, by simp⟩ (lt_fuel (by show c.L.length - 0 ≤ _; omega))
  rw [hx]
  cases x with
  | inl r =>
    have hR' : r = false := hR
    subst hR'
    exact .inl rfl
  | inr u => exact .inr ⟨rfl, by omega, hR⟩

/-! Whether versions may be -/
def vOk (v : GChainVer) : Bool := decide (1 ≤ v.Ts) && decide (v.Ts ≤ 1099511627776) && decide ((v.Val.length : Int) ≤ 32) && !(v.Del && decide (0 < (v.Val.length : Int)))
theorem sv_eq (v : GChainVer) : m75_chain_saneVer v = some (vOk v) := by
  unfold m75_chain_saneVer vOk
  cases h1 : decide (1 ≤ v.Ts) <;> cases h2 : decide (v.Ts ≤ 1099511627776) <;> cases h3 : decide ((v.Val.length : Int) ≤ 32) <;> cases h4 : v.Del <;> simp

/-- Versions that may be. -/
structure OkC (l : List GChainVer) : Prop where
  each : ∀ (i : Nat) (v : GChainVer), l[i]? = some v → vOk v = true
  asc : ∀ (i : Nat) (v w : GChainVer), l[i]? = some v → l[i + 1]? = some w → v.Ts < w.Ts

/-- The first n may be, and lie below b. -/
def OkN (l : List GChainVer) (n : Nat) (b : Int) : Prop :=
  (∀ (i : Nat) (v : GChainVer), i < n → l[i]? = some v → vOk v = true) ∧ (∀ (i : Nat) (v w : GChainVer), i + 1 < n → l[i]? = some v → l[i + 1]? = some w → v.Ts < w.Ts) ∧ ∀ (k : Nat) (v : GChainVer), n = k + 1 → l[k]? = some v → v.Ts < b

theorem it85_eq {c : GChainChain} (h : c.L.length ≤ 1000) : it85 c = some (it85d c.L c.L.length) := if_pos (by omega)

theorem sane_go (l : List GChainVer) : ∀ (n : Nat) (b : Int), n ≤ l.length → ∃ e r, rangeL m52_chain_Sane_r1 (it85d l n) b = some e ∧ rangeK m52_chain_Sane_k3 m52_chain_Sane_k4 (fun _ _ => none) e = some r ∧ (r = true ↔ OkN l n b)
  | 0, b, _ => ⟨_, _, rfl, rfl, by simp [OkN]⟩
  | n + 1, b, h => by
    rw [it85d_succ (by omega)]
    have hg := List.getElem?_eq_getElem (show n < l.length by omega)
    generalize l[n]'(by omega) = v at hg
    unfold rangeL
    unfold m52_chain_Sane_r1
    dsimp only
    rw [sv_eq, Option.bind_some]
    cases hs : vOk v with
    | false =>
      refine ⟨_, false, rfl, rfl, ?_⟩
      simp only [Bool.false_eq_true, false_iff]
      intro hk
      rw [hk.1 n v (Nat.lt_succ_self n) hg] at hs
      cases hs
    | true =>
      by_cases hb : b ≤ v.Ts
      · rw [if_neg (by simp), if_pos (decide_eq_true hb)]
        refine ⟨_, false, rfl, rfl, ?_⟩
        simp only [Bool.false_eq_true, false_iff]
        intro hk
        have := hk.2.2 n v rfl hg
        omega
      · rw [if_neg (by simp), if_neg (by simpa using hb)]
        obtain ⟨e, r, h1, h2, h3⟩ := sane_go l n v.Ts (by omega)
        refine ⟨e, r, h1, h2, h3.trans ⟨fun hk => ⟨fun i u hi hu => ?_, fun i u w hi hu hw => ?_, fun k u hk2 hu => ?_⟩, fun hk => ⟨fun i u hi hu => hk.1 i u (by omega) hu, fun i u w hi hu hw => hk.2.1 i u w (by omega) hu hw, fun k u hk2 hu => ?_⟩⟩⟩
        · by_cases e : i = n
          · subst e; rw [hg] at hu; cases hu; exact hs
          · exact hk.1 i u (by omega) hu
        · by_cases e : i + 1 = n
          · subst e; rw [hg] at hw; cases hw; exact hk.2.2 i u rfl hu
          · exact hk.2.1 i u w (by omega) hu hw
        · have : k = n := by omega
          subst this
          rw [hg] at hu; cases hu; omega
        · subst hk2
          exact hk.2.1 k u v (by omega) hu hg

theorem okN_iff (l : List GChainVer) : OkN l l.length 1099511627777 ↔ OkC l := by
  constructor
  · intro h
    exact ⟨fun i v hv => h.1 i v (List.getElem?_eq_some_iff.1 hv).1 hv, fun i v w hv hw => h.2.1 i v w (List.getElem?_eq_some_iff.1 hw).1 hv hw⟩
  · intro h
    refine ⟨fun i v _ hv => h.each i v hv, fun i v w _ hv hw => h.asc i v w hv hw, fun k v _ hv => ?_⟩
    have := h.each k v hv
    unfold vOk at this
    simp only [Bool.and_eq_true, decide_eq_true_eq] at this
    omega
theorem sane_cases {c : GChainChain} (h : c.L.length ≤ 1000) : (m52_chain_Sane c = some true ∧ OkC c.L) ∨ (m52_chain_Sane c = some false ∧ ¬ OkC c.L) := by
  obtain ⟨e, r, h1, h2, h3⟩ := sane_go c.L c.L.length 1099511627777 (Nat.le_refl _)
  have : m52_chain_Sane c = some r := by
    unfold m52_chain_Sane
    rw [it85_eq h, Option.bind_some, h1, Option.bind_some, h2]
  rw [okN_iff] at h3
  cases r with
  | true => exact .inl ⟨this, h3.1 rfl⟩
  | false => exact .inr ⟨this, fun hk => by have := h3.2 hk; cases this⟩

theorem rsane_cases {c : GR07Chain} (h : c.L.length ≤ 1000) : (m56_r07_Sane c = some true ∧ OkC (c.L.map cv)) ∨ (m56_r07_Sane c = some false ∧ ¬ OkC (c.L.map cv)) := by
  obtain ⟨x, hx, hR⟩ := iter_inv (f := m56_r07_Sane_s2 c) (P := fun s => ∃ i : Nat, i ≤ c.L.length ∧ s = (i : Int) ∧ (∀ j v, j < i → c.L[j]? = some v → vOk (cv v) = true) ∧ (∀ j v w, j + 1 < i → c.L[j]? = some v → c.L[j + 1]? = some w → v.Ts < w.Ts)) (μ := fun s => c.L.length - s.toNat)
    (R := fun x => match x with | .inl r => r = false ∧ ¬ OkC (c.L.map cv) | .inr _ => OkC (c.L.map cv)) (by
    rintro _ ⟨i, hi, rfl, h1, h2⟩
    unfold m56_r07_Sane_s2
    rcases Nat.lt_or_ge i c.L.length with hlt | hge
    · rw [if_pos (decide_eq_true (by omega)), idx_nat]
      have hg := List.getElem?_eq_getElem hlt
      generalize c.L[i] = v at hg
      rw [hg, Option.bind_some]
      have hgm : (c.L.map cv)[i]? = some (cv v) := by rw [List.getElem?_map, hg]; rfl
      have hsv : vOk (cv v) = (decide (1 ≤ v.Ts) && decide (v.Ts ≤ 1099511627776) && decide ((v.Val.length : Int) ≤ 32) && !(v.Del && decide (0 < (v.Val.length : Int)))) := rfl
      have bad : vOk (cv v) = false → ¬ OkC (c.L.map cv) := fun hs hk => by rw [hk.each i _ hgm] at hs; cases hs
      have good : vOk (cv v) = true → (∀ w, 0 < i → c.L[i - 1]? = some w → w.Ts < v.Ts) → ∃ i' : Nat, i' ≤ c.L.length ∧ wI ((i : Int) + 1) = (i' : Int) ∧ (∀ j v, j < i' → c.L[j]? = some v → vOk (cv v) = true) ∧ (∀ j v w, j + 1 < i' → c.L[j]? = some v → c.L[j + 1]? = some w → v.Ts < w.Ts) := fun hs hp => by
        refine ⟨i + 1, hlt, wn (by omega), fun j u hj hu => ?_, fun j u w hj hu hw => ?_⟩
        · by_cases e : j = i
          · subst e; rw [hg] at hu; cases hu; exact hs
          · exact h1 j u (by omega) hu
        · by_cases e : j + 1 = i
          · subst e; rw [hg] at hw; cases hw; exact hp u (by omega) hu
          · exact h2 j u w (by omega) hu hw
      have hmu : c.L.length - (wI ((i : Int) + 1)).toNat < c.L.length - ((i : Int)).toNat := by rw [wn (by omega)]; omega
      by_cases c1 : v.Ts < 1
      · right; right
        rw [if_pos (decide_eq_true c1)]
        refine ⟨_, rfl, rfl, bad ?_⟩
        rw [hsv, decide_eq_false (by omega)]; rfl
      rw [if_neg (by simpa using c1)]
      by_cases c2 : 1099511627776 < v.Ts
      · right; right
        rw [if_pos (decide_eq_true c2)]
        refine ⟨_, rfl, rfl, bad ?_⟩
        rw [hsv, decide_eq_false (show ¬ v.Ts ≤ 1099511627776 by omega), Bool.and_false]; rfl
      rw [if_neg (by simpa using c2)]
      have rest : (∀ w, 0 < i → c.L[i - 1]? = some w → w.Ts < v.Ts) → ∀ y, y = (if (decide (32 < (v.Val.length : Int))) then (some (LR.ret false)) else (if v.Del then (if (decide (0 < (v.Val.length : Int))) then (some (.ret false)) else (some (.cont (wI ((i : Int) + 1))))) else (some (.cont (wI ((i : Int) + 1)))))) →
          (∃ s', y = some (LR.cont s') ∧ (∃ i' : Nat, i' ≤ c.L.length ∧ s' = (i' : Int) ∧ (∀ j v, j < i' → c.L[j]? = some v → vOk (cv v) = true) ∧ (∀ j v w, j + 1 < i' → c.L[j]? = some v → c.L[j + 1]? = some w → v.Ts < w.Ts)) ∧ c.L.length - s'.toNat < c.L.length - ((i : Int)).toNat) ∨ (∃ b : Unit, y = some (.brk b) ∧ OkC (c.L.map cv)) ∨ ∃ r, y = some (.ret r) ∧ r = false ∧ ¬ OkC (c.L.map cv) := by
        rintro hp _ rfl
        by_cases c3 : 32 < (v.Val.length : Int)
        · right; right
          rw [if_pos (decide_eq_true c3)]
          refine ⟨_, rfl, rfl, bad ?_⟩
          rw [hsv, decide_eq_false (show ¬ (v.Val.length : Int) ≤ 32 by omega), Bool.and_false]; rfl
        rw [if_neg (by simpa using c3)]
        have hbase : vOk (cv v) = !(v.Del && decide (0 < (v.Val.length : Int))) := by
          rw [hsv, decide_eq_true (by omega), decide_eq_true (by omega), decide_eq_true (by omega)]; rfl
        cases hd : v.Del with
        | false =>
          left
          rw [if_neg (by simp)]
          exact ⟨_, rfl, good (by rw [hbase, hd]; rfl) hp, hmu⟩
        | true =>
          rw [if_pos rfl]
          by_cases c4 : 0 < (v.Val.length : Int)
          · right; right
            rw [if_pos (decide_eq_true c4)]
            refine ⟨_, rfl, rfl, bad ?_⟩
            rw [hbase, hd, decide_eq_true c4]; rfl
          · left
            rw [if_neg (by simpa using c4)]
            exact ⟨_, rfl, good (by rw [hbase, hd, decide_eq_false c4]; rfl) hp, hmu⟩
      by_cases c0 : 0 < (i : Int)
      · rw [if_pos (decide_eq_true c0), wI_id (by omega) (by omega)]
        have hgp := List.getElem?_eq_getElem (show i - 1 < c.L.length by omega)
        generalize c.L[i - 1]'(by omega) = u at hgp
        rw [show (i : Int) - 1 = ((i - 1 : Nat) : Int) by omega, idx_nat, hgp, Option.bind_some]
        by_cases c5 : v.Ts ≤ u.Ts
        · right; right
          rw [if_pos (decide_eq_true c5)]
          refine ⟨_, rfl, rfl, fun hk => ?_⟩
          have := hk.asc (i - 1) (cv u) (cv v) (by rw [List.getElem?_map, hgp]; rfl) (by rw [show i - 1 + 1 = i by omega]; exact hgm)
          have h9 : u.Ts < v.Ts := this
          omega
        · rw [if_neg (by simpa using c5)]
          exact rest (fun w _ hw => by rw [hgp] at hw; cases hw; omega) _ rfl
      · rw [if_neg (by simpa using c0)]
        exact rest (fun w hw => by omega) _ rfl
    · right; left
      rw [if_neg (by simp; omega)]
      refine ⟨_, rfl, ⟨fun j v hv => ?_, fun j v w hv hw => ?_⟩⟩
      · rw [List.getElem?_map] at hv
        cases hu : c.L[j]? with
        | none => rw [hu] at hv; cases hv
        | some u =>
          rw [hu] at hv; cases hv
          exact h1 j u (by have := (List.getElem?_eq_some_iff.1 hu).1; omega) hu
      · rw [List.getElem?_map] at hv hw
        cases hu : c.L[j]? with
        | none => rw [hu] at hv; cases hv
        | some u =>
          rw [hu] at hv; cases hv
          cases hu2 : c.L[j + 1]? with
          | none => rw [hu2] at hw; cases hw
          | some u2 =>
            rw [hu2] at hw; cases hw
            exact h2 j u u2 (by have := (List.getElem?_eq_some_iff.1 hu2).1; omega) hu hu2) fuel 0 ⟨0, Nat.zero_le _, rfl, fun j v h => by omega, fun j v w h => by omega⟩ (lt_fuel (by show c.L.length - 0 ≤ _; omega))
  unfold m56_r07_Sane
  rw [hx]
  cases x with
  | inl r =>
    obtain ⟨h1, h2⟩ := hR
    subst h1
    exact .inr ⟨rfl, h2⟩
  | inr u => exact .inl ⟨rfl, hR⟩



/-! Turned round -/
def plc (l : List GChainVer) (t : Int) : Nat → Int
  | 0 => -1
  | n + 1 => match l[n]? with
    | some v => if v.Ts ≤ t then (n : Int) else plc l t n
    | none => -1

theorem seen_go (l : List GChainVer) (t : Int) : ∀ (n : Nat) (s : Int), n ≤ l.length → ∃ e, rangeL (m76_chain_seen_r1 t) (it85d l n) s = some e ∧ rangeK m76_chain_seen_k2 m76_chain_seen_k3 (fun _ _ => none) e = some (plc l t n)
  | 0, s, _ => ⟨_, rfl, rfl⟩
  | n + 1, s, h => by
    rw [it85d_succ (by omega)]
    have hg := List.getElem?_eq_getElem (show n < l.length by omega)
    generalize l[n]'(by omega) = v at hg
    unfold rangeL m76_chain_seen_r1 plc
    rw [hg]
    dsimp only
    by_cases ht : v.Ts ≤ t
    · rw [if_pos (decide_eq_true ht), if_pos ht]
      exact ⟨_, rfl, rfl⟩
    · rw [if_neg (by simpa using ht), if_neg ht]
      exact seen_go l t n s (by omega)
theorem seen_eq {c : GChainChain} (h : c.L.length ≤ 1000) (t : Int) : m76_chain_seen c t = some (plc c.L t c.L.length) := by
  obtain ⟨e, h1, h2⟩ := seen_go c.L t c.L.length 0 (Nat.le_refl _)
  unfold m76_chain_seen
  rw [it85_eq h, Option.bind_some, h1, Option.bind_some, h2]

theorem plc_spec (l : List GChainVer) (t : Int) : ∀ n, n ≤ l.length → -1 ≤ plc l t n ∧ plc l t n < n ∧ (∀ k v, plc l t n = ((k : Nat) : Int) → l[k]? = some v → v.Ts ≤ t) ∧ ∀ (j : Nat) v, plc l t n < j → j < n → l[j]? = some v → t < v.Ts
  | 0, _ => ⟨by show (-1 : Int) ≤ -1; omega, by show (-1 : Int) < ((0 : Nat) : Int); omega, fun k v h => by have h' : (-1 : Int) = k := h; omega, fun j v _ h => by omega⟩
  | n + 1, h => by
    have hg := List.getElem?_eq_getElem (show n < l.length by omega)
    generalize l[n]'(by omega) = u at hg
    obtain ⟨h1, h2, h3, h4⟩ := plc_spec l t n (by omega)
    unfold plc
    rw [hg]
    dsimp only
    by_cases ht : u.Ts ≤ t
    · rw [if_pos ht]
      refine ⟨by omega, by omega, fun k v hk hv => ?_, fun j v hj1 hj2 hv => by omega⟩
      have : k = n := by omega
      subst this
      rw [hg] at hv; cases hv; exact ht
    · rw [if_neg ht]
      refine ⟨h1, by omega, h3, fun j v hj1 hj2 hv => ?_⟩
      by_cases e : j = n
      · subst e; rw [hg] at hv; cases hv; omega
      · exact h4 j v hj1 (by omega) hv

theorem rplace_eq {c : GR07Chain} (h : c.L.length ≤ 1000) (t : Int) : m78_r07_place c t = some (plc (c.L.map cv) t c.L.length) := by
  obtain ⟨x, hx, hR⟩ := iterB_inv (f := m78_r07_place_s2 c t) (P := fun s => ∃ i : Nat, i ≤ c.L.length ∧ s = (plc (c.L.map cv) t i, (i : Int))) (μ := fun s => c.L.length - s.2.toNat) (R := fun x => x = plc (c.L.map cv) t c.L.length) (by
    rintro _ ⟨i, hi, rfl⟩
    unfold m78_r07_place_s2
    dsimp only
    rcases Nat.lt_or_ge i c.L.length with hlt | hge
    · left
      rw [if_pos (decide_eq_true (by omega)), idx_nat]
      have hg := List.getElem?_eq_getElem hlt
      generalize c.L[i] = v at hg
      rw [hg, Option.bind_some, wn (by omega)]
      have hgm : (c.L.map cv)[i]? = some (cv v) := by rw [List.getElem?_map, hg]; rfl
      have hp : plc (c.L.map cv) t (i + 1) = if v.Ts ≤ t then (i : Int) else plc (c.L.map cv) t i := by
        show (match (c.L.map cv)[i]? with
          | some v => if v.Ts ≤ t then (i : Int) else plc (c.L.map cv) t i
          | none => -1) = _
        rw [hgm]
        rfl
      by_cases ht : v.Ts ≤ t
      · rw [if_pos (decide_eq_true ht)]
        exact ⟨_, rfl, ⟨i + 1, hlt, by rw [hp, if_pos ht]⟩, by simp only [Int.toNat_natCast]; omega⟩
      · rw [if_neg (by simpa using ht)]
        exact ⟨_, rfl, ⟨i + 1, hlt, by rw [hp, if_neg ht]⟩, by simp only [Int.toNat_natCast]; omega⟩
    · right
      rw [if_neg (by simp; omega)]
      refine ⟨_, rfl, ?_⟩
      rw [show i = c.L.length by omega]) fuel (-1, 0) ⟨0, Nat.zero_le _, rfl⟩ (lt_fuel (by show c.L.length - 0 ≤ _; omega))
  unfold m78_r07_place
  rw [hx, hR]
  rfl

/-- At, Value: by what is seen. -/
theorem at_none {c : GChainChain} (h : c.L.length ≤ 1000) {t : Int} (hp : plc c.L t c.L.length = -1) : m64_chain_At c t = some (⟨0, [], false⟩, false) := by
  unfold m64_chain_At
  rw [seen_eq h, hp]
  rfl
theorem at_some {c : GChainChain} (h : c.L.length ≤ 1000) {t : Int} {k : Nat} {v : GChainVer} (hp : plc c.L t c.L.length = k) (hv : c.L[k]? = some v) : m64_chain_At c t = some (v, true) := by
  unfold m64_chain_At
  rw [seen_eq h, hp, Option.bind_some, if_neg (by simp only [decide_eq_true_eq]; omega), idx_nat, hv]
  rfl
theorem at_cases (c : GChainChain) (t : Int) : (plc c.L t c.L.length = -1) ∨ ∃ (k : Nat) (v : GChainVer), plc c.L t c.L.length = k ∧ c.L[k]? = some v := by
  obtain ⟨h1, h2, _, _⟩ := plc_spec c.L t c.L.length (Nat.le_refl _)
  by_cases h0 : plc c.L t c.L.length = -1
  · exact .inl h0
  · refine .inr ⟨(plc c.L t c.L.length).toNat, c.L[(plc c.L t c.L.length).toNat]'(by omega), by omega, List.getElem?_eq_getElem (by omega)⟩

theorem at_both {c : GR07Chain} (h : c.L.length ≤ 1000) (t : Int) : ∃ x b, m65_r07_At c t = some (x, b) ∧ m64_chain_At ⟨c.L.map cv⟩ t = some (cv x, b) := by
  have hl : (c.L.map cv).length = c.L.length := by simp
  rcases at_cases ⟨c.L.map cv⟩ t with h0 | ⟨k, v, hk, hv⟩
  · refine ⟨⟨0, [], false⟩, false, ?_, at_none (by simpa using h) h0⟩
    have h0' : plc (c.L.map cv) t c.L.length = -1 := by rw [← hl]; exact h0
    unfold m65_r07_At
    rw [rplace_eq h, h0']
    rfl
  · have hk' : plc (c.L.map cv) t c.L.length = k := by rw [← hl]; exact hk
    have hv' : (c.L.map cv)[k]? = some v := hv
    rw [List.getElem?_map] at hv'
    cases hx : c.L[k]? with
    | none => rw [hx] at hv'; cases hv'
    | some x =>
      rw [hx] at hv'; cases hv'
      refine ⟨x, true, ?_, at_some (by simpa using h) hk hv⟩
      unfold m65_r07_At
      rw [rplace_eq h, hk', Option.bind_some, if_neg (by simp only [decide_eq_true_eq]; omega), idx_nat, hx]
      rfl
theorem value_of {c : GChainChain} {t : Int} {v : GChainVer} {b : Bool} (h : m64_chain_At c t = some (v, b)) : m39_chain_Value c t = some (if b && !v.Del then (v.Val, true) else ([], false)) := by
  unfold m39_chain_Value m39_chain_Value_k2
  rw [h, Option.bind_some]
  cases b <;> cases v.Del <;> simp
theorem rvalue_of {c : GR07Chain} {t : Int} {v : GR07Ver} {b : Bool} (h : m65_r07_At c t = some (v, b)) : m40_r07_Value c t = some (if b && !v.Del then (v.Val, true) else ([], false)) := by
  unfold m40_r07_Value m40_r07_Value_k2
  rw [h, Option.bind_some]
  cases b <;> cases v.Del <;> simp

/-! The last one -/
def lastTs (l : List GChainVer) : Int := match l[l.length - 1]? with
  | some v => v.Ts
  | none => 0
theorem last_eq {c : GChainChain} (h : c.L.length ≤ 1000) : m53_chain_Last c = some (lastTs c.L) := by
  unfold m53_chain_Last lastTs
  rw [it85_eq h, Option.bind_some]
  cases hn : c.L.length with
  | zero =>
    have : c.L = [] := List.eq_nil_of_length_eq_zero hn
    rw [this]
    rfl
  | succ n =>
    rw [it85d_succ (by omega), Nat.add_sub_cancel, List.getElem?_eq_getElem (show n < c.L.length by omega)]
    rfl
theorem rlast_eq {c : GR07Chain} (h : c.L.length ≤ 1000) : m57_r07_Last c = some (lastTs (c.L.map cv)) := by
  unfold m57_r07_Last lastTs
  by_cases h0 : (c.L.length : Int) = 0
  · have : c.L = [] := List.eq_nil_of_length_eq_zero (by omega)
    rw [this]
    rfl
  · rw [if_neg (by simpa using h0), wI_id (by omega) (by omega), show (c.L.length : Int) - 1 = ((c.L.length - 1 : Nat) : Int) by omega, idx_nat, List.length_map, List.getElem?_map]
    have hg := List.getElem?_eq_getElem (show c.L.length - 1 < c.L.length by omega)
    rw [hg]
    rfl

/-! One more -/
theorem push_not {c : GChainChain} (h : c.L.length ≤ 1000) {v : GChainVer} (hk : ¬ OkC c.L ∨ vOk v = false) : m69_chain_Push c v = some (⟨[]⟩, 1) := by
  unfold m69_chain_Push
  rcases sane_cases (c := ⟨c.L⟩) h with ⟨h1, h2⟩ | ⟨h1, h2⟩
  · rw [h1, Option.bind_some, sv_eq, Option.bind_some]
    rcases hk with hk | hk
    · exact absurd h2 hk
    · rw [hk]; rfl
  · rw [h1]; rfl
theorem push_old {c : GChainChain} (h : c.L.length ≤ 1000) {v : GChainVer} (hk : OkC c.L) (hv : vOk v = true) (hl : v.Ts ≤ lastTs c.L) : m69_chain_Push c v = some (⟨[]⟩, 7) := by
  unfold m69_chain_Push
  rcases sane_cases (c := ⟨c.L⟩) h with ⟨h1, h2⟩ | ⟨h1, h2⟩
  · rw [h1, Option.bind_some, sv_eq, Option.bind_some, hv]
    unfold m69_chain_Push_k1
    rw [last_eq h, Option.bind_some, if_pos (decide_eq_true hl)]
    rfl
  · exact absurd hk h2
theorem push_new {c : GChainChain} (h : c.L.length ≤ 1000) {v : GChainVer} (hk : OkC c.L) (hv : vOk v = true) (hl : lastTs c.L < v.Ts) : m69_chain_Push c v = some (⟨c.L ++ [v]⟩, 0) := by
  unfold m69_chain_Push
  rcases sane_cases (c := ⟨c.L⟩) h with ⟨h1, h2⟩ | ⟨h1, h2⟩
  · rw [h1, Option.bind_some, sv_eq, Option.bind_some, hv]
    unfold m69_chain_Push_k1
    have hn : ¬ (decide (v.Ts ≤ lastTs c.L) = true) := by rw [decide_eq_true_eq]; omega
    rw [last_eq h, Option.bind_some, if_neg hn, m83_slices_Concato_m _ (by simp; omega) (by simp)]
    simp
  · exact absurd hk h2

theorem okC_one (v : GR07Ver) : OkC ([v].map cv) ↔ vOk (cv v) = true := by
  constructor
  · intro h; exact h.each 0 (cv v) rfl
  · intro h
    refine ⟨fun i u hu => ?_, fun i u w hu hw => ?_⟩
    · cases i with
      | zero => cases hu; exact h
      | succ i => simp at hu
    · simp at hw

theorem push_both {c : GR07Chain} (h : c.L.length ≤ 60) (v : GR07Ver) : ∃ q e, m48_r07_Push c v = some (q, e) ∧ m69_chain_Push ⟨c.L.map cv⟩ (cv v) = some (⟨q.L.map cv⟩, e) ∧ q.L.length ≤ 1000 := by
  have hl : (c.L.map cv).length ≤ 1000 := by simp; omega
  unfold m48_r07_Push
  rcases rsane_cases (c := c) (by omega) with ⟨h1, h2⟩ | ⟨h1, h2⟩
  · rw [h1, Option.bind_some, if_neg (by simp)]
    rcases rsane_cases (c := ⟨[v]⟩) (by simp) with ⟨h3, h4⟩ | ⟨h3, h4⟩
    · rw [h3, Option.bind_some, if_neg (by simp)]
      have hv := (okC_one v).1 h4
      unfold m48_r07_Push_k1
      rw [rlast_eq (by omega), Option.bind_some]
      by_cases hlt : v.Ts ≤ lastTs (c.L.map cv)
      · rw [if_pos (decide_eq_true hlt)]
        exact ⟨_, _, rfl, push_old (c := ⟨c.L.map cv⟩) hl h2 hv hlt, by simp⟩
      · rw [if_neg (by simpa using hlt), if_pos (by simp; omega), if_pos (by simp; omega)]
        refine ⟨_, _, rfl, ?_, by simp; omega⟩
        rw [push_new (c := ⟨c.L.map cv⟩) hl h2 hv (show lastTs (c.L.map cv) < v.Ts by omega)]
        simp
    · rw [h3, Option.bind_some, if_pos (by simp)]
      refine ⟨_, _, rfl, push_not (c := ⟨c.L.map cv⟩) hl (.inr ?_), by simp⟩
      cases hv : vOk (cv v) with
      | false => rfl
      | true => exact absurd ((okC_one v).2 hv) h4
  · rw [h1, Option.bind_some, if_pos (by simp)]
    exact ⟨_, _, rfl, push_not (c := ⟨c.L.map cv⟩) hl (.inl h2), by simp⟩

/-! Those that nobody sees -/
/-- How many go. -/
def gone (l : List GChainVer) (t : Int) : Nat := match l[(plc l t l.length).toNat]? with
  | some v => if plc l t l.length < 0 then 0 else if v.Del then (plc l t l.length).toNat + 1 else (plc l t l.length).toNat
  | none => 0
theorem vac_eq {c : GChainChain} (h : c.L.length ≤ 1000) (hk : OkC c.L) (t : Int) : m58_chain_Vacuum c t = some ⟨c.L.drop (gone c.L t)⟩ := by
  obtain ⟨p1, p2, _, _⟩ := plc_spec c.L t c.L.length (Nat.le_refl _)
  unfold m58_chain_Vacuum gone
  rw [seen_eq h, Option.bind_some]
  by_cases h0 : plc c.L t c.L.length < 0
  · rw [if_pos (decide_eq_true h0)]
    split
    · rw [if_pos h0]; rfl
    · rfl
  · rw [if_neg (by simpa using h0)]
    rcases sane_cases (c := ⟨c.L⟩) h with ⟨h1, h2⟩ | ⟨h1, h2⟩
    · rw [h1, Option.bind_some, if_neg (by simp)]
      unfold m58_chain_Vacuum_k2
      have hg := List.getElem?_eq_getElem (show (plc c.L t c.L.length).toNat < c.L.length by omega)
      generalize c.L[(plc c.L t c.L.length).toNat]'(by omega) = v at hg
      rw [idx_of (by omega) hg, Option.bind_some, hg]
      dsimp only
      rw [if_neg h0]
      have key : ∀ j : Nat, j ≤ c.L.length → m58_chain_Vacuum_k4 c (j : Int) = some ⟨c.L.drop j⟩ := fun j hj => by
        unfold m58_chain_Vacuum_k4
        rw [cut_of (by omega) (by omega) (by omega), Option.bind_some]
        have : (c.L.drop ((j : Int)).toNat).take (((c.L.length : Int)).toNat - ((j : Int)).toNat) = c.L.drop j := by
          rw [Int.toNat_natCast, Int.toNat_natCast]
          exact List.take_of_length_le (by simp)
        rw [this, m77_slices_Cloneo_m _ (by simp; omega)]
        rfl
      cases hd : v.Del with
      | true =>
        rw [if_pos rfl, if_pos rfl, wI_id (by omega) (by omega)]
        have := key ((plc c.L t c.L.length).toNat + 1) (by omega)
        rw [show (((plc c.L t c.L.length).toNat + 1 : Nat) : Int) = plc c.L t c.L.length + 1 by omega] at this
        exact this
      | false =>
        rw [if_neg (by simp), if_neg (by simp)]
        have := key ((plc c.L t c.L.length).toNat) (by omega)
        rw [show (((plc c.L t c.L.length).toNat : Nat) : Int) = plc c.L t c.L.length by omega] at this
        exact this
    · exact absurd hk h2
theorem vac_not {c : GChainChain} (h : c.L.length ≤ 1000) (hk : ¬ OkC c.L) (t : Int) : m58_chain_Vacuum c t = some c := by
  unfold m58_chain_Vacuum
  rw [seen_eq h, Option.bind_some]
  by_cases h0 : plc c.L t c.L.length < 0
  · rw [if_pos (decide_eq_true h0)]
  · rw [if_neg (by simpa using h0)]
    rcases sane_cases (c := ⟨c.L⟩) h with ⟨h1, h2⟩ | ⟨h1, h2⟩
    · exact absurd h2 hk
    · rw [h1]
      rfl
theorem vac_both {c : GR07Chain} (h : c.L.length ≤ 60) (t : Int) : ∃ q, m59_r07_Vacuum c t = some q ∧ m58_chain_Vacuum ⟨c.L.map cv⟩ t = some ⟨q.L.map cv⟩ ∧ q.L.length ≤ 1000 := by
  have hl : (c.L.map cv).length ≤ 1000 := by simp; omega
  have hlm : (c.L.map cv).length = c.L.length := by simp
  obtain ⟨p1, p2, _, _⟩ := plc_spec (c.L.map cv) t (c.L.map cv).length (Nat.le_refl _)
  unfold m59_r07_Vacuum
  rw [rplace_eq (by omega), Option.bind_some]
  rcases rsane_cases (c := c) (by omega) with ⟨h1, h2⟩ | ⟨h1, h2⟩
  · rw [h1, Option.bind_some, if_neg (by simp), vac_eq (c := ⟨c.L.map cv⟩) hl h2]
    unfold gone
    dsimp only
    rw [hlm] at p1 p2 ⊢
    by_cases h0 : plc (c.L.map cv) t c.L.length < 0
    · rw [if_pos (decide_eq_true h0)]
      refine ⟨_, rfl, ?_, by omega⟩
      split
      · rw [if_pos h0]; rfl
      · rfl
    · rw [if_neg (by simpa using h0)]
      unfold m59_r07_Vacuum_k2
      have hg := List.getElem?_eq_getElem (show (plc (c.L.map cv) t c.L.length).toNat < c.L.length by omega)
      generalize c.L[(plc (c.L.map cv) t c.L.length).toNat]'(by omega) = v at hg
      rw [idx_of (by omega) hg, Option.bind_some, List.getElem?_map, hg]
      simp only [Option.map_some]
      rw [if_neg h0]
      have key : ∀ j : Nat, j ≤ c.L.length → m59_r07_Vacuum_k4 c (j : Int) = some ⟨c.L.drop j⟩ := fun j hj => by
        unfold m59_r07_Vacuum_k4
        rw [cut_of (by omega) (by omega) (by omega), Option.bind_some]
        have : (c.L.drop ((j : Int)).toNat).take (((c.L.length : Int)).toNat - ((j : Int)).toNat) = c.L.drop j := by
          rw [Int.toNat_natCast, Int.toNat_natCast]
          exact List.take_of_length_le (by simp)
        rw [this]
      cases hd : v.Del with
      | true =>
        have hd' : (cv v).Del = true := hd
        rw [if_pos rfl, hd', if_pos rfl, wI_id (by omega) (by omega)]
        have := key ((plc (c.L.map cv) t c.L.length).toNat + 1) (by omega)
        rw [show (((plc (c.L.map cv) t c.L.length).toNat + 1 : Nat) : Int) = plc (c.L.map cv) t c.L.length + 1 by omega] at this
        exact ⟨_, this, by simp [List.map_drop], by simp; omega⟩
      | false =>
        have hd' : (cv v).Del = false := hd
        rw [if_neg (by simp), hd', if_neg (by simp)]
        have := key ((plc (c.L.map cv) t c.L.length).toNat) (by omega)
        rw [show (((plc (c.L.map cv) t c.L.length).toNat : Nat) : Int) = plc (c.L.map cv) t c.L.length by omega] at this
        exact ⟨_, this, by simp [List.map_drop], by simp; omega⟩
  · rw [h1, Option.bind_some, if_pos (by simp)]
    exact ⟨_, rfl, vac_not (c := ⟨c.L.map cv⟩) hl h2 t, by omega⟩

/-! Those that came later -/
def later7 (l : List GChainVer) (t : Int) : List GChainVer := l.filter fun v => decide (t < v.Ts)
theorem later_map (l : List GR07Ver) (t : Int) : later7 (l.map cv) t = (l.filter fun v => decide (t < v.Ts)).map cv := by
  unfold later7
  rw [List.filter_map]
  rfl



theorem okC_nil : OkC [] := ⟨fun i v h => by simp at h, fun i v w h => by simp at h⟩
theorem okC_snoc {l : List GChainVer} (h : OkC l) {v : GChainVer} (hv : vOk v = true) (hl : lastTs l < v.Ts) : OkC (l ++ [v]) := by
  refine ⟨fun i u hu => ?_, fun i u w hu hw => ?_⟩
  · by_cases hi : i < l.length
    · rw [List.getElem?_append_left hi] at hu; exact h.each i u hu
    · rw [List.getElem?_append_right (by omega)] at hu
      cases hj : i - l.length with
      | zero => rw [hj] at hu; cases hu; exact hv
      | succ j => rw [hj] at hu; simp at hu
  · by_cases hi : i + 1 < l.length
    · rw [List.getElem?_append_left (by omega)] at hu
      rw [List.getElem?_append_left hi] at hw
      exact h.asc i u w hu hw
    · by_cases hi2 : i < l.length
      · rw [List.getElem?_append_left hi2] at hu
        rw [List.getElem?_append_right (by omega), show i + 1 - l.length = 0 by omega] at hw
        cases hw
        unfold lastTs at hl
        rw [show l.length - 1 = i by omega, hu] at hl
        exact hl
      · rw [List.getElem?_append_right (by omega)] at hw
        cases hj : i + 1 - l.length with
        | zero => omega
        | succ j => rw [hj] at hw; simp at hw
theorem okC_drop {l : List GChainVer} (h : OkC l) (n : Nat) : OkC (l.drop n) := by
  refine ⟨fun i v hv => ?_, fun i v w hv hw => ?_⟩
  · rw [List.getElem?_drop] at hv; exact h.each _ v hv
  · rw [List.getElem?_drop] at hv hw; exact h.asc (n + i) v w hv (by rw [Nat.add_assoc]; exact hw)
theorem okC_take {l : List GChainVer} (h : OkC l) (n : Nat) : OkC (l.take n) := by
  refine ⟨fun i v hv => ?_, fun i v w hv hw => ?_⟩
  · rw [List.getElem?_take] at hv
    split at hv
    · exact h.each _ v hv
    · cases hv
  · rw [List.getElem?_take] at hv hw
    split at hw
    · rw [if_pos (by omega)] at hv
      exact h.asc i v w hv hw
    · cases hw
theorem okC_val {l : List GChainVer} (h : OkC l) : ∀ v ∈ l, v.Val.length ≤ 100 := fun v hm => by
  obtain ⟨i, hi, hiv⟩ := List.getElem_of_mem hm
  have := h.each i v (by rw [List.getElem?_eq_getElem hi, hiv])
  unfold vOk at this
  simp only [Bool.and_eq_true, decide_eq_true_eq] at this
  omega
theorem okC_le {l : List GChainVer} (h : OkC l) {i : Nat} {v : GChainVer} (hv : l[i]? = some v) : ∀ (d : Nat) (w : GChainVer), l[i + d]? = some w → v.Ts ≤ w.Ts
  | 0, w, hw => by rw [Nat.add_zero, hv] at hw; cases hw; exact Int.le_refl _
  | d + 1, w, hw => by
    have hlt := (List.getElem?_eq_some_iff.1 hw).1
    have hg := List.getElem?_eq_getElem (show i + d < l.length by omega)
    have ih := okC_le h hv d _ hg
    have := h.asc (i + d) _ w hg (by rw [Nat.add_assoc]; exact hw)
    omega

/-- How many are seen at or ahead of a time. -/
def pc (l : List GChainVer) (t : Int) : Nat := (plc l t l.length + 1).toNat
theorem pc_le (l : List GChainVer) (t : Int) : pc l t ≤ l.length := by
  obtain ⟨h1, h2, _, _⟩ := plc_spec l t l.length (Nat.le_refl _)
  unfold pc; omega
theorem plc_pc (l : List GChainVer) (t : Int) : plc l t l.length = (pc l t : Int) - 1 := by
  obtain ⟨h1, h2, _, _⟩ := plc_spec l t l.length (Nat.le_refl _)
  unfold pc; omega
theorem pc_iff {l : List GChainVer} (h : OkC l) (t : Int) {i : Nat} {v : GChainVer} (hv : l[i]? = some v) : i < pc l t ↔ v.Ts ≤ t := by
  obtain ⟨h1, h2, h3, h4⟩ := plc_spec l t l.length (Nat.le_refl _)
  have hp := plc_pc l t
  have hlt := (List.getElem?_eq_some_iff.1 hv).1
  constructor
  · intro hi
    have hk : pc l t - 1 < l.length := by have := pc_le l t; omega
    have hg := List.getElem?_eq_getElem hk
    have h5 := h3 (pc l t - 1) _ (by omega) hg
    have h6 := okC_le h hv (pc l t - 1 - i) _ (by rw [show i + (pc l t - 1 - i) = pc l t - 1 by omega]; exact hg)
    omega
  · intro ht
    rcases Nat.lt_or_ge i (pc l t) with hi | hi
    · exact hi
    · have := h4 i v (by omega) hlt hv
      omega
/-- It is the only number that parts them so. -/
theorem pc_eq {l : List GChainVer} (h : OkC l) {t : Int} {n : Nat} (hn : n ≤ l.length) (ha : ∀ (i : Nat) v, i < n → l[i]? = some v → v.Ts ≤ t) (hb : ∀ (i : Nat) v, n ≤ i → l[i]? = some v → t < v.Ts) : pc l t = n := by
  have h1 := pc_le l t
  rcases Nat.lt_trichotomy (pc l t) n with hl | hl | hl
  · have hg := List.getElem?_eq_getElem (show pc l t < l.length by omega)
    have := (pc_iff h t hg).2 (ha _ _ hl hg)
    omega
  · exact hl
  · have hg := List.getElem?_eq_getElem (show n < l.length by omega)
    have := (pc_iff h t hg).1 hl
    have := hb _ _ (Nat.le_refl _) hg
    omega
theorem pc_drop {l : List GChainVer} (h : OkC l) (t : Int) (n : Nat) (hn : n ≤ l.length) : pc (l.drop n) t = pc l t - n := by
  have h1 := pc_le l t
  refine pc_eq (okC_drop h n) (by simp; omega) (fun i v hi hv => ?_) (fun i v hi hv => ?_)
  · rw [List.getElem?_drop] at hv
    exact (pc_iff h t hv).1 (by omega)
  · rw [List.getElem?_drop] at hv
    rcases Nat.lt_or_ge (n + i) (pc l t) with hlt | hge
    · omega
    · have := mt (pc_iff h t hv).2 (by omega)
      omega
theorem pc_mono {l : List GChainVer} (h : OkC l) {s t : Int} (hst : s ≤ t) : pc l s ≤ pc l t := by
  rcases Nat.lt_or_ge (pc l t) (pc l s) with hl | hl
  · have h1 := pc_le l s
    have hg := List.getElem?_eq_getElem (show pc l t < l.length by omega)
    have h2 := (pc_iff h s hg).1 hl
    have := (pc_iff h t hg).2 (by omega)
    omega
  · exact hl

theorem at0 {c : GChainChain} (h : c.L.length ≤ 1000) {t : Int} (hp : pc c.L t = 0) : m64_chain_At c t = some (⟨0, [], false⟩, false) :=
  at_none h (by rw [plc_pc, hp]; rfl)
theorem at1 {c : GChainChain} (h : c.L.length ≤ 1000) {t : Int} {v : GChainVer} (hp : 0 < pc c.L t) (hv : c.L[pc c.L t - 1]? = some v) : m64_chain_At c t = some (v, true) :=
  at_some h (by rw [plc_pc]; omega) hv

theorem later_drop {l : List GChainVer} (h : OkC l) (t : Int) : later7 l t = l.drop (pc l t) := by
  unfold later7
  conv => lhs; rw [← List.take_append_drop (pc l t) l]
  rw [List.filter_append]
  have h1 : (l.take (pc l t)).filter (fun v => decide (t < v.Ts)) = [] := by
    rw [List.filter_eq_nil_iff]
    intro v hm
    obtain ⟨i, hi, hiv⟩ := List.getElem_of_mem hm
    have hi' : i < pc l t := by rw [List.length_take] at hi; omega
    have hv : l[i]? = some v := by
      have := List.getElem?_eq_getElem hi
      rw [hiv, List.getElem?_take, if_pos hi'] at this
      exact this
    have := (pc_iff h t hv).1 hi'
    simp; omega
  have h2 : (l.drop (pc l t)).filter (fun v => decide (t < v.Ts)) = l.drop (pc l t) := by
    rw [List.filter_eq_self]
    intro v hm
    obtain ⟨i, hi, hiv⟩ := List.getElem_of_mem hm
    have hv : l[pc l t + i]? = some v := by
      have := List.getElem?_eq_getElem hi
      rw [hiv, List.getElem?_drop] at this
      exact this
    have := mt (pc_iff h t hv).2 (by omega)
    simp; omega
  rw [h1, h2, List.nil_append]

theorem gone_eq (l : List GChainVer) (t : Int) : (pc l t = 0 ∧ gone l t = 0) ∨ ∃ v, 0 < pc l t ∧ l[pc l t - 1]? = some v ∧ gone l t = if v.Del then pc l t else pc l t - 1 := by
  have hp := plc_pc l t
  have hle := pc_le l t
  rcases Nat.eq_zero_or_pos (pc l t) with h0 | h0
  · left
    refine ⟨h0, ?_⟩
    unfold gone
    split
    · rw [if_pos (by omega)]
    · rfl
  · right
    have hg := List.getElem?_eq_getElem (show pc l t - 1 < l.length by omega)
    refine ⟨_, h0, hg, ?_⟩
    unfold gone
    rw [show (plc l t l.length).toNat = pc l t - 1 by omega, hg]
    dsimp only
    rw [if_neg (by omega), show pc l t - 1 + 1 = pc l t by omega]
theorem gone_le (l : List GChainVer) (t : Int) : gone l t ≤ pc l t := by
  rcases gone_eq l t with ⟨h1, h2⟩ | ⟨v, h1, h2, h3⟩
  · omega
  · rw [h3]; split <;> omega



theorem same_self (l : List GR07Ver) (h : l.length ≤ 1000) : m49_r07_Same l l = some true := by rw [same_eq l l h]; simp

/-- Who looks from a time on sees what was seen. -/
theorem value_drop {c : GChainChain} (h : c.L.length ≤ 60) (hk : OkC c.L) {o t : Int} (hot : o ≤ t) : ∃ r, m39_chain_Value c t = some r ∧ m39_chain_Value ⟨c.L.drop (gone c.L o)⟩ t = some r := by
  have hm := pc_mono hk hot
  have hle := pc_le c.L t
  have hgl := gone_le c.L o
  have hlc : c.L.length ≤ 1000 := by omega
  have hld : (c.L.drop (gone c.L o)).length ≤ 1000 := by simp; omega
  have hpd : pc (c.L.drop (gone c.L o)) t = pc c.L t - gone c.L o := pc_drop hk t _ (by omega)
  have self : ∃ v b, m64_chain_At c t = some (v, b) := by
    rcases Nat.eq_zero_or_pos (pc c.L t) with h0 | h0
    · exact ⟨_, _, at0 hlc h0⟩
    · exact ⟨_, _, at1 hlc h0 (List.getElem?_eq_getElem (by omega))⟩
  rcases gone_eq c.L o with ⟨_, h2⟩ | ⟨v, h1, h2, h3⟩
  · obtain ⟨v, b, hv⟩ := self
    rw [h2]
    exact ⟨_, value_of hv, value_of hv⟩
  · have hg := List.getElem?_eq_getElem (show pc c.L t - 1 < c.L.length by omega)
    have at_c := at1 (c := c) hlc (t := t) (by omega) hg
    by_cases hz : pc c.L t = gone c.L o
    · have hd : v.Del = true := by
        cases hd : v.Del with
        | true => rfl
        | false => rw [hd] at h3; simp at h3; omega
      have e1 : pc c.L t = pc c.L o := by omega
      have hgv : c.L[pc c.L t - 1]'(by omega) = v := by
        have : c.L[pc c.L t - 1]? = some v := by rw [e1]; exact h2
        rw [hg] at this; exact Option.some.inj this
      have at_d := at0 (c := ⟨c.L.drop (gone c.L o)⟩) hld (t := t) (by show pc (c.L.drop (gone c.L o)) t = 0; omega)
      refine ⟨_, value_of at_c, ?_⟩
      rw [value_of at_d, hgv, hd]
      rfl
    · have hlt : gone c.L o < pc c.L t := by omega
      have at_d := at1 (c := ⟨c.L.drop (gone c.L o)⟩) hld (t := t) (v := c.L[pc c.L t - 1]'(by omega)) (by show 0 < pc (c.L.drop (gone c.L o)) t; omega) (by
        show (c.L.drop (gone c.L o))[pc (c.L.drop (gone c.L o)) t - 1]? = _
        rw [hpd, List.getElem?_drop, ← hg]
        congr 1
        omega)
      exact ⟨_, value_of at_c, value_of at_d⟩

theorem ts_pos {l : List GChainVer} (h : OkC l) {i : Nat} {v : GChainVer} (hv : l[i]? = some v) : 1 ≤ v.Ts := by
  have := h.each i v hv
  unfold vOk at this
  simp only [Bool.and_eq_true, decide_eq_true_eq] at this
  omega

end Go.Proofs.Ytbojepclnfnmcaa.Abs
