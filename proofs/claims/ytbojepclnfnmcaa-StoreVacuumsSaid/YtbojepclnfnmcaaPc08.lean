/-
  What the library's functions compute.
-/
import Derived.Test.YtbojepclnfnmcaaPk08
namespace Go.Proofs.Ytbojepclnfnmcaa.Abs




def cv (x : GR07Ver) : GChainVer := ⟨x.Ts, x.Val, x.Del⟩
def vc (x : GChainVer) : GR07Ver := ⟨x.Ts, x.Val, x.Del⟩
instance : DecidableEq GR07Ver := fun a b => decidable_of_iff (a.Ts = b.Ts ∧ a.Val = b.Val ∧ a.Del = b.Del) (by cases a; cases b; simp)
theorem vc_cv (l : List GR07Ver) : (l.map cv).map vc = l := by
  rw [List.map_map]
  exact List.map_id l
theorem vc_inj {l m : List GChainVer} (h : l.map vc = m.map vc) : l = m := by
  have : ∀ l : List GChainVer, (l.map vc).map cv = l := fun l => by rw [List.map_map]; exact List.map_id l
  rw [← this l, ← this m, h]

theorem wn {n : Nat} (h : n ≤ 1000000000000000000) : wI ((n : Int) + 1) = ((n + 1 : Nat) : Int) := by rw [wI_id (by omega) (by omega)]; rfl

/-! The same? -/
theorem one_eq (a b : GR07Ver) : m70_r07_One a b = some (decide (a = b)) := by
  unfold m70_r07_One
  obtain ⟨t, v, d⟩ := a
  obtain ⟨t', v', d'⟩ := b
  simp only [GR07Ver.mk.injEq]
  by_cases h1 : t = t'
  · rw [if_pos (decide_eq_true h1)]
    by_cases h2 : d = d'
    · rw [if_pos (by simpa using h2)]
      by_cases h3 : v = v'
      · simp [h1, h2, h3]
      · simp [h1, h2, h3]
    · rw [if_neg (by simpa using h2)]
      simp [h2]
  · rw [if_neg (by simpa using h1)]
    simp [h1]

theorem same_eq (a b : List GR07Ver) (h : a.length ≤ 1000) : m49_r07_Same a b = some (decide (a = b)) := by
  unfold m49_r07_Same
  by_cases hl : (a.length : Int) = (b.length : Int)
  · rw [if_neg (by simpa using hl)]
    have hl' : a.length = b.length := by omega
    obtain ⟨x, hx, hR⟩ := iter_inv (f := m49_r07_Same_s2 a b) (P := fun s => ∃ i : Nat, i ≤ a.length ∧ s = (i : Int) ∧ a.take i = b.take i) (μ := fun s => a.length - s.toNat)
      (R := fun x => match x with | .inl r => r = false ∧ a ≠ b | .inr _ => a = b) (by
      rintro _ ⟨i, hi, rfl, he⟩
      unfold m49_r07_Same_s2
      rcases Nat.lt_or_ge i a.length with hlt | hge
      · rw [if_pos (decide_eq_true (by omega)), idx_nat, idx_nat, List.getElem?_eq_getElem hlt, List.getElem?_eq_getElem (show i < b.length by omega)]
        simp only [Option.bind_some]
        rw [one_eq, Option.bind_some]
        by_cases ho : a[i] = b[i]'(by omega)
        · left
          rw [if_neg (by simpa using ho), wn (by omega)]
          refine ⟨_, rfl, ⟨i + 1, hlt, rfl, ?_⟩, by simp only [Int.toNat_natCast]; omega⟩
          rw [List.take_succ_eq_append_getElem hlt, List.take_succ_eq_append_getElem (show i < b.length by omega), he, ho]
        · right; right
          rw [if_pos (by simpa using ho)]
          exact ⟨_, rfl, rfl, fun e => ho (by subst e; rfl)⟩
      · right; left
        rw [if_neg (by simp; omega)]
        refine ⟨_, rfl, ?_⟩
        rw [List.take_of_length_le (by omega), List.take_of_length_le (by omega)] at he
        exact he) fuel 0 ⟨0, Nat.zero_le _, rfl, rfl⟩ (lt_fuel (by show a.length - 0 ≤ _; omega))
    rw [hx]
    cases x with
    | inl r =>
      obtain ⟨h1, h2⟩ := hR
      subst h1
      simp [h2]
    | inr u =>
      have hR' : a = b := hR
      simp [hR', m49_r07_Same_k1]
  · rw [if_pos (by simpa using hl)]
    have : a ≠ b := fun e => hl (by rw [e])
    simp [this]

/-! There, and back -/
/-! Whether versions may be -/
def vOk (v : GChainVer) : Bool := decide (1 ≤ v.Ts) && decide (v.Ts ≤ 1099511627776) && decide ((v.Val.length : Int) ≤ 32) && !(v.Del && decide (0 < (v.Val.length : Int)))
theorem sv_eq (v : GChainVer) : m75_chain_saneVer v = some (vOk v) := by
  unfold m75_chain_saneVer vOk
  cases h1 : decide (1 ≤ v.Ts) <;> cases h2 : decide (v.Ts ≤ 1099511627776) <;> cases h3 : decide ((v.Val.length : Int) ≤ 32) <;> cases h4 : v.Del <;> simp

/-- Versions that may be. -/
structure OkC (l : List GChainVer) : Prop where
  each : ∀ (i : Nat) (v : GChainVer), l[i]? = some v → vOk v = true
  asc : ∀ (i : Nat) (v w : GChainVer), l[i]? = some v → l[i + 1]? = some w → v.Ts < w.Ts

/-- The first n may be, and lie below b. -/
def OkN (l : List GChainVer) (n : Nat) (b : Int) : Prop :=
  (∀ (i : Nat) (v : GChainVer), i < n → l[i]? = some v → vOk v = true) ∧ (∀ (i : Nat) (v w : GChainVer), i + 1 < n → l[i]? = some v → l[i + 1]? = some w → v.Ts < w.Ts) ∧ ∀ (k : Nat) (v : GChainVer), n = k + 1 → l[k]? = some v → v.Ts < b

theorem it85_eq {c : GChainChain} (h : c.L.length ≤ 1000) : it85 c = some (it85d c.L c.L.length) := if_pos (by omega)

theorem sane_go (l : List GChainVer) : ∀ (n : Nat) (b : Int), n ≤ l.length → ∃ e r, rangeL m52_chain_Sane_r1 (it85d l n) b = some e ∧ rangeK m52_chain_Sane_k3 m52_chain_Sane_k4 (fun _ _ => none) e = some r ∧ (r = true ↔ OkN l n b)
  | 0, b, _ => ⟨_, _, rfl, rfl, by simp [OkN]⟩
  | n + 1, b, h => by
    rw [it85d_succ (by omega)]
    have hg := List.getElem?_eq_getElem (show n < l.length by omega)
    generalize l[n]'(by omega) = v at hg
    unfold rangeL
    unfold m52_chain_Sane_r1
    dsimp only
    rw [sv_eq, Option.bind_some]
    cases hs : vOk v with
    | false =>
      refine ⟨_, false, rfl, rfl, ?_⟩
      simp only [Bool.false_eq_true, false_iff]
      intro hk
      rw [hk.1 n v (Nat.lt_succ_self n) hg] at hs
      cases hs
    | true =>
      by_cases hb : b ≤ v.Ts
      · rw [if_neg (by simp), if_pos (decide_eq_true hb)]
        refine ⟨_, false, rfl, rfl, ?_⟩
        simp only [Bool.false_eq_true, false_iff]
        intro hk
        have := hk.2.2 n v rfl hg
        omega
      · rw [if_neg (by simp), if_neg (by simpa using hb)]
        obtain ⟨e, r, h1, h2, h3⟩ := sane_go l n v.Ts (by omega)
        refine ⟨e, r, h1, h2, h3.trans ⟨fun hk => ⟨fun i u hi hu => ?_, fun i u w hi hu hw => ?_, fun k u hk2 hu => ?_⟩, fun hk => ⟨fun i u hi hu => hk.1 i u (by omega) hu, fun i u w hi hu hw => hk.2.1 i u w (by omega) hu hw, fun k u hk2 hu => ?_⟩⟩⟩
        · by_cases e : i = n
          · subst e; rw [hg] at hu; cases hu; exact hs
          · exact hk.1 i u (by omega) hu
        · by_cases e : i + 1 = n
          · subst e; rw [hg] at hw; cases hw; exact hk.2.2 i u rfl hu
          · exact hk.2.1 i u w (by omega) hu hw
        · have : k = n := by omega
          subst this
          rw [hg] at hu; cases hu; omega
        · subst hk2
          exact hk.2.1 k u v (by omega) hu hg

theorem okN_iff (l : List GChainVer) : OkN l l.length 1099511627777 ↔ OkC l := by
  constructor
  · intro h
    exact ⟨fun i v hv => h.1 i v (List.getElem?_eq_some_iff.1 hv).1 hv, fun i v w hv hw => h.2.1 i v w (List.getElem?_eq_some_iff.1 hw).1 hv hw⟩
  · intro h
    refine ⟨fun i v _ hv => h.each i v hv, fun i v w _ hv hw => h.asc i v w hv hw, fun k v _ hv => ?_⟩
    have := h.each k v hv
    unfold vOk at this
    simp only [Bool.and_eq_true, decide_eq_true_eq] at this
    omega
theorem sane_cases {c : GChainChain} (h : c.L.length ≤ 1000) : (m52_chain_Sane c = some true ∧ OkC c.L) ∨ (m52_chain_Sane c = some false ∧ ¬ OkC c.L) := by
  obtain ⟨e, r, h1, h2, h3⟩ := sane_go c.L c.L.length 1099511627777 (Nat.le_refl _)
  have : m52_chain_Sane c = some r := by
    unfold m52_chain_Sane
    rw [it85_eq h, Option.bind_some, h1, Option.bind_some, h2]
  rw [okN_iff] at h3
  cases r with
  | true => exact .inl ⟨this, h3.1 rfl⟩
  | false => exact .inr ⟨this, fun hk => by have := h3.2 hk; cases this⟩

/-! Turned round -/
def plc (l : List GChainVer) (t : Int) : Nat → Int
  | 0 => -1
  | n + 1 => match l[n]? with
    | some v => if v.Ts ≤ t then (n : Int) else plc l t n
    | none => -1

theorem seen_go (l : List GChainVer) (t : Int) : ∀ (n : Nat) (s : Int), n ≤ l.length → ∃ e, rangeL (m76_chain_seen_r1 t) (it85d l n) s = some e ∧ rangeK m76_chain_seen_k2 m76_chain_seen_k3 (fun _ _ => none) e = some (plc l t n)
  | 0, s, _ => ⟨_, rfl, rfl⟩
  | n + 1, s, h => by
    rw [it85d_succ (by omega)]
    have hg := List.getElem?_eq_getElem (show n < l.length by omega)
    generalize l[n]'(by omega) = v at hg
    unfold rangeL m76_chain_seen_r1 plc
    rw [hg]
    dsimp only
    by_cases ht : v.Ts ≤ t
    · rw [if_pos (decide_eq_true ht), if_pos ht]
      exact ⟨_, rfl, rfl⟩
    · rw [if_neg (by simpa using ht), if_neg ht]
      exact seen_go l t n s (by omega)
theorem seen_eq {c : GChainChain} (h : c.L.length ≤ 1000) (t : Int) : m76_chain_seen c t = some (plc c.L t c.L.length) := by
  obtain ⟨e, h1, h2⟩ := seen_go c.L t c.L.length 0 (Nat.le_refl _)
  unfold m76_chain_seen
  rw [it85_eq h, Option.bind_some, h1, Option.bind_some, h2]

theorem plc_spec (l : List GChainVer) (t : Int) : ∀ n, n ≤ l.length → -1 ≤ plc l t n ∧ plc l t n < n ∧ (∀ k v, plc l t n = ((k : Nat) : Int) → l[k]? = some v → v.Ts ≤ t) ∧ ∀ (j : Nat) v, plc l t n < j → j < n → l[j]? = some v → t < v.Ts
  | 0, _ => ⟨by show (-1 : Int) ≤ -1; omega, by show (-1 : Int) < ((0 : Nat) : Int); omega, fun k v h => by have h' : (-1 : Int) = k := h; omega, fun j v _ h => by omega⟩
  | n + 1, h => by
    have hg := List.getElem?_eq_getElem (show n < l.length by omega)
    generalize l[n]'(by omega) = u at hg
    obtain ⟨h1, h2, h3, h4⟩ := plc_spec l t n (by omega)
    unfold plc
    rw [hg]
    dsimp only
    by_cases ht : u.Ts ≤ t
    · rw [if_pos ht]
      refine ⟨by omega, by omega, fun k v hk hv => ?_, fun j v hj1 hj2 hv => by omega⟩
      have : k = n := by omega
      subst this
      rw [hg] at hv; cases hv; exact ht
    · rw [if_neg ht]
      refine ⟨h1, by omega, h3, fun j v hj1 hj2 hv => ?_⟩
      by_cases e : j = n
      · subst e; rw [hg] at hv; cases hv; omega
      · exact h4 j v hj1 (by omega) hv

/-- At, Value: by what is seen. -/
theorem at_none {c : GChainChain} (h : c.L.length ≤ 1000) {t : Int} (hp : plc c.L t c.L.length = -1) : m64_chain_At c t = some (⟨0, [], false⟩, false) := by
  unfold m64_chain_At
  rw [seen_eq h, hp]
  rfl
theorem at_some {c : GChainChain} (h : c.L.length ≤ 1000) {t : Int} {k : Nat} {v : GChainVer} (hp : plc c.L t c.L.length = k) (hv : c.L[k]? = some v) : m64_chain_At c t = some (v, true) := by
  unfold m64_chain_At
  rw [seen_eq h, hp, Option.bind_some, if_neg (by simp only [decide_eq_true_eq]; omega), idx_nat, hv]
  rfl
theorem at_cases (c : GChainChain) (t : Int) : (plc c.L t c.L.length = -1) ∨ ∃ (k : Nat) (v : GChainVer), plc c.L t c.L.length = k ∧ c.L[k]? = some v := by
  obtain ⟨h1, h2, _, _⟩ := plc_spec c.L t c.L.length (Nat.le_refl _)
  by_cases h0 : plc c.L t c.L.length = -1
  · exact .inl h0
  · refine .inr ⟨(plc c.L t c.L.length).toNat, c.L[(plc c.L t c.L.length).toNat]'(by omega), by omega, List.getElem?_eq_getElem (by omega)⟩

theorem value_of {c : GChainChain} {t : Int} {v : GChainVer} {b : Bool} (h : m64_chain_At c t = some (v, b)) : m39_chain_Value c t = some (if b && !v.Del then (v.Val, true) else ([], false)) := by
  unfold m39_chain_Value m39_chain_Value_k2
  rw [h, Option.bind_some]
  cases b <;> cases v.Del <;> simp
/-! The last one -/
def lastTs (l : List GChainVer) : Int := match l[l.length - 1]? with
  | some v => v.Ts
  | none => 0
theorem last_eq {c : GChainChain} (h : c.L.length ≤ 1000) : m53_chain_Last c = some (lastTs c.L) := by
  unfold m53_chain_Last lastTs
  rw [it85_eq h, Option.bind_some]
  cases hn : c.L.length with
  | zero =>
    have : c.L = [] := List.eq_nil_of_length_eq_zero hn
    rw [this]
    rfl
  | succ n =>
    rw [it85d_succ (by omega), Nat.add_sub_cancel, List.getElem?_eq_getElem (show n < c.L.length by omega)]
    rfl
/-! One more -/
theorem push_not {c : GChainChain} (h : c.L.length ≤ 1000) {v : GChainVer} (hk : ¬ OkC c.L ∨ vOk v = false) : m69_chain_Push c v = some (⟨[]⟩, 1) := by
  unfold m69_chain_Push
  rcases sane_cases (c := ⟨c.L⟩) h with ⟨h1, h2⟩ | ⟨h1, h2⟩
  · rw [h1, Option.bind_some, sv_eq, Option.bind_some]
    rcases hk with hk | hk
    · exact absurd h2 hk
    · rw [hk]; rfl
  · rw [h1]; rfl
theorem push_old {c : GChainChain} (h : c.L.length ≤ 1000) {v : GChainVer} (hk : OkC c.L) (hv : vOk v = true) (hl : v.Ts ≤ lastTs c.L) : m69_chain_Push c v = some (⟨[]⟩, 7) := by
  unfold m69_chain_Push
  rcases sane_cases (c := ⟨c.L⟩) h with ⟨h1, h2⟩ | ⟨h1, h2⟩
  · rw [h1, Option.bind_some, sv_eq, Option.bind_some, hv]
    unfold m69_chain_Push_k1
    rw [last_eq h, Option.bind_some, if_pos (decide_eq_true hl)]
    rfl
  · exact absurd hk h2
theorem push_new {c : GChainChain} (h : c.L.length ≤ 1000) {v : GChainVer} (hk : OkC c.L) (hv : vOk v = true) (hl : lastTs c.L < v.Ts) : m69_chain_Push c v = some (⟨c.L ++ [v]⟩, 0) := by
  unfold m69_chain_Push
  rcases sane_cases (c := ⟨c.L⟩) h with ⟨h1, h2⟩ | ⟨h1, h2⟩
  · rw [h1, Option.bind_some, sv_eq, Option.bind_some, hv]
    unfold m69_chain_Push_k1
    have hn : ¬ (decide (v.Ts ≤ lastTs c.L) = true) := by rw [decide_eq_true_eq]; omega
    rw [last_eq h, Option.bind_some, if_neg hn, m83_slices_Concato_m _ (by simp; omega) (by simp)]
    simp
  · exact absurd hk h2

theorem okC_one (v : GR07Ver) : OkC ([v].map cv) ↔ vOk (cv v) = true := by
  constructor
  · intro h; exact h.each 0 (cv v) rfl
  · intro h
    refine ⟨fun i u hu => ?_, fun i u w hu hw => ?_⟩
    · cases i with
      | zero => cases hu; exact h
      | succ i => simp at hu
    · simp at hw

/-! Those that nobody sees -/
/-- How many go. -/
def gone (l : List GChainVer) (t : Int) : Nat := match l[(plc l t l.length).toNat]? with
  | some v => if plc l t l.length < 0 then 0 else if v.Del then (plc l t l.length).toNat + 1 else (plc l t l.length).toNat
  | none => 0
theorem vac_eq {c : GChainChain} (h : c.L.length ≤ 1000) (hk : OkC c.L) (t : Int) : m58_chain_Vacuum c t = some ⟨c.L.drop (gone c.L t)⟩ := by
  obtain ⟨p1, p2, _, _⟩ := plc_spec c.L t c.L.length (Nat.le_refl _)
  unfold m58_chain_Vacuum gone
  rw [seen_eq h, Option.bind_some]
  by_cases h0 : plc c.L t c.L.length < 0
  · rw [if_pos (decide_eq_true h0)]
    split
    · rw [if_pos h0]; rfl
    · rfl
  · rw [if_neg (by simpa using h0)]
    rcases sane_cases (c := ⟨c.L⟩) h with ⟨h1, h2⟩ | ⟨h1, h2⟩
    · rw [h1, Option.bind_some, if_neg (by simp)]
      unfold m58_chain_Vacuum_k2
      have hg := List.getElem?_eq_getElem (show (plc c.L t c.L.length).toNat < c.L.length by omega)
      generalize c.L[(plc c.L t c.L.length).toNat]'(by omega) = v at hg
      rw [idx_of (by omega) hg, Option.bind_some, hg]
      dsimp only
      rw [if_neg h0]
      have key : ∀ j : Nat, j ≤ c.L.length → m58_chain_Vacuum_k4 c (j : Int) = some ⟨c.L.drop j⟩ := fun j hj => by
        unfold m58_chain_Vacuum_k4
        rw [cut_of (by omega) (by omega) (by omega), Option.bind_some]
        have : (c.L.drop ((j : Int)).toNat).take (((c.L.length : Int)).toNat - ((j : Int)).toNat) = c.L.drop j := by
          rw [Int.toNat_natCast, Int.toNat_natCast]
          exact List.take_of_length_le (by simp)
        rw [this, m77_slices_Cloneo_m _ (by simp; omega)]
        rfl
      cases hd : v.Del with
      | true =>
        rw [if_pos rfl, if_pos rfl, wI_id (by omega) (by omega)]
        have := key ((plc c.L t c.L.length).toNat + 1) (by omega)
        rw [show (((plc c.L t c.L.length).toNat + 1 : Nat) : Int) = plc c.L t c.L.length + 1 by omega] at this
        exact this
      | false =>
        rw [if_neg (by simp), if_neg (by simp)]
        have := key ((plc c.L t c.L.length).toNat) (by omega)
        rw [show (((plc c.L t c.L.length).toNat : Nat) : Int) = plc c.L t c.L.length by omega] at this
        exact this
    · exact absurd hk h2
theorem vac_not {c : GChainChain} (h : c.L.length ≤ 1000) (hk : ¬ OkC c.L) (t : Int) : m58_chain_Vacuum c t = some c := by
  unfold m58_chain_Vacuum
  rw [seen_eq h, Option.bind_some]
  by_cases h0 : plc c.L t c.L.length < 0
  · rw [if_pos (decide_eq_true h0)]
  · rw [if_neg (by simpa using h0)]
    rcases sane_cases (c := ⟨c.L⟩) h with ⟨h1, h2⟩ | ⟨h1, h2⟩
    · exact absurd h2 hk
    · rw [h1]
      rfl
/-! Those that came later -/
def later7 (l : List GChainVer) (t : Int) : List GChainVer := l.filter fun v => decide (t < v.Ts)
theorem later_map (l : List GR07Ver) (t : Int) : later7 (l.map cv) t = (l.filter fun v => decide (t < v.Ts)).map cv := by
  unfold later7
  rw [List.filter_map]
  rfl



theorem okC_nil : OkC [] := ⟨fun i v h => by simp at h, fun i v w h => by simp at h⟩
theorem okC_snoc {l : List GChainVer} (h : OkC l) {v : GChainVer} (hv : vOk v = true) (hl : lastTs l < v.Ts) : OkC (l ++ [v]) := by
  refine ⟨fun i u hu => ?_, fun i u w hu hw => ?_⟩
  · by_cases hi : i < l.length
    · rw [List.getElem?_append_left hi] at hu; exact h.each i u hu
    · rw [List.getElem?_append_right (by omega)] at hu
      cases hj : i - l.length with
      | zero => rw [hj] at hu; cases hu; exact hv
      | succ j => rw [hj] at hu; simp at hu
  · by_cases hi : i + 1 < l.length
    · rw [List.getElem?_append_left (by omega)] at hu
      rw [List.getElem?_append_left hi] at hw
      exact h.asc i u w hu hw
    · by_cases hi2 : i < l.length
      · rw [List.getElem?_append_left hi2] at hu
        rw [List.getElem?_append_right (by omega), show i + 1 - l.length = 0 by omega] at hw
        cases hw
        unfold lastTs at hl
        rw [show l.length - 1 = i by omega, hu] at hl
        exact hl
      · rw [List.getElem?_append_right (by omega)] at hw
        cases hj : i + 1 - l.length with
        | zero => omega
        | succ j => rw [hj] at hw; simp at hw
theorem okC_drop {l : List GChainVer} (h : OkC l) (n : Nat) : OkC (l.drop n) := by
  refine ⟨fun i v hv => ?_, fun i v w hv hw => ?_⟩
  · rw [List.getElem?_drop] at hv; exact h.each _ v hv
  · rw [List.getElem?_drop] at hv hw; exact h.asc (n + i) v w hv (by rw [Nat.add_assoc]; exact hw)
theorem okC_take {l : List GChainVer} (h : OkC l) (n : Nat) : OkC (l.take n) := by
  refine ⟨fun i v hv => ?_, fun i v w hv hw => ?_⟩
  · rw [List.getElem?_take] at hv
    split at hv
    · exact h.each _ v hv
    · cases hv
  · rw [List.getElem?_take] at hv hw
    split at hw
    · rw [if_pos (by omega)] at hv
      exact h.asc i v w hv hw
    · cases hw
theorem okC_val {l : List GChainVer} (h : OkC l) : ∀ v ∈ l, v.Val.length ≤ 100 := fun v hm => by
  obtain ⟨i, hi, hiv⟩ := List.getElem_of_mem hm
  have := h.each i v (by rw [List.getElem?_eq_getElem hi, hiv])
  unfold vOk at this
  simp only [Bool.and_eq_true, decide_eq_true_eq] at this
  omega
theorem okC_le {l : List GChainVer} (h : OkC l) {i : Nat} {v : GChainVer} (hv : l[i]? = some v) : ∀ (d : Nat) (w : GChainVer), l[i + d]? = some w → v.Ts ≤ w.Ts
  | 0, w, hw => by rw [Nat.add_zero, hv] at hw; cases hw; exact Int.le_refl _
  | d + 1, w, hw => by
    have hlt := (List.getElem?_eq_some_iff.1 hw).1
    have hg := List.getElem?_eq_getElem (show i + d < l.length by omega)
    have ih := okC_le h hv d _ hg
    have := h.asc (i + d) _ w hg (by rw [Nat.add_assoc]; exact hw)
    omega

/-- How many are seen at or ahead of a time. -/
def pc (l : List GChainVer) (t : Int) : Nat := (plc l t l.length + 1).toNat
theorem pc_le (l : List GChainVer) (t : Int) : pc l t ≤ l.length := by
  obtain ⟨h1, h2, _, _⟩ := plc_spec l t l.length (Nat.le_refl _)
  unfold pc; omega
theorem plc_pc (l : List GChainVer) (t : Int) : plc l t l.length = (pc l t : Int) - 1 := by
  obtain ⟨h1, h2, _, _⟩ := plc_spec l t l.length (Nat.le_refl _)
  unfold pc; omega
theorem pc_iff {l : List GChainVer} (h : OkC l) (t : Int) {i : Nat} {v : GChainVer} (hv : l[i]? = some v) : i < pc l t ↔ v.Ts ≤ t := by
  obtain ⟨h1, h2, h3, h4⟩ := plc_spec l t l.length (Nat.le_refl _)
  have hp := plc_pc l t
  have hlt := (List.getElem?_eq_some_iff.1 hv).1
  constructor
  · intro hi
    have hk : pc l t - 1 < l.length := by have := pc_le l t; omega
    have hg := List.getElem?_eq_getElem hk
    have h5 := h3 (pc l t - 1) _ (by omega) hg
    have h6 := okC_le h hv (pc l t - 1 - i) _ (by rw [show i + (pc l t - 1 - i) = pc l t - 1 by omega]; exact hg)
    omega
  · intro ht
    rcases Nat.lt_or_ge i (pc l t) with hi | hi
    · exact hi
    · have := h4 i v (by omega) hlt hv
      omega
/-- It is the only number that parts them so. -/
theorem pc_eq {l : List GChainVer} (h : OkC l) {t : Int} {n : Nat} (hn : n ≤ l.length) (ha : ∀ (i : Nat) v, i < n → l[i]? = some v → v.Ts ≤ t) (hb : ∀ (i : Nat) v, n ≤ i → l[i]? = some v → t < v.Ts) : pc l t = n := by
  have h1 := pc_le l t
  rcases Nat.lt_trichotomy (pc l t) n with hl | hl | hl
  · have hg := List.getElem?_eq_getElem (show pc l t < l.length by omega)
    have := (pc_iff h t hg).2 (ha _ _ hl hg)
    omega
  · exact hl
  · have hg := List.getElem?_eq_getElem (show n < l.length by omega)
    have := (pc_iff h t hg).1 hl
    have := hb _ _ (Nat.le_refl _) hg
    omega
theorem pc_drop {l : List GChainVer} (h : OkC l) (t : Int) (n : Nat) (hn : n ≤ l.length) : pc (l.drop n) t = pc l t - n := by
  have h1 := pc_le l t
  refine pc_eq (okC_drop h n) (by simp; omega) (fun i v hi hv => ?_) (fun i v hi hv => ?_)
  · rw [List.getElem?_drop] at hv
    exact (pc_iff h t hv).1 (by omega)
  · rw [List.getElem?_drop] at hv
    rcases Nat.lt_or_ge (n + i) (pc l t) with hlt | hge
    · omega
    · have := mt (pc_iff h t hv).2 (by omega)
      omega
theorem pc_mono {l : List GChainVer} (h : OkC l) {s t : Int} (hst : s ≤ t) : pc l s ≤ pc l t := by
  rcases Nat.lt_or_ge (pc l t) (pc l s) with hl | hl
  · have h1 := pc_le l s
    have hg := List.getElem?_eq_getElem (show pc l t < l.length by omega)
    have h2 := (pc_iff h s hg).1 hl
    have := (pc_iff h t hg).2 (by omega)
    omega
  · exact hl

theorem at0 {c : GChainChain} (h : c.L.length ≤ 1000) {t : Int} (hp : pc c.L t = 0) : m64_chain_At c t = some (⟨0, [], false⟩, false) :=
  at_none h (by rw [plc_pc, hp]; rfl)
theorem at1 {c : GChainChain} (h : c.L.length ≤ 1000) {t : Int} {v : GChainVer} (hp : 0 < pc c.L t) (hv : c.L[pc c.L t - 1]? = some v) : m64_chain_At c t = some (v, true) :=
  at_some h (by rw [plc_pc]; omega) hv

theorem later_drop {l : List GChainVer} (h : OkC l) (t : Int) : later7 l t = l.drop (pc l t) := by
  unfold later7
  conv => lhs; rw [← List.take_append_drop (pc l t) l]
  rw [List.filter_append]
  have h1 : (l.take (pc l t)).filter (fun v => decide (t < v.Ts)) = [] := by
    rw [List.filter_eq_nil_iff]
    intro v hm
    obtain ⟨i, hi, hiv⟩ := List.getElem_of_mem hm
    have hi' : i < pc l t := by rw [List.length_take] at hi; omega
    have hv : l[i]? = some v := by
      have := List.getElem?_eq_getElem hi
      rw [hiv, List.getElem?_take, if_pos hi'] at this
      exact this
    have := (pc_iff h t hv).1 hi'
    simp; omega
  have h2 : (l.drop (pc l t)).filter (fun v => decide (t < v.Ts)) = l.drop (pc l t) := by
    rw [List.filter_eq_self]
    intro v hm
    obtain ⟨i, hi, hiv⟩ := List.getElem_of_mem hm
    have hv : l[pc l t + i]? = some v := by
      have := List.getElem?_eq_getElem hi
      rw [hiv, List.getElem?_drop] at this
      exact this
    have := mt (pc_iff h t hv).2 (by omega)
    simp; omega
  rw [h1, h2, List.nil_append]

theorem gone_eq (l : List GChainVer) (t : Int) : (pc l t = 0 ∧ gone l t = 0) ∨ ∃ v, 0 < pc l t ∧ l[pc l t - 1]? = some v ∧ gone l t = if v.Del then pc l t else pc l t - 1 := by
  have hp := plc_pc l t
  have hle := pc_le l t
  rcases Nat.eq_zero_or_pos (pc l t) with h0 | h0
  · left
    refine ⟨h0, ?_⟩
    unfold gone
    split
    · rw [if_pos (by omega)]
    · rfl
  · right
    have hg := List.getElem?_eq_getElem (show pc l t - 1 < l.length by omega)
    refine ⟨_, h0, hg, ?_⟩
    unfold gone
    rw [show (plc l t l.length).toNat = pc l t - 1 by omega, hg]
    dsimp only
    rw [if_neg (by omega), show pc l t - 1 + 1 = pc l t by omega]
theorem gone_le (l : List GChainVer) (t : Int) : gone l t ≤ pc l t := by
  rcases gone_eq l t with ⟨h1, h2⟩ | ⟨v, h1, h2, h3⟩
  · omega
  · rw [h3]; split <;> omega



theorem same_self (l : List GR07Ver) (h : l.length ≤ 1000) : m49_r07_Same l l = some true := by rw [same_eq l l h]; simp

/-- Who looks from a time on sees what was seen. -/
theorem value_drop {c : GChainChain} (h : c.L.length ≤ 60) (hk : OkC c.L) {o t : Int} (hot : o ≤ t) : ∃ r, m39_chain_Value c t = some r ∧ m39_chain_Value ⟨c.L.drop (gone c.L o)⟩ t = some r := by
  have hm := pc_mono hk hot
  have hle := pc_le c.L t
  have hgl := gone_le c.L o
  have hlc : c.L.length ≤ 1000 := by omega
  have hld : (c.L.drop (gone c.L o)).length ≤ 1000 := by simp; omega
  have hpd : pc (c.L.drop (gone c.L o)) t = pc c.L t - gone c.L o := pc_drop hk t _ (by omega)
  have self : ∃ v b, m64_chain_At c t = some (v, b) := by
    rcases Nat.eq_zero_or_pos (pc c.L t) with h0 | h0
    · exact ⟨_, _, at0 hlc h0⟩
    · exact ⟨_, _, at1 hlc h0 (List.getElem?_eq_getElem (by omega))⟩
  rcases gone_eq c.L o with ⟨_, h2⟩ | ⟨v, h1, h2, h3⟩
  · obtain ⟨v, b, hv⟩ := self
    rw [h2]
    exact ⟨_, value_of hv, value_of hv⟩
  · have hg := List.getElem?_eq_getElem (show pc c.L t - 1 < c.L.length by omega)
    have at_c := at1 (c := c) hlc (t := t) (by omega) hg
    by_cases hz : pc c.L t = gone c.L o
    · have hd : v.Del = true := by
        cases hd : v.Del with
        | true => rfl
        | false => rw [hd] at h3; simp at h3; omega
      have e1 : pc c.L t = pc c.L o := by omega
      have hgv : c.L[pc c.L t - 1]'(by omega) = v := by
        have : c.L[pc c.L t - 1]? = some v := by rw [e1]; exact h2
        rw [hg] at this; exact Option.some.inj this
      have at_d := at0 (c := ⟨c.L.drop (gone c.L o)⟩) hld (t := t) (by show pc (c.L.drop (gone c.L o)) t = 0; omega)
      refine ⟨_, value_of at_c, ?_⟩
      rw [value_of at_d, hgv, hd]
      rfl
    · have hlt : gone c.L o < pc c.L t := by omega
      have at_d := at1 (c := ⟨c.L.drop (gone c.L o)⟩) hld (t := t) (v := c.L[pc c.L t - 1]'(by omega)) (by show 0 < pc (c.L.drop (gone c.L o)) t; omega) (by
        show (c.L.drop (gone c.L o))[pc (c.L.drop (gone c.L o)) t - 1]? = _
        rw [hpd, List.getElem?_drop, ← hg]
        congr 1
        omega)
      exact ⟨_, value_of at_c, value_of at_d⟩

theorem ts_pos {l : List GChainVer} (h : OkC l) {i : Nat} {v : GChainVer} (hv : l[i]? = some v) : 1 ≤ v.Ts := by
  have := h.each i v hv
  unfold vOk at this
  simp only [Bool.and_eq_true, decide_eq_true_eq] at this
  omega

end Go.Proofs.Ytbojepclnfnmcaa.Abs
