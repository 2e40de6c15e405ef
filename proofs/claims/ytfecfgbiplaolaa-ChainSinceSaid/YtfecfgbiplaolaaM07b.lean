/-
  Versions: which is seen, which are left, which came later.
-/
import Derived.Test.YtfecfgbiplaolaaM07
namespace Go.Proofs.Ytfecfgbiplaolaa.Abs

/-! Turned round -/
theorem reverse_eq (xs : List GChainVer) (h : xs.length ≤ 1000) : m37_slices_Reverses xs = some xs.reverse := by
  obtain ⟨x, hx, hR⟩ := iter_inv (f := m37_slices_Reverses_s1) (P := fun s => ∃ (i : Nat) (cur : List GChainVer), i ≤ xs.length ∧ s = ((i : Int), (xs.length : Int) - 1 - i, cur) ∧ cur.length = xs.length ∧ 2 * i ≤ xs.length + 1 ∧ ∀ k, k < xs.length → cur[k]? = if k < i ∨ xs.length ≤ k + i then xs[xs.length - 1 - k]? else xs[k]?) (μ := fun s => xs.length - s.1.toNat)
    (R := fun x => x = .inl xs.reverse) (by
    rintro _ ⟨i, cur, hi, rfl, hcl, h2, hc⟩
    unfold m37_slices_Reverses_s1
    dsimp only
    by_cases hlt : (i : Int) < (xs.length : Int) - 1 - i
    · left
      rw [if_pos (decide_eq_true hlt)]
      have hj : (xs.length : Int) - 1 - i = ((xs.length - 1 - i : Nat) : Int) := by omega
      have hci : cur[i]? = xs[i]? := by rw [hc i (by omega), if_neg (by omega)]
      have hcj : cur[xs.length - 1 - i]? = xs[xs.length - 1 - i]? := by rw [hc _ (by omega), if_neg (by omega)]
      have gi := List.getElem?_eq_getElem (show i < xs.length by omega)
      have gj := List.getElem?_eq_getElem (show xs.length - 1 - i < xs.length by omega)
      rw [gi] at hci
      rw [gj] at hcj
      generalize xs[i]'(by omega) = a at gi hci
      generalize xs[xs.length - 1 - i]'(by omega) = b at gj hcj
      rw [hj]
      simp only [idx_nat, hci, hcj, Option.bind_some, Int.toNat_natCast]
      have hset : (cur.set i b)[xs.length - 1 - i]? = some b := by
        rw [List.getElem?_set_ne (by omega), hcj]
      rw [hset, Option.bind_some]
      refine ⟨_, rfl, ⟨i + 1, (cur.set i b).set (xs.length - 1 - i) a, by omega, ?_, by rw [List.length_set, List.length_set, hcl], by omega, fun k hk => ?_⟩, ?_⟩
      · rw [wn (by omega), wI_id (by omega) (by omega)]
        refine Prod.ext rfl (Prod.ext ?_ rfl)
        show ((xs.length - 1 - i : Nat) : Int) - 1 = (xs.length : Int) - 1 - ((i + 1 : Nat) : Int)
        omega
      · rw [List.getElem?_set, List.getElem?_set]
        by_cases e1 : xs.length - 1 - i = k
        · rw [if_pos e1, if_pos (by rw [List.length_set, hcl]; omega), if_pos (by omega), show xs.length - 1 - k = i by omega, gi]
        · rw [if_neg e1]
          by_cases e2 : i = k
          · rw [if_pos e2, if_pos (by omega), if_pos (by omega), ← e2, gj]
          · rw [if_neg e2, hc k hk]
            by_cases e3 : k < i ∨ xs.length ≤ k + i
            · rw [if_pos e3, if_pos (by omega)]
            · rw [if_neg e3, if_neg (by omega)]
      · show xs.length - (wI ((i : Int) + 1)).toNat < xs.length - ((i : Int)).toNat
        rw [wn (by omega)]
        omega
    · right; right
      rw [if_neg (by simpa using hlt)]
      refine ⟨_, rfl, ?_⟩
      congr 1
      refine List.ext_getElem? fun k => ?_
      by_cases hk : k < xs.length
      · rw [hc k hk, List.getElem?_reverse hk]
        split
        · rfl
        · congr 1
          omega
      · rw [List.getElem?_eq_none (by omega), List.getElem?_eq_none (by simp; omega)]) fuel (0, (xs.length : Int) - 1, xs) ⟨0, xs, Nat.zero_le _, by simp, rfl, by omega, fun k hk => by rw [if_neg (by omega)]⟩ (lt_fuel (by show xs.length - 0 ≤ _; omega))
  unfold m37_slices_Reverses
  rw [wI_id (by omega) (by omega), hx, hR]
  rfl

/-! Which is seen -/
def plc (l : List GChainVer) (t : Int) : Nat → Int
  | 0 => -1
  | n + 1 => match l[n]? with
    | some v => if v.Ts ≤ t then (n : Int) else plc l t n
    | none => -1

theorem seen_go (l : List GChainVer) (t : Int) : ∀ (n : Nat) (s : Int), n ≤ l.length → ∃ e, rangeL (m29_chain_seen_r1 t) (it39d l n) s = some e ∧ rangeK m29_chain_seen_k2 m29_chain_seen_k3 (fun _ _ => none) e = some (plc l t n)
  | 0, s, _ => ⟨_, rfl, rfl⟩
  | n + 1, s, h => by
    rw [it39d_succ (by omega)]
    have hg := List.getElem?_eq_getElem (show n < l.length by omega)
    generalize l[n]'(by omega) = v at hg
    unfold rangeL m29_chain_seen_r1 plc
    rw [hg]
    dsimp only
    by_cases ht : v.Ts ≤ t
    · rw [if_pos (decide_eq_true ht), if_pos ht]
      exact ⟨_, rfl, rfl⟩
    · rw [if_neg (by simpa using ht), if_neg ht]
      exact seen_go l t n s (by omega)
theorem seen_eq {c : GChainChain} (h : c.L.length ≤ 1000) (t : Int) : m29_chain_seen c t = some (plc c.L t c.L.length) := by
  obtain ⟨e, h1, h2⟩ := seen_go c.L t c.L.length 0 (Nat.le_refl _)
  unfold m29_chain_seen
  rw [it39_eq h, Option.bind_some, h1, Option.bind_some, h2]

theorem plc_spec (l : List GChainVer) (t : Int) : ∀ n, n ≤ l.length → -1 ≤ plc l t n ∧ plc l t n < n ∧ (∀ k v, plc l t n = ((k : Nat) : Int) → l[k]? = some v → v.Ts ≤ t) ∧ ∀ (j : Nat) v, plc l t n < j → j < n → l[j]? = some v → t < v.Ts
  | 0, _ => ⟨by show (-1 : Int) ≤ -1; omega, by show (-1 : Int) < ((0 : Nat) : Int); omega, fun k v h => by have h' : (-1 : Int) = k := h; omega, fun j v _ h => by omega⟩
  | n + 1, h => by
    have hg := List.getElem?_eq_getElem (show n < l.length by omega)
    generalize l[n]'(by omega) = u at hg
    obtain ⟨h1, h2, h3, h4⟩ := plc_spec l t n (by omega)
    unfold plc
    rw [hg]
    dsimp only
    by_cases ht : u.Ts ≤ t
    · rw [if_pos ht]
      refine ⟨by omega, by omega, fun k v hk hv => ?_, fun j v hj1 hj2 hv => by omega⟩
      have : k = n := by omega
      subst this
      rw [hg] at hv; cases hv; exact ht
    · rw [if_neg ht]
      refine ⟨h1, by omega, h3, fun j v hj1 hj2 hv => ?_⟩
      by_cases e : j = n
      · subst e; rw [hg] at hv; cases hv; omega
      · exact h4 j v hj1 (by omega) hv

theorem rplace_eq {c : GR07Chain} (h : c.L.length ≤ 1000) (t : Int) : m30_r07_place c t = some (plc (c.L.map cv) t c.L.length) := by
  obtain ⟨x, hx, hR⟩ := iterB_inv (f := m30_r07_place_s2 c t) (P := fun s => ∃ i : Nat, i ≤ c.L.length ∧ s = (plc (c.L.map cv) t i, (i : Int))) (μ := fun s => c.L.length - s.2.toNat) (R := fun x => x = plc (c.L.map cv) t c.L.length) (by
    rintro _ ⟨i, hi, rfl⟩
    unfold m30_r07_place_s2
    dsimp only
    rcases Nat.lt_or_ge i c.L.length with hlt | hge
    · left
      rw [if_pos (decide_eq_true (by omega)), idx_nat]
      have hg := List.getElem?_eq_getElem hlt
      generalize c.L[i] = v at hg
      rw [hg, Option.bind_some, wn (by omega)]
      have hgm : (c.L.map cv)[i]? = some (cv v) := by rw [List.getElem?_map, hg]; rfl
      have hp : plc (c.L.map cv) t (i + 1) = if v.Ts ≤ t then (i : Int) else plc (c.L.map cv) t i := by
        show (match (c.L.map cv)[i]? with
          | some v => if v.Ts ≤ t then (i : Int) else plc (c.L.map cv) t i
          | none => -1) = _
        rw [hgm]
        rfl
      by_cases ht : v.Ts ≤ t
      · rw [if_pos (decide_eq_true ht)]
        exact ⟨_, rfl, ⟨i + 1, hlt, by rw [hp, if_pos ht]⟩, by simp only [Int.toNat_natCast]; omega⟩
      · rw [if_neg (by simpa using ht)]
        exact ⟨_, rfl, ⟨i + 1, hlt, by rw [hp, if_neg ht]⟩, by simp only [Int.toNat_natCast]; omega⟩
    · right
      rw [if_neg (by simp; omega)]
      refine ⟨_, rfl, ?_⟩
      rw [show i = c.L.length by omega]) fuel (-1, 0) ⟨0, Nat.zero_le _, rfl⟩ (lt_fuel (by show c.L.length - 0 ≤ _; omega))
  unfold m30_r07_place
  rw [hx, hR]
  rfl

/-- At, Value: by what is seen. -/
theorem at_none {c : GChainChain} (h : c.L.length ≤ 1000) {t : Int} (hp : plc c.L t c.L.length = -1) : m11_chain_At c t = some (⟨0, [], false⟩, false) := by
  unfold m11_chain_At
  rw [seen_eq h, hp]
  rfl
theorem at_some {c : GChainChain} (h : c.L.length ≤ 1000) {t : Int} {k : Nat} {v : GChainVer} (hp : plc c.L t c.L.length = k) (hv : c.L[k]? = some v) : m11_chain_At c t = some (v, true) := by
  unfold m11_chain_At
  rw [seen_eq h, hp, Option.bind_some, if_neg (by simp only [decide_eq_true_eq]; omega), idx_nat, hv]
  rfl
theorem at_cases (c : GChainChain) (t : Int) : (plc c.L t c.L.length = -1) ∨ ∃ (k : Nat) (v : GChainVer), plc c.L t c.L.length = k ∧ c.L[k]? = some v := by
  obtain ⟨h1, h2, _, _⟩ := plc_spec c.L t c.L.length (Nat.le_refl _)
  by_cases h0 : plc c.L t c.L.length = -1
  · exact .inl h0
  · refine .inr ⟨(plc c.L t c.L.length).toNat, c.L[(plc c.L t c.L.length).toNat]'(by omega), by omega, List.getElem?_eq_getElem (by omega)⟩

theorem at_both {c : GR07Chain} (h : c.L.length ≤ 1000) (t : Int) : ∃ x b, m12_r07_At c t = some (x, b) ∧ m11_chain_At ⟨c.L.map cv⟩ t = some (cv x, b) := by
  have hl : (c.L.map cv).length = c.L.length := by simp
  rcases at_cases ⟨c.L.map cv⟩ t with h0 | ⟨k, v, hk, hv⟩
  · refine ⟨⟨0, [], false⟩, false, ?_, at_none (by simpa using h) h0⟩
    have h0' : plc (c.L.map cv) t c.L.length = -1 := by rw [← hl]; exact h0
    unfold m12_r07_At
    rw [rplace_eq h, h0']
    rfl
  · have hk' : plc (c.L.map cv) t c.L.length = k := by rw [← hl]; exact hk
    have hv' : (c.L.map cv)[k]? = some v := hv
    rw [List.getElem?_map] at hv'
    cases hx : c.L[k]? with
    | none => rw [hx] at hv'; cases hv'
    | some x =>
      rw [hx] at hv'; cases hv'
      refine ⟨x, true, ?_, at_some (by simpa using h) hk hv⟩
      unfold m12_r07_At
      rw [rplace_eq h, hk', Option.bind_some, if_neg (by simp only [decide_eq_true_eq]; omega), idx_nat, hx]
      rfl
theorem value_of {c : GChainChain} {t : Int} {v : GChainVer} {b : Bool} (h : m11_chain_At c t = some (v, b)) : m13_chain_Value c t = some (if b && !v.Del then (v.Val, true) else ([], false)) := by
  unfold m13_chain_Value m13_chain_Value_k2
  rw [h, Option.bind_some]
  cases b <;> cases v.Del <;> simp
theorem rvalue_of {c : GR07Chain} {t : Int} {v : GR07Ver} {b : Bool} (h : m12_r07_At c t = some (v, b)) : m14_r07_Value c t = some (if b && !v.Del then (v.Val, true) else ([], false)) := by
  unfold m14_r07_Value m14_r07_Value_k2
  rw [h, Option.bind_some]
  cases b <;> cases v.Del <;> simp

/-! The last one -/
def lastTs (l : List GChainVer) : Int := match l[l.length - 1]? with
  | some v => v.Ts
  | none => 0
theorem last_eq {c : GChainChain} (h : c.L.length ≤ 1000) : m22_chain_Last c = some (lastTs c.L) := by
  unfold m22_chain_Last lastTs
  rw [it39_eq h, Option.bind_some]
  cases hn : c.L.length with
  | zero =>
    have : c.L = [] := List.eq_nil_of_length_eq_zero hn
    rw [this]
    rfl
  | succ n =>
    rw [it39d_succ (by omega), Nat.add_sub_cancel, List.getElem?_eq_getElem (show n < c.L.length by omega)]
    rfl
theorem rlast_eq {c : GR07Chain} (h : c.L.length ≤ 1000) : m23_r07_Last c = some (lastTs (c.L.map cv)) := by
  unfold m23_r07_Last lastTs
  by_cases h0 : (c.L.length : Int) = 0
  · have : c.L = [] := List.eq_nil_of_length_eq_zero (by omega)
    rw [this]
    rfl
  · rw [if_neg (by simpa using h0), wI_id (by omega) (by omega), show (c.L.length : Int) - 1 = ((c.L.length - 1 : Nat) : Int) by omega, idx_nat, List.length_map, List.getElem?_map]
    have hg := List.getElem?_eq_getElem (show c.L.length - 1 < c.L.length by omega)
    rw [hg]
    rfl

/-! One more -/
theorem push_not {c : GChainChain} (h : c.L.length ≤ 1000) {v : GChainVer} (hk : ¬ OkC c.L ∨ vOk v = false) : m15_chain_Push c v = some (⟨[]⟩, 1) := by
  unfold m15_chain_Push
  rcases sane_cases (c := ⟨c.L⟩) h with ⟨h1, h2⟩ | ⟨h1, h2⟩
  · rw [h1, Option.bind_some, sv_eq, Option.bind_some]
    rcases hk with hk | hk
    · exact absurd h2 hk
    · rw [hk]; rfl
  · rw [h1]; rfl
theorem push_old {c : GChainChain} (h : c.L.length ≤ 1000) {v : GChainVer} (hk : OkC c.L) (hv : vOk v = true) (hl : v.Ts ≤ lastTs c.L) : m15_chain_Push c v = some (⟨[]⟩, 7) := by
  unfold m15_chain_Push
  rcases sane_cases (c := ⟨c.L⟩) h with ⟨h1, h2⟩ | ⟨h1, h2⟩
  · rw [h1, Option.bind_some, sv_eq, Option.bind_some, hv]
    unfold m15_chain_Push_k1
    rw [last_eq h, Option.bind_some, if_pos (decide_eq_true hl)]
    rfl
  · exact absurd hk h2
theorem push_new {c : GChainChain} (h : c.L.length ≤ 1000) {v : GChainVer} (hk : OkC c.L) (hv : vOk v = true) (hl : lastTs c.L < v.Ts) : m15_chain_Push c v = some (⟨c.L ++ [v]⟩, 0) := by
  unfold m15_chain_Push
  rcases sane_cases (c := ⟨c.L⟩) h with ⟨h1, h2⟩ | ⟨h1, h2⟩
  · rw [h1, Option.bind_some, sv_eq, Option.bind_some, hv]
    unfold m15_chain_Push_k1
    have hn : ¬ (decide (v.Ts ≤ lastTs c.L) = true) := by rw [decide_eq_true_eq]; omega
    rw [last_eq h, Option.bind_some, if_neg hn, m32_slices_Concato_m _ (by simp; omega) (by simp)]
    simp
  · exact absurd hk h2

theorem okC_one (v : GR07Ver) : OkC ([v].map cv) ↔ vOk (cv v) = true := by
  constructor
  · intro h; exact h.each 0 (cv v) rfl
  · intro h
    refine ⟨fun i u hu => ?_, fun i u w hu hw => ?_⟩
    · cases i with
      | zero => cases hu; exact h
      | succ i => simp at hu
    · simp at hw

theorem push_both {c : GR07Chain} (h : c.L.length ≤ 60) (v : GR07Ver) : ∃ q e, m17_r07_Push c v = some (q, e) ∧ m15_chain_Push ⟨c.L.map cv⟩ (cv v) = some (⟨q.L.map cv⟩, e) ∧ q.L.length ≤ 1000 := by
  have hl : (c.L.map cv).length ≤ 1000 := by simp; omega
  unfold m17_r07_Push
  rcases rsane_cases (c := c) (by omega) with ⟨h1, h2⟩ | ⟨h1, h2⟩
  · rw [h1, Option.bind_some, if_neg (by simp)]
    rcases rsane_cases (c := ⟨[v]⟩) (by simp) with ⟨h3, h4⟩ | ⟨h3, h4⟩
    · rw [h3, Option.bind_some, if_neg (by simp)]
      have hv := (okC_one v).1 h4
      unfold m17_r07_Push_k1
      rw [rlast_eq (by omega), Option.bind_some]
      by_cases hlt : v.Ts ≤ lastTs (c.L.map cv)
      · rw [if_pos (decide_eq_true hlt)]
        exact ⟨_, _, rfl, push_old (c := ⟨c.L.map cv⟩) hl h2 hv hlt, by simp⟩
      · rw [if_neg (by simpa using hlt), if_pos (by simp; omega), if_pos (by simp; omega)]
        refine ⟨_, _, rfl, ?_, by simp; omega⟩
        rw [push_new (c := ⟨c.L.map cv⟩) hl h2 hv (show lastTs (c.L.map cv) < v.Ts by omega)]
        simp
    · rw [h3, Option.bind_some, if_pos (by simp)]
      refine ⟨_, _, rfl, push_not (c := ⟨c.L.map cv⟩) hl (.inr ?_), by simp⟩
      cases hv : vOk (cv v) with
      | false => rfl
      | true => exact absurd ((okC_one v).2 hv) h4
  · rw [h1, Option.bind_some, if_pos (by simp)]
    exact ⟨_, _, rfl, push_not (c := ⟨c.L.map cv⟩) hl (.inl h2), by simp⟩

/-! Those that nobody sees -/
/-- How many go. -/
def gone (l : List GChainVer) (t : Int) : Nat := match l[(plc l t l.length).toNat]? with
  | some v => if plc l t l.length < 0 then 0 else if v.Del then (plc l t l.length).toNat + 1 else (plc l t l.length).toNat
  | none => 0
theorem vac_eq {c : GChainChain} (h : c.L.length ≤ 1000) (hk : OkC c.L) (t : Int) : m24_chain_Vacuum c t = some ⟨c.L.drop (gone c.L t)⟩ := by
  obtain ⟨p1, p2, _, _⟩ := plc_spec c.L t c.L.length (Nat.le_refl _)
  unfold m24_chain_Vacuum gone
  rw [seen_eq h, Option.bind_some]
  by_cases h0 : plc c.L t c.L.length < 0
  · rw [if_pos (decide_eq_true h0)]
    split
    · rw [if_pos h0]; rfl
    · rfl
  · rw [if_neg (by simpa using h0)]
    rcases sane_cases (c := ⟨c.L⟩) h with ⟨h1, h2⟩ | ⟨h1, h2⟩
    · rw [h1, Option.bind_some, if_neg (by simp)]
      unfold m24_chain_Vacuum_k2
      have hg := List.getElem?_eq_getElem (show (plc c.L t c.L.length).toNat < c.L.length by omega)
      generalize c.L[(plc c.L t c.L.length).toNat]'(by omega) = v at hg
      rw [idx_of (by omega) hg, Option.bind_some, hg]
      dsimp only
      rw [if_neg h0]
      have key : ∀ j : Nat, j ≤ c.L.length → m24_chain_Vacuum_k4 c (j : Int) = some ⟨c.L.drop j⟩ := fun j hj => by
        unfold m24_chain_Vacuum_k4
        rw [cut_of (by omega) (by omega) (by omega), Option.bind_some]
        have : (c.L.drop ((j : Int)).toNat).take (((c.L.length : Int)).toNat - ((j : Int)).toNat) = c.L.drop j := by
          rw [Int.toNat_natCast, Int.toNat_natCast]
          exact List.take_of_length_le (by simp)
        rw [this, m35_slices_Cloneo_m _ (by simp; omega)]
        rfl
      cases hd : v.Del with
      | true =>
        rw [if_pos rfl, if_pos rfl, wI_id (by omega) (by omega)]
        have := key ((plc c.L t c.L.length).toNat + 1) (by omega)
        rw [show (((plc c.L t c.L.length).toNat + 1 : Nat) : Int) = plc c.L t c.L.length + 1 by omega] at this
        exact this
      | false =>
        rw [if_neg (by simp), if_neg (by simp)]
        have := key ((plc c.L t c.L.length).toNat) (by omega)
        rw [show (((plc c.L t c.L.length).toNat : Nat) : Int) = plc c.L t c.L.length by omega] at this
        exact this
    · exact absurd hk h2
theorem vac_not {c : GChainChain} (h : c.L.length ≤ 1000) (hk : ¬ OkC c.L) (t : Int) : m24_chain_Vacuum c t = some c := by
  unfold m24_chain_Vacuum
  rw [seen_eq h, Option.bind_some]
  by_cases h0 : plc c.L t c.L.length < 0
  · rw [if_pos (decide_eq_true h0)]
  · rw [if_neg (by simpa using h0)]
    rcases sane_cases (c := ⟨c.L⟩) h with ⟨h1, h2⟩ | ⟨h1, h2⟩
    · exact absurd h2 hk
    · rw [h1]
      rfl
theorem vac_both {c : GR07Chain} (h : c.L.length ≤ 60) (t : Int) : ∃ q, m25_r07_Vacuum c t = some q ∧ m24_chain_Vacuum ⟨c.L.map cv⟩ t = some ⟨q.L.map cv⟩ ∧ q.L.length ≤ 1000 := by
  have hl : (c.L.map cv).length ≤ 1000 := by simp; omega
  have hlm : (c.L.map cv).length = c.L.length := by simp
  obtain ⟨p1, p2, _, _⟩ := plc_spec (c.L.map cv) t (c.L.map cv).length (Nat.le_refl _)
  unfold m25_r07_Vacuum
  rw [rplace_eq (by omega), Option.bind_some]
  rcases rsane_cases (c := c) (by omega) with ⟨h1, h2⟩ | ⟨h1, h2⟩
  · rw [h1, Option.bind_some, if_neg (by simp), vac_eq (c := ⟨c.L.map cv⟩) hl h2]
    unfold gone
    dsimp only
    rw [hlm] at p1 p2 ⊢
    by_cases h0 : plc (c.L.map cv) t c.L.length < 0
    · rw [if_pos (decide_eq_true h0)]
      refine ⟨_, rfl, ?_, by omega⟩
      split
      · rw [if_pos h0]; rfl
      · rfl
    · rw [if_neg (by simpa using h0)]
      unfold m25_r07_Vacuum_k2
      have hg := List.getElem?_eq_getElem (show (plc (c.L.map cv) t c.L.length).toNat < c.L.length by omega)
      generalize c.L[(plc (c.L.map cv) t c.L.length).toNat]'(by omega) = v at hg
      rw [idx_of (by omega) hg, Option.bind_some, List.getElem?_map, hg]
      simp only [Option.map_some]
      rw [if_neg h0]
      have key : ∀ j : Nat, j ≤ c.L.length → m25_r07_Vacuum_k4 c (j : Int) = some ⟨c.L.drop j⟩ := fun j hj => by
        unfold m25_r07_Vacuum_k4
        rw [cut_of (by omega) (by omega) (by omega), Option.bind_some]
        have : (c.L.drop ((j : Int)).toNat).take (((c.L.length : Int)).toNat - ((j : Int)).toNat) = c.L.drop j := by
          rw [Int.toNat_natCast, Int.toNat_natCast]
          exact List.take_of_length_le (by simp)
        rw [this]
      cases hd : v.Del with
      | true =>
        have hd' : (cv v).Del = true := hd
        rw [if_pos rfl, hd', if_pos rfl, wI_id (by omega) (by omega)]
        have := key ((plc (c.L.map cv) t c.L.length).toNat + 1) (by omega)
        rw [show (((plc (c.L.map cv) t c.L.length).toNat + 1 : Nat) : Int) = plc (c.L.map cv) t c.L.length + 1 by omega] at this
        exact ⟨_, this, by simp [List.map_drop], by simp; omega⟩
      | false =>
        have hd' : (cv v).Del = false := hd
        rw [if_neg (by simp), hd', if_neg (by simp)]
        have := key ((plc (c.L.map cv) t c.L.length).toNat) (by omega)
        rw [show (((plc (c.L.map cv) t c.L.length).toNat : Nat) : Int) = plc (c.L.map cv) t c.L.length by omega] at this
        exact ⟨_, this, by simp [List.map_drop], by simp; omega⟩
  · rw [h1, Option.bind_some, if_pos (by simp)]
    exact ⟨_, rfl, vac_not (c := ⟨c.L.map cv⟩) hl h2 t, by omega⟩

/-! Those that came later -/
def later7 (l : List GChainVer) (t : Int) : List GChainVer := l.filter fun v => decide (t < v.Ts)
theorem since_go (l : List GChainVer) (t : Int) (hv : ∀ v ∈ l, v.Val.length ≤ 100) (hl : l.length ≤ 1000) : ∀ (n : Nat) (s : List GChainVer), n ≤ l.length → s.length + n ≤ 1000 → rangeL (m26_chain_Since_r1 t) (it39d l n) s = some (.inl (s ++ (later7 (l.take n) t).reverse))
  | 0, s, _, _ => by simp [it39d, rangeL, later7]
  | n + 1, s, h, hs => by
    rw [it39d_succ (by omega)]
    have hn : n < l.length := by omega
    have htk := List.take_succ_eq_append_getElem hn
    have hm := hv l[n] (List.getElem_mem hn)
    rw [htk]
    generalize l[n] = v at *
    rw [rangeL]
    by_cases ht : t < v.Ts
    · have hr1 : m26_chain_Since_r1 t s ((n : Int), v) = some (.inl (s ++ [v])) := by
        unfold m26_chain_Since_r1
        dsimp only
        rw [if_pos (decide_eq_true ht), m36_bytes_Cloneo_m _ (by omega), Option.bind_some, if_pos (by simp; omega)]
      rw [hr1]
      dsimp only
      rw [since_go l t hv hl n _ (by omega) (by simp; omega)]
      simp [later7, List.filter_append, ht]
    · have hr1 : m26_chain_Since_r1 t s ((n : Int), v) = some (.inl s) := by
        unfold m26_chain_Since_r1
        dsimp only
        rw [if_neg (by simpa using ht)]
      rw [hr1]
      dsimp only
      rw [since_go l t hv hl n _ (by omega) (by omega)]
      simp [later7, List.filter_append, ht]
theorem since_eq {c : GChainChain} (h : c.L.length ≤ 60) (hv : ∀ v ∈ c.L, v.Val.length ≤ 100) (t : Int) : m26_chain_Since c t = some (later7 c.L t) := by
  unfold m26_chain_Since
  rw [it39_eq (by omega), Option.bind_some, since_go c.L t hv (by omega) c.L.length [] (Nat.le_refl _) (by simp; omega), Option.bind_some, List.take_of_length_le (Nat.le_refl _), List.nil_append]
  have hle : (later7 c.L t).length ≤ c.L.length := List.length_filter_le ..
  show m26_chain_Since_k4 (later7 c.L t).reverse = _
  unfold m26_chain_Since_k4
  rw [reverse_eq _ (by simp; omega), Option.bind_some, if_pos (by simp), List.reverse_reverse]

theorem rsince_eq {c : GR07Chain} (h : c.L.length ≤ 60) (t : Int) : m27_r07_Since c t = some (c.L.filter fun v => decide (t < v.Ts)) := by
  obtain ⟨x, hx, hR⟩ := iterB_inv (f := m27_r07_Since_s2 c t) (P := fun s => ∃ i : Nat, i ≤ c.L.length ∧ s = ((i : Int), (c.L.take i).filter fun v => decide (t < v.Ts))) (μ := fun s => c.L.length - s.1.toNat) (R := fun x => x = c.L.filter fun v => decide (t < v.Ts)) (by
    rintro _ ⟨i, hi, rfl⟩
    unfold m27_r07_Since_s2
    dsimp only
    rcases Nat.lt_or_ge i c.L.length with hlt | hge
    · left
      rw [if_pos (decide_eq_true (by omega)), idx_nat, wn (by omega)]
      have htk := List.take_succ_eq_append_getElem hlt
      have hg := List.getElem?_eq_getElem hlt
      generalize c.L[i] = v at hg htk
      rw [hg]
      simp only [Option.bind_some]
      have hle : ((c.L.take i).filter fun v => decide (t < v.Ts)).length ≤ i := Nat.le_trans (List.length_filter_le ..) (by simp; omega)
      by_cases ht : t < v.Ts
      · rw [if_pos (decide_eq_true ht), if_pos (by simp only [List.length_singleton]; omega)]
        exact ⟨_, rfl, ⟨i + 1, hlt, by rw [htk, List.filter_append]; simp [ht]⟩, by simp only [Int.toNat_natCast]; omega⟩
      · rw [if_neg (by simpa using ht)]
        exact ⟨_, rfl, ⟨i + 1, hlt, by rw [htk, List.filter_append]; simp [ht]⟩, by simp only [Int.toNat_natCast]; omega⟩
    · right
      rw [if_neg (by simp; omega)]
      refine ⟨_, rfl, ?_⟩
      rw [List.take_of_length_le hge]) fuel (0, []) ⟨0, Nat.zero_le _, rfl⟩ (lt_fuel (by show c.L.length - 0 ≤ _; omega))
  unfold m27_r07_Since
  rw [hx, hR]
  rfl
theorem later_map (l : List GR07Ver) (t : Int) : later7 (l.map cv) t = (l.filter fun v => decide (t < v.Ts)).map cv := by
  unfold later7
  rw [List.filter_map]
  rfl
end Go.Proofs.Ytfecfgbiplaolaa.Abs
