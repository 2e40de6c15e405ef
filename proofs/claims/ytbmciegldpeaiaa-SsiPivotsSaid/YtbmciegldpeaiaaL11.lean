/-
  What Read, Commit, Abort, Clean compute.
-/
import Derived.Test.YtbmciegldpeaiaaK11
namespace Go.Proofs.Ytbmciegldpeaiaa.Abs


theorem clone_m (l : List GSsiTx) (h : l.length ≤ 1000000) : m40_slices_Cloneo l = some l := by
  unfold m40_slices_Cloneo
  rw [if_pos (by simp; omega)]; rfl

/-- What stands in a row after i rounds: at the one place f, at places that were passed g. -/
def midF (l : List GSsiTx) (at' : Nat) (p : GSsiTx → Bool) (f : Bool → GSsiTx → GSsiTx) (g : GSsiTx → GSsiTx) (i j : Nat) (x : GSsiTx) : GSsiTx :=
  if j = at' then f ((l.take i).any p) x else if j < i ∧ p x = true then g x else x
theorem midF_step (l : List GSsiTx) (at' : Nat) (p : GSsiTx → Bool) (f : Bool → GSsiTx → GSsiTx) (g : GSsiTx → GSsiTx) {i : Nat} {x : GSsiTx} (hx : l[i]? = some x) (hp : p x = false) (j : Nat) (y : GSsiTx) (hy : l[j]? = some y) :
    midF l at' p f g (i + 1) j y = midF l at' p f g i j y := by
  obtain ⟨hlt, rfl⟩ := List.getElem?_eq_some_iff.1 hx
  unfold midF
  rw [List.take_succ_eq_append_getElem hlt, List.any_append]
  simp only [List.any_cons, List.any_nil, hp, Bool.or_false]
  split
  · rfl
  · by_cases hji : j < i
    · simp only [show j < i + 1 from by omega, hji]
    · by_cases hj : j = i
      · subst hj
        rw [hx] at hy
        rw [← Option.some.inj hy, hp]; simp
      · simp only [show ¬ j < i + 1 from by omega, hji]

theorem on_m (l : List GSsiTx) (a b : Nat) {x y : GSsiTx} (hne : a ≠ b) (hx : l[a]? = some x) (hy : l[b]? = some y) :
    m44_ssi_effect_ons l (a : Int) (b : Int) = some ((l.set a { x with Out := true }).set b { y with In := true }) := by
  have ha := (List.getElem?_eq_some_iff.1 hx).1
  unfold m44_ssi_effect_ons m64_ssi_passing_1s m65_ssi_passing_2s
  rw [idx_nat, hx]
  simp only [Option.bind_some, Int.toNat_natCast]
  rw [idx_nat, List.getElem?_set_ne hne, hy]
  rfl

theorem pivot_m (x : GSsiTx) : m45_ssi_pivot x = some (x.In && x.Out) := by
  unfold m45_ssi_pivot
  cases x.In <;> rfl

theorem readLoop {c : GSsiCert} (h : SC c) (r : GApiRange) {n : Nat} {a : GSsiTx} (ha : c.Txs[n]? = some a) (h1 : a.State = 1) :
    ∃ v, iter (m19_ssi_Read_s6 r (n : Int) c.Txs) fuel (0, c.Txs) = some v ∧
      (match v with
        | .inl q => q = (cN, 10) ∧ ∃ x ∈ c.Txs, passT a r x = true ∧ x.Out = true
        | .inr l => l = c.Txs.map (readF c.Txs a r) ∧ ∀ x ∈ c.Txs, passT a r x = true → x.Out = false) := by
  have hl := h.len
  have ham := List.mem_of_getElem? ha
  have hpa : passT a r a = false := by unfold passT; rw [h1]; rfl
  let F := midF c.Txs n (passT a r) (fun b x => { x with Out := x.Out || b }) (fun x => { x with In := true })
  refine iter_inv (f := m19_ssi_Read_s6 r (n : Int) c.Txs) (P := fun s => ∃ i : Nat, i ≤ c.Txs.length ∧ s.1 = (i : Int) ∧ s.2.length = c.Txs.length ∧ (∀ (j : Nat) (x : GSsiTx), c.Txs[j]? = some x → s.2[j]? = some (F i j x)) ∧ ∀ x ∈ c.Txs.take i, passT a r x = true → x.Out = false) (μ := fun s => c.Txs.length - s.1.toNat) (R := fun v => match v with
        | .inl q => q = (cN, 10) ∧ ∃ x ∈ c.Txs, passT a r x = true ∧ x.Out = true
        | .inr l => l = c.Txs.map (readF c.Txs a r) ∧ ∀ x ∈ c.Txs, passT a r x = true → x.Out = false) ?_ fuel (0, c.Txs) ⟨0, Nat.zero_le _, rfl, rfl, fun j x hx => ?_, by simp⟩ (lt_fuel (by show c.Txs.length - 0 ≤ _; omega))
  · rintro ⟨_, l⟩ ⟨i, hi, rfl, hll, hF, hno⟩
    dsimp only at hll hF
    unfold m19_ssi_Read_s6
    dsimp only
    rcases Nat.lt_or_ge i c.Txs.length with hlt | hge
    · have hx := List.getElem?_eq_getElem hlt
      generalize c.Txs[i] = x at hx
      have hxm := List.mem_of_getElem? hx
      have hstep : passT a r x = false → ∃ s', (some (LR.cont (wI ((i : Int) + 1), l)) : Option (LR (Int × List GSsiTx) (List GSsiTx) (GSsiCert × Int))) = some (.cont s') ∧ (∃ k : Nat, k ≤ c.Txs.length ∧ s'.1 = (k : Int) ∧ s'.2.length = c.Txs.length ∧ (∀ (j : Nat) (x : GSsiTx), c.Txs[j]? = some x → s'.2[j]? = some (F k j x)) ∧ ∀ x ∈ c.Txs.take k, passT a r x = true → x.Out = false) ∧ c.Txs.length - s'.1.toNat < c.Txs.length - (i : Int).toNat := fun hp => by
        refine ⟨_, rfl, ⟨i + 1, hlt, by rw [wI_id (by omega) (by omega)]; rfl, hll, fun j y hy => ?_, fun y hy hpy => ?_⟩, by rw [wI_id (by omega) (by omega)]; omega⟩
        · show l[j]? = some (midF _ _ _ _ _ (i + 1) j y)
          rw [midF_step _ _ _ _ _ hx hp j y hy]; exact hF j y hy
        · rw [List.take_succ_eq_append_getElem hlt, List.mem_append, List.mem_singleton] at hy
          rcases hy with hy | hy
          · exact hno y hy hpy
          · rw [List.getElem?_eq_getElem hlt] at hx
            rw [hy, Option.some.inj hx, hp] at hpy; cases hpy
      rw [if_pos (decide_eq_true (by omega)), idx_nat, hF i x hx, Option.bind_some]
      by_cases hin : i = n
      · subst hin
        have : x = a := by rw [ha] at hx; exact (Option.some.inj hx).symm
        subst this
        left
        rw [if_pos (by
          show (!decide ((F i i x).State = 2)) = true
          have : (F i i x).State = x.State := by show (midF _ _ _ _ _ i i x).State = _; unfold midF; rw [if_pos rfl]
          rw [this, h1]; rfl)]
        exact hstep hpa
      · have eF : F i i x = x := by show midF _ _ _ _ _ i i x = _; unfold midF; rw [if_neg hin, if_neg (fun e => by omega)]
        rw [eF]
        have hFa : F i n a = { a with Out := a.Out || (c.Txs.take i).any (passT a r) } := by show midF _ _ _ _ _ i n a = _; unfold midF; rw [if_pos rfl]
        by_cases hs : x.State = 2
        · rw [if_neg (by rw [decide_eq_true hs]; decide), idx_nat, hF n a ha, Option.bind_some, beside_a x _ (by rw [hFa]; exact h1), Option.bind_some, decide_eq_true hs, Bool.true_and, Bool.not_not]
          rw [show (F i n a).Begin = a.Begin from by rw [hFa]]
          by_cases he : x.End ≤ a.Begin
          · rw [if_pos (decide_eq_true he)]
            exact .inl (hstep (by unfold passT; rw [decide_eq_true he]; simp))
          · rw [if_neg (by rw [decide_eq_true_eq]; exact he), show (⟨r.Lo, r.Hi, r.Open⟩ : GApiRange) = r from rfl, wroteIn_m x r (by have := h.keys x hxm; omega), Option.bind_some]
            cases hm : metV r x.Keys with
            | false =>
              rw [if_pos (by rfl)]
              exact .inl (hstep (by unfold passT; rw [hm]; simp))
            | true =>
              have hp : passT a r x = true := passT_iff.2 ⟨hs, by omega, hm⟩
              rw [if_neg (nn (by rfl))]
              unfold m19_ssi_Read_k8 m43_ssi_passings
              dsimp only
              rw [Option.bind_some, on_m l n i (fun e => hin e.symm) (hF n a ha) (by rw [hF i x hx, eF]), Option.bind_some, if_pos (by simp), idx_nat, List.getElem?_set_self (by rw [List.length_set]; omega), Option.bind_some, pivot_m, Option.bind_some]
              dsimp only
              rw [Bool.true_and]
              cases ho : x.Out with
              | true =>
                rw [if_pos rfl]
                exact .inr (.inr ⟨_, rfl, rfl, x, hxm, hp, ho⟩)
              | false =>
                rw [if_neg (nn (by rfl))]
                refine .inl ⟨_, rfl, ⟨i + 1, hlt, by rw [wI_id (by omega) (by omega)]; rfl, by simp [hll], fun j y hy => ?_, fun y hy hpy => ?_⟩, by rw [wI_id (by omega) (by omega)]; omega⟩
                · show (List.set _ i _)[j]? = some (midF _ _ _ _ _ (i + 1) j y)
                  have hjl := (List.getElem?_eq_some_iff.1 hy).1
                  unfold midF
                  by_cases hji : j = i
                  · subst hji
                    rw [hx] at hy
                    have := Option.some.inj hy
                    subst this
                    rw [List.getElem?_set_self (by rw [List.length_set]; omega), if_neg hin, if_pos ⟨by omega, hp⟩]
                    dsimp only
                    rw [ho]
                  · rw [List.getElem?_set_ne (fun e => hji e.symm)]
                    by_cases hjn : j = n
                    · subst hjn
                      rw [ha] at hy
                      have := Option.some.inj hy
                      subst this
                      rw [List.getElem?_set_self (by omega), if_pos rfl, List.take_succ_eq_append_getElem hlt, List.any_append, hFa]
                      have : c.Txs[i] = x := by rw [List.getElem?_eq_getElem hlt] at hx; exact Option.some.inj hx
                      rw [this]
                      simp only [List.any_cons, List.any_nil, hp, Bool.or_true, Bool.true_or]
                    · rw [List.getElem?_set_ne (fun e => hjn e.symm), if_neg hjn, hF j y hy]
                      show some (midF _ _ _ _ _ i j y) = _
                      unfold midF
                      rw [if_neg hjn]
                      by_cases hlt' : j < i
                      · simp only [hlt', show j < i + 1 from by omega]
                      · simp only [hlt', show ¬ j < i + 1 from by omega]
                · rw [List.take_succ_eq_append_getElem hlt, List.mem_append, List.mem_singleton] at hy
                  rcases hy with hy | hy
                  · exact hno y hy hpy
                  · rw [List.getElem?_eq_getElem hlt] at hx
                    rw [hy, Option.some.inj hx]; exact ho
        · rw [if_pos (by rw [decide_eq_false hs]; rfl)]
          exact .inl (hstep (by unfold passT; rw [decide_eq_false hs]; rfl))
    · have e : i = c.Txs.length := by omega
      subst e
      rw [if_neg (by rw [decide_eq_true_eq]; omega)]
      refine .inr (.inl ⟨_, rfl, ?_, by rw [List.take_length] at hno; exact hno⟩)
      apply List.ext_getElem?
      intro j
      rw [List.getElem?_map]
      cases hy : c.Txs[j]? with
      | none =>
        have hy := List.getElem?_eq_none_iff.1 hy
        exact List.getElem?_eq_none_iff.2 (by omega)
      | some y =>
        rw [hF j y hy]
        show some (midF _ _ _ _ _ _ j y) = some (readF _ _ _ y)
        have hjl := (List.getElem?_eq_some_iff.1 hy).1
        unfold midF readF
        rw [List.take_length]
        by_cases hjn : j = n
        · subst hjn
          rw [ha] at hy
          have := Option.some.inj hy
          subst this
          rw [if_pos rfl, if_pos rfl]
        · have hne : y.ID ≠ a.ID := fun e => by
            have hya := h.one (List.mem_of_getElem? hy) ham e
            obtain ⟨p1, p2⟩ := List.getElem?_eq_some_iff.1 hy
            obtain ⟨q1, q2⟩ := List.getElem?_eq_some_iff.1 ha
            rcases Nat.lt_or_gt_of_ne hjn with hh | hh
            · have := List.pairwise_iff_getElem.1 h.ids j n p1 q1 hh
              rw [p2, q2] at this; exact this e
            · have := List.pairwise_iff_getElem.1 h.ids n j q1 p1 hh
              rw [p2, q2] at this; exact this e.symm
          rw [if_neg hjn, if_neg hne]
          simp only [hjl, true_and]
  · show c.Txs[j]? = some (midF _ _ _ _ _ 0 j x)
    rw [hx]
    unfold midF
    rw [List.take_zero]
    simp only [List.any_nil, Bool.or_false, Nat.not_lt_zero, false_and, if_false]
    split <;> rfl

/-- Read. -/
theorem read_m {c : GSsiCert} (h : SC c) (id : Int) (r : GApiRange) :
    ((∀ x ∈ c.Txs, x.ID = id → x.State ≠ 1) ∧ m19_ssi_Read c id r = some (cN, 7)) ∨
    ∃ a ∈ c.Txs, a.ID = id ∧ a.State = 1 ∧
      ((∃ e, (e = 1 ∨ (e = 8 ∧ 128 ≤ c.Reads.L.length)) ∧ m19_ssi_Read c id r = some (cN, e)) ∨
       ((∃ x ∈ c.Txs, passT a r x = true ∧ x.Out = true) ∧ m19_ssi_Read c id r = some (cN, 10)) ∨
       ∃ rs, Good rs ∧ (∀ x ∈ c.Reads.L, x ∈ rs) ∧ (⟨a.ID, r⟩ : GReadsRead) ∈ rs ∧ (∀ x ∈ rs, x ∈ c.Reads.L ∨ x = ⟨a.ID, r⟩) ∧ rs.length ≤ c.Reads.L.length + 1 ∧ (∀ x ∈ c.Txs, passT a r x = true → x.Out = false) ∧
         m19_ssi_Read c id r = some (⟨c.Txs.map (readF c.Txs a r), ⟨rs⟩⟩, 0)) := by
  unfold m19_ssi_Read
  rw [show (⟨c.Txs, ⟨c.Reads.L⟩⟩ : GSsiCert) = c from rfl, sane_c h, Option.bind_some, if_neg (nn (by rfl))]
  rcases active_m h id with ⟨h1, e⟩ | ⟨i, a, ha, e1, e2, e⟩
  · rw [e, Option.bind_some]
    exact .inl ⟨h1, rfl⟩
  · right
    refine ⟨a, List.mem_of_getElem? ha, e1, e2, ?_⟩
    rw [e, Option.bind_some, if_neg (by rw [decide_eq_true_eq]; omega)]
    have hfin : ∀ rs : List GReadsRead, ((m40_slices_Cloneo c.Txs).bind fun v4 => (iter (m19_ssi_Read_s6 r (i : Int) v4) fuel (0, v4)).bind fun x => match x with | .inl r => some r | .inr e17 => m19_ssi_Read_k5 ((⟨rs⟩ : GReadsTable), (0 : Int)) e17) = some (cN, 10) ∧ (∃ x ∈ c.Txs, passT a r x = true ∧ x.Out = true) ∨ ((m40_slices_Cloneo c.Txs).bind fun v4 => (iter (m19_ssi_Read_s6 r (i : Int) v4) fuel (0, v4)).bind fun x => match x with | .inl r => some r | .inr e17 => m19_ssi_Read_k5 ((⟨rs⟩ : GReadsTable), (0 : Int)) e17) = some (⟨c.Txs.map (readF c.Txs a r), ⟨rs⟩⟩, 0) ∧ (∀ x ∈ c.Txs, passT a r x = true → x.Out = false) := fun rs => by
      rw [clone_m _ (by have := h.len; omega), Option.bind_some]
      obtain ⟨v, hv, hr⟩ := readLoop h r ha e2
      rw [hv]
      cases v with
      | inl q => exact .inl ⟨by rw [← hr.1]; rfl, hr.2⟩
      | inr l => exact .inr ⟨by rw [← hr.1]; rfl, hr.2⟩
    have hg := h.gr
    subst e1
    rcases add_m (l := c.Reads.L) (by have := hg.len; omega) a.ID r with ⟨_, hs, ⟨hin, e⟩ | ⟨hin, ⟨h128, e⟩ | ⟨h128, e, hg'⟩⟩⟩ | ⟨_, e⟩
    · rw [e, Option.bind_some, if_neg (by show ¬ (!decide ((0 : Int) = 0)) = true; decide)]
      rcases hfin c.Reads.L with ⟨hh, hx⟩ | ⟨hh, hx⟩
      · exact .inr (.inl ⟨hx, hh⟩)
      · exact .inr (.inr ⟨c.Reads.L, hg, fun x hx => hx, hin, fun x hx => .inl hx, by omega, hx, hh⟩)
    · rw [e, Option.bind_some, if_pos (by decide)]
      exact .inl ⟨8, .inr ⟨rfl, h128⟩, rfl⟩
    · rw [e, Option.bind_some, if_neg (by show ¬ (!decide ((0 : Int) = 0)) = true; decide)]
      rcases hfin (c.Reads.L ++ [⟨a.ID, r⟩]) with ⟨hh, hx⟩ | ⟨hh, hx⟩
      · exact .inr (.inl ⟨hx, hh⟩)
      · refine .inr (.inr ⟨_, hg', fun x hx => List.mem_append_left _ hx, List.mem_append_right _ (List.mem_singleton_self _), fun x hx => ?_, by rw [List.length_append]; exact Nat.le_refl _, hx, hh⟩)
        rcases List.mem_append.1 hx with hx | hx
        · exact .inl hx
        · exact .inr (List.mem_singleton.1 hx)
    · rw [e, Option.bind_some, if_pos (by decide)]
      exact .inl ⟨1, .inl rfl, rfl⟩
end Go.Proofs.Ytbmciegldpeaiaa.Abs
