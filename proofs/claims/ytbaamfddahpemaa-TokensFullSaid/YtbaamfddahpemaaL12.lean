/-
  The statements on tokens.
-/
import Derived.Test.YtbaamfddahpemaaK12
namespace Go.Proofs.Ytbaamfddahpemaa.Abs

/-- What is known of a token behind what was done, and what was counted of it. -/
def Inv12 (l : List E12) (tok done floor : Int) : Prop :=
  (fnd l tok = none ∧ done = 0 ∧ floor = -1) ∨ ∃ x, fnd l tok = some x ∧
    ((x.State = 1 ∧ done = 0 ∧ floor = x.Attempt - 1) ∨ (x.State = 3 ∧ done = 0 ∧ floor ≤ x.Attempt) ∨ (x.State = 2 ∧ done = 1))

theorem tokensOnce_true (a0 : List GL12Act) (a1 : Int) : m3_l12_TokensOnce a0 a1 = some true := by
  unfold m3_l12_TokensOnce
  rw [awake12]
  simp only [Option.bind_some]
  by_cases h1 : (100 : Int) < a0.length
  · rw [if_pos (decide_eq_true h1)]
  rw [if_neg (by rw [decide_eq_true_eq]; exact h1)]
  obtain ⟨x, hx, hm⟩ := iter_inv (f := m3_l12_TokensOnce_s6 a0 a1) (P := fun s => ∃ i : Nat, i ≤ a0.length ∧ s.2.2.1 = (i : Int) ∧ OkT s.2.2.2 ∧ Inv12 s.2.2.2 a1 s.1 s.2.1) (μ := fun s => a0.length - s.2.2.1.toNat)
    (R := fun x => match x with | .inl y => False | .inr y => OkT y.2 ∧ ∃ f, Inv12 y.2 a1 y.1 f) (by
    rintro ⟨done, floor, _, l⟩ ⟨i, hi, rfl, ok, inv⟩
    dsimp only at ok inv
    unfold m3_l12_TokensOnce_s6
    dsimp only
    rcases Nat.lt_or_ge i a0.length with hlt | hge
    · have hg := List.getElem?_eq_getElem hlt
      generalize a0[i] = o at hg
      have hw : wI ((i : Int) + 1) = ((i + 1 : Nat) : Int) := by rw [wI_id (by omega) (by omega)]; rfl
      have hmu : a0.length - (((i + 1 : Nat) : Int)).toNat < a0.length - ((i : Nat) : Int).toNat := by omega
      rw [if_pos (decide_eq_true (by omega)), idx_nat, hg]
      simp only [Option.bind_some]
      rw [hw]
      by_cases w0 : o.What < 0
      · left
        rw [if_pos (decide_eq_true w0)]
        exact ⟨_, rfl, ⟨i + 1, hlt, rfl, ok, inv⟩, hmu⟩
      rw [if_neg (by simpa using w0)]
      by_cases w4 : 4 < o.What
      · left
        rw [if_pos (decide_eq_true w4)]
        exact ⟨_, rfl, ⟨i + 1, hlt, rfl, ok, inv⟩, hmu⟩
      rw [if_neg (by simpa using w4)]
      unfold m3_l12_TokensOnce_k7
      dsimp only
      rw [idx_nat, hg]
      simp only [Option.bind_some]
      rw [hw]
      obtain ⟨l', e, hd, hr⟩ := did_m ok o ((i + 1 : Nat) : Int)
      rw [hd]
      simp only [Option.bind_some]
      by_cases he : e = 0
      · obtain ⟨ok', hoth, hcase⟩ := hr he
        rw [if_neg (by simp [he])]
        by_cases ht : o.Tok = a1
        · rw [if_neg (by simp [ht])]
          rw [ht] at hcase hoth
          rcases hcase with ⟨hw01, hop⟩ | ⟨hw23, hop⟩ | ⟨hw4, hop⟩ | hbad
          · -- a start
            obtain ⟨_, _, hA0, hA1, hop⟩ := hop
            rcases hop with ⟨_, hold, hnew⟩ | ⟨h, _⟩ | ⟨h, _⟩ | ⟨h, _⟩
            rotate_left
            · cases h
            · cases h
            · cases h
            have hd0 : done = 0 ∧ floor < o.Attempt := by
              rcases inv with ⟨hf, h2, h3⟩ | ⟨x, hf, h2⟩
              · exact ⟨h2, by omega⟩
              · have := hold x hf
                rcases h2 with ⟨_, h3, h4⟩ | ⟨_, h3, h4⟩ | ⟨h3, _⟩
                · exact ⟨h3, by omega⟩
                · exact ⟨h3, by omega⟩
                · exact absurd h3 this.1
            left
            have hk : ∀ b : Bool, b = true → m3_l12_TokensOnce_k12 a0 (done, floor, (i : Int), l) (⟨l'⟩, e) o b = some (.cont (done, o.Attempt - 1, ((i + 1 : Nat) : Int), l')) := by
              rintro _ rfl
              unfold m3_l12_TokensOnce_k12
              dsimp only
              rw [if_pos rfl, idx_nat, hg]
              simp only [Option.bind_some]
              rw [if_neg (by simpa using hd0.2), if_neg (by simp [hd0.1])]
              unfold m3_l12_TokensOnce_k13
              dsimp only
              rw [idx_nat, hg]
              simp only [Option.bind_some]
              rw [hw, wI_id (by omega) (by omega)]
            refine ⟨(done, o.Attempt - 1, ((i + 1 : Nat) : Int), l'), ?_, ⟨i + 1, hlt, rfl, ok', .inr ⟨_, hnew, .inl ⟨rfl, hd0.1, rfl⟩⟩⟩, hmu⟩
            rcases hw01 with h | h
            · rw [if_pos (decide_eq_true h), hk _ (decide_eq_true h)]
            · rw [if_neg (by simp [h]), hk _ (decide_eq_true h)]
          · -- a finish
            obtain ⟨_, _, hA0, hA1, hop⟩ := hop
            rcases hop with ⟨h, _⟩ | ⟨_, ⟨x, hf, hs, ha⟩, hnew⟩ | ⟨h, _⟩ | ⟨h, _⟩
            · cases h
            rotate_left
            · cases h
            · cases h
            have hd0 : done = 0 ∧ floor < o.Attempt := by
              rcases inv with ⟨hf', _⟩ | ⟨y, hf', h2⟩
              · rw [hf] at hf'; cases hf'
              · rw [hf] at hf'; cases hf'
                rcases h2 with ⟨_, h3, h4⟩ | ⟨h3, _⟩ | ⟨h3, _⟩
                · exact ⟨h3, by omega⟩
                · rw [hs] at h3; cases h3
                · rw [hs] at h3; cases h3
            left
            have hk : ∀ b : Bool, b = true → m3_l12_TokensOnce_k16 a0 (done, floor, (i : Int), l) (⟨l'⟩, e) o b = some (.cont (done + 1, floor, ((i + 1 : Nat) : Int), l')) := by
              rintro _ rfl
              unfold m3_l12_TokensOnce_k16
              dsimp only
              rw [if_pos rfl, idx_nat, hg]
              simp only [Option.bind_some]
              rw [if_neg (by simpa using hd0.2), hw, wI_id (by omega) (by omega)]
            refine ⟨(done + 1, floor, ((i + 1 : Nat) : Int), l'), ?_, ⟨i + 1, hlt, rfl, ok', .inr ⟨_, hnew, .inr (.inr ⟨rfl, by omega⟩)⟩⟩, hmu⟩
            have hn0 : o.What ≠ 0 := by omega
            have hn1 : o.What ≠ 1 := by omega
            rw [if_neg (by simpa using hn0), decide_eq_false hn1]
            unfold m3_l12_TokensOnce_k12
            rw [if_neg (by simp)]
            rcases hw23 with h | h
            · rw [if_pos (decide_eq_true h), hk _ (decide_eq_true h)]
            · rw [if_neg (by simp [h]), hk _ (decide_eq_true h)]
          · -- a fence
            left
            refine ⟨(done, (if o.Attempt > floor then o.Attempt else floor), ((i + 1 : Nat) : Int), l'), ?_, ⟨i + 1, hlt, rfl, ok', ?_⟩, hmu⟩
            · have hn0 : o.What ≠ 0 := by omega
              have hn1 : o.What ≠ 1 := by omega
              have hn2 : o.What ≠ 2 := by omega
              have hn3 : o.What ≠ 3 := by omega
              rw [if_neg (by simpa using hn0), decide_eq_false hn1]
              unfold m3_l12_TokensOnce_k12
              rw [if_neg (by simp), if_neg (by simpa using hn2), decide_eq_false hn3]
              unfold m3_l12_TokensOnce_k16
              dsimp only
              rw [if_neg (by simp), if_pos (decide_eq_true hw4), idx_nat, hg]
              simp only [Option.bind_some]
              rw [hw]
            · obtain ⟨_, _, hA0, hA1, hop⟩ := hop
              rcases hop with ⟨h, _⟩ | ⟨h, _⟩ | ⟨_, x, hf, hs, hl⟩ | ⟨_, hold, b, hnew, hb⟩
              · cases h
              · cases h
              · subst hl
                rcases inv with ⟨hf', _⟩ | ⟨y, hf', h2⟩
                · rw [hf] at hf'; cases hf'
                · rw [hf] at hf'; cases hf'
                  rcases h2 with ⟨h3, _⟩ | ⟨h3, _⟩ | ⟨h3, h4⟩
                  · rw [hs] at h3; cases h3
                  · rw [hs] at h3; cases h3
                  · exact .inr ⟨x, hf, .inr (.inr ⟨h3, h4⟩)⟩
              · refine .inr ⟨_, hnew, .inr (.inl ⟨rfl, ?_, ?_⟩)⟩
                · rcases inv with ⟨_, h2, _⟩ | ⟨y, hf', h2⟩
                  · exact h2
                  · have := hold y hf'
                    rcases h2 with ⟨_, h3, _⟩ | ⟨_, h3, _⟩ | ⟨h3, _⟩
                    · exact h3
                    · exact h3
                    · exact absurd h3 this
                · show (if o.Attempt > floor then o.Attempt else floor) ≤ b
                  rcases inv with ⟨hf', h2, h3⟩ | ⟨y, hf', h2⟩
                  · rw [hf'] at hb
                    have hb' : b = o.Attempt := hb
                    split <;> omega
                  · rw [hf'] at hb
                    have hb' : b = max y.Attempt o.Attempt := hb
                    have := hold y hf'
                    rcases h2 with ⟨_, h3, h4⟩ | ⟨_, h3, h4⟩ | ⟨h3, _⟩
                    · split <;> omega
                    · split <;> omega
                    · exact absurd h3 this
          · omega
        · left
          rw [if_pos (by simpa using ht)]
          refine ⟨_, rfl, ⟨i + 1, hlt, rfl, ok', ?_⟩, hmu⟩
          unfold Inv12
          rw [hoth a1 (fun h => ht h.symm)]
          exact inv
      · left
        rw [if_pos (by simpa using he)]
        exact ⟨_, rfl, ⟨i + 1, hlt, rfl, ok, inv⟩, hmu⟩
    · right; left
      rw [if_neg (by rw [decide_eq_true_eq]; omega)]
      exact ⟨_, rfl, ok, floor, inv⟩) fuel (0, -1, 0, []) ⟨0, Nat.zero_le _, rfl, ok_nil, .inl ⟨rfl, rfl, rfl⟩⟩ (lt_fuel (by show a0.length - 0 ≤ _; omega))
  rw [hx]
  simp only [Option.bind_some]
  cases x with
  | inl y => exact hm.elim
  | inr y =>
  obtain ⟨ok, f, inv⟩ := hm
  show m3_l12_TokensOnce_k2 a1 true y = some true
  unfold m3_l12_TokensOnce_k2
  rw [Find_m (by have := ok.n; omega)]
  simp only [Option.bind_some]
  rw [if_pos trivial]
  have hS := Sane_m ok
  rcases inv with ⟨hf, h2, _⟩ | ⟨x, hf, h2⟩
  · rw [hf, if_pos (decide_eq_true (by omega)), if_neg (by simp), if_pos (by simp [h2]), hS]
    rfl
  · rw [hf]
    dsimp only
    rcases h2 with ⟨h3, h4, _⟩ | ⟨h3, h4, _⟩ | ⟨h3, h4⟩
    all_goals
      rw [if_pos (decide_eq_true (by omega)), if_pos rfl, if_pos (by simp [h3, h4]), hS]
      rfl

theorem grow12 (a0 : List GL12Act) (h1 : a0.length ≤ 100) {f : Int × List E12 → Option (LB (Int × List E12) (List E12))}
    (hf : ∀ s, f s = if (decide (s.1 < (a0.length : Int))) then ((idx a0 s.1).bind fun u9 => (m8_l12_did (GTokensTable.mk s.2) u9 (wI (s.1 + 1))).bind fun v10 => if (decide (v10.2 = 0)) then (some (.cont ((wI (s.1 + 1)), v10.1.L))) else (some (.cont ((wI (s.1 + 1)), s.2)))) else (some (.brk s.2))) :
    ∃ l, iterB f fuel (0, []) = some l ∧ OkT l := by
  refine iterB_inv (f := f) (P := fun s => ∃ i : Nat, i ≤ a0.length ∧ s.1 = (i : Int) ∧ OkT s.2) (μ := fun s => a0.length - s.1.toNat) (R := fun l => OkT l) ?_ fuel (0, []) ⟨0, Nat.zero_le _, rfl, ok_nil⟩ (lt_fuel (by show a0.length - 0 ≤ _; omega))
  rintro ⟨_, l⟩ ⟨i, hi, rfl, ok⟩
  rw [hf]
  dsimp only at ok ⊢
  rcases Nat.lt_or_ge i a0.length with hlt | hge
  · left
    have hw : wI ((i : Int) + 1) = ((i + 1 : Nat) : Int) := by rw [wI_id (by omega) (by omega)]; rfl
    have hmu : a0.length - (((i + 1 : Nat) : Int)).toNat < a0.length - ((i : Nat) : Int).toNat := by omega
    rw [if_pos (decide_eq_true (by omega)), idx_nat, List.getElem?_eq_getElem hlt]
    simp only [Option.bind_some]
    rw [hw]
    obtain ⟨l', e, hd, hr⟩ := did_m ok a0[i] ((i + 1 : Nat) : Int)
    rw [hd]
    simp only [Option.bind_some]
    by_cases he : e = 0
    · rw [if_pos (decide_eq_true he)]
      exact ⟨_, rfl, ⟨i + 1, hlt, rfl, (hr he).1⟩, hmu⟩
    · rw [if_neg (by simpa using he)]
      exact ⟨_, rfl, ⟨i + 1, hlt, rfl, ok⟩, hmu⟩
  · right
    rw [if_neg (by rw [decide_eq_true_eq]; omega)]
    exact ⟨_, rfl, ok⟩

theorem tokensKeep_true (a0 : List GL12Act) (a1 : GL12Act) (a2 a3 : Int) : m4_l12_TokensKeep a0 a1 a2 a3 = some true := by
  unfold m4_l12_TokensKeep
  rw [awake12]
  simp only [Option.bind_some]
  by_cases h1 : (100 : Int) < a0.length
  · rw [if_pos (decide_eq_true h1)]
  rw [if_neg (by rw [decide_eq_true_eq]; exact h1)]
  obtain ⟨l, hl, ok⟩ := grow12 a0 (by omega) (f := m4_l12_TokensKeep_s8 a0) (fun s => rfl)
  rw [hl]
  simp only [Option.bind_some]
  unfold m4_l12_TokensKeep_k2
  have hn := ok.n
  obtain ⟨lc, n, e, hF, _, hdone, _⟩ := Fence_m ok a2 a3
  rw [Find_m (by omega), hF]
  simp only [Option.bind_some]
  have hk : ∀ v3 : E12 × Bool, v3 = (match fnd l a2 with | some x => (x, true) | none => (e00, false)) → m4_l12_TokensKeep_k5 a1 a2 true l v3 () = some true := by
    rintro _ rfl
    unfold m4_l12_TokensKeep_k5
    obtain ⟨l', e', hd, hr⟩ := did_m ok a1 500
    rw [hd]
    simp only [Option.bind_some]
    by_cases he : e' = 0
    · obtain ⟨ok', hoth, _⟩ := hr he
      rw [if_neg (by simp [he]), Find_m (by have := ok'.n; omega)]
      simp only [Option.bind_some]
      rw [if_pos trivial]
      by_cases ht : a1.Tok = a2
      · rw [if_pos (decide_eq_true ht)]
      · rw [if_neg (by simpa using ht), hoth a2 (fun h => ht h.symm)]
        cases fnd l a2 <;> simp
    · rw [if_pos (by simpa using he)]
  cases hf : fnd l a2 with
  | none =>
    dsimp only
    rw [if_neg (by simp), hk _ (by rw [hf])]
  | some x =>
    dsimp only
    rw [if_pos rfl]
    by_cases h2 : x.State = 2
    · rw [if_pos (decide_eq_true h2)]
      rcases hdone x hf h2 with ⟨h3, h4⟩ | h3
      · rw [if_pos (decide_eq_true h3), if_neg (by simp [h4]), if_neg (by simp [h3]), hk _ (by rw [hf])]
      · rw [if_neg (by simp [h3]), if_pos (by simp [h3]), if_neg (by simp [h3]), hk _ (by rw [hf])]
    · rw [if_neg (by simpa using h2), hk _ (by rw [hf])]

theorem tokensFence_true (a0 : List GL12Act) (a1 a2 : Int) (a3 : List GL12Act) : m6_l12_TokensFence a0 a1 a2 a3 = some true := by
  unfold m6_l12_TokensFence
  rw [awake12]
  simp only [Option.bind_some]
  by_cases h1 : (60 : Int) < a0.length
  · rw [if_pos (decide_eq_true h1)]
  rw [if_neg (by rw [decide_eq_true_eq]; exact h1)]
  by_cases h2 : (60 : Int) < a3.length
  · rw [if_pos (decide_eq_true h2)]
  rw [if_neg (by rw [decide_eq_true_eq]; exact h2)]
  unfold m6_l12_TokensFence_k2
  obtain ⟨l, hl, ok⟩ := grow12 a0 (by omega) (f := m6_l12_TokensFence_s19 a0) (fun s => rfl)
  rw [hl]
  simp only [Option.bind_some]
  unfold m6_l12_TokensFence_k3
  obtain ⟨lc, n, e, hF, hop, _, hnot, _⟩ := Fence_m ok a1 a2
  rw [hF]
  simp only [Option.bind_some]
  by_cases he : ¬ e = 0
  · rw [if_pos (by simpa using he)]
  replace he : e = 0 := Decidable.of_not_not he
  rw [if_neg (by simp [he])]
  by_cases hn0 : 0 < n
  · rw [if_pos (decide_eq_true hn0)]
  rw [if_neg (by simpa using hn0)]
  have hnot' := hnot he (by omega)
  obtain ⟨okc, _, hA0, hA1, hop⟩ := hop he
  have hfence : ∃ x, fnd lc a1 = some x ∧ x.State = 3 ∧ a2 ≤ x.Attempt := by
    rcases hop with ⟨h, _⟩ | ⟨h, _⟩ | ⟨_, x, hf, hs, _⟩ | ⟨_, _, b, hnew, hb⟩
    · cases h
    · cases h
    · exact absurd hs (hnot' x hf)
    · refine ⟨_, hnew, rfl, ?_⟩
      show a2 ≤ b
      rw [hb]
      split
      · exact Int.le_max_right _ _
      · exact Int.le_refl _
  unfold m6_l12_TokensFence_k5
  obtain ⟨x, hx, hm⟩ := iter_inv (f := m6_l12_TokensFence_s7 a1 a2 a3) (P := fun s => ∃ i : Nat, i ≤ a3.length ∧ s.1 = (i : Int) ∧ OkT s.2 ∧ ∃ x, fnd s.2 a1 = some x ∧ ((x.State = 3 ∧ a2 ≤ x.Attempt) ∨ (x.State = 1 ∧ a2 < x.Attempt) ∨ x.State = 2)) (μ := fun s => a3.length - s.1.toNat)
    (R := fun x => match x with | .inl y => False | .inr _ => True) (by
    rintro ⟨_, l⟩ ⟨i, hi, rfl, ok, inv⟩
    dsimp only at ok inv
    unfold m6_l12_TokensFence_s7
    dsimp only
    rcases Nat.lt_or_ge i a3.length with hlt | hge
    · left
      have hg := List.getElem?_eq_getElem hlt
      generalize a3[i] = o at hg
      have hw : wI ((i : Int) + 1) = ((i + 1 : Nat) : Int) := by rw [wI_id (by omega) (by omega)]; rfl
      have hmu : a3.length - (((i + 1 : Nat) : Int)).toNat < a3.length - ((i : Nat) : Int).toNat := by omega
      rw [if_pos (decide_eq_true (by omega)), idx_nat, hg]
      simp only [Option.bind_some]
      rw [hw]
      by_cases w5 : o.What = 5
      · rw [if_pos (decide_eq_true w5)]
        exact ⟨_, rfl, ⟨i + 1, hlt, rfl, ok, inv⟩, hmu⟩
      rw [if_neg (by simpa using w5)]
      by_cases w0 : o.What < 0
      · rw [if_pos (decide_eq_true w0)]
        exact ⟨_, rfl, ⟨i + 1, hlt, rfl, ok, inv⟩, hmu⟩
      rw [if_neg (by simpa using w0)]
      by_cases w6 : 5 < o.What
      · rw [if_pos (decide_eq_true w6)]
        exact ⟨_, rfl, ⟨i + 1, hlt, rfl, ok, inv⟩, hmu⟩
      rw [if_neg (by simpa using w6)]
      unfold m6_l12_TokensFence_k8
      dsimp only
      rw [idx_nat, hg]
      simp only [Option.bind_some]
      obtain ⟨l', e, hd, hr⟩ := did_m ok o (wI (100 + (i : Int)))
      rw [hd]
      simp only [Option.bind_some]
      rw [hw]
      by_cases he : ¬ e = 0
      · rw [if_pos (by simpa using he)]
        exact ⟨_, rfl, ⟨i + 1, hlt, rfl, ok, inv⟩, hmu⟩
      replace he : e = 0 := Decidable.of_not_not he
      rw [if_neg (by simp [he])]
      obtain ⟨ok', hoth, hcase⟩ := hr he
      have hend : m6_l12_TokensFence_k11 ((i : Int), l) (⟨l'⟩, e) () = some (.cont (((i + 1 : Nat) : Int), l')) := by
        unfold m6_l12_TokensFence_k11
        dsimp only
        rw [hw]
      by_cases ht : ¬ o.Tok = a1
      · rw [if_neg (by simpa using ht), hend]
        exact ⟨_, rfl, ⟨i + 1, hlt, rfl, ok', by rw [hoth a1 (fun h => ht h.symm)]; exact inv⟩, hmu⟩
      replace ht : o.Tok = a1 := Decidable.of_not_not ht
      rw [if_pos (decide_eq_true ht)]
      rw [ht] at hcase
      obtain ⟨x, hf, hx⟩ := inv
      rcases hcase with ⟨hw01, hop⟩ | ⟨hw23, hop⟩ | ⟨hw4, hop⟩ | hbad
      · obtain ⟨_, _, _, _, hop⟩ := hop
        rcases hop with ⟨_, hold, hnew⟩ | ⟨h, _⟩ | ⟨h, _⟩ | ⟨h, _⟩
        rotate_left
        · cases h
        · cases h
        · cases h
        have := hold x hf
        have ha : a2 < o.Attempt := by
          rcases hx with ⟨_, h⟩ | ⟨_, h⟩ | h
          · omega
          · omega
          · exact absurd h this.1
        rw [if_pos (decide_eq_true (by omega)), if_neg (by simpa using ha), hend]
        exact ⟨_, rfl, ⟨i + 1, hlt, rfl, ok', _, hnew, .inr (.inl ⟨rfl, ha⟩)⟩, hmu⟩
      · obtain ⟨_, _, _, _, hop⟩ := hop
        rcases hop with ⟨h, _⟩ | ⟨_, ⟨y, hf', hs, ha⟩, hnew⟩ | ⟨h, _⟩ | ⟨h, _⟩
        · cases h
        rotate_left
        · cases h
        · cases h
        rw [hf] at hf'; cases hf'
        have ha' : a2 < o.Attempt := by
          rcases hx with ⟨h, _⟩ | ⟨_, h⟩ | h
          · rw [hs] at h; cases h
          · omega
          · rw [hs] at h; cases h
        rw [if_pos (decide_eq_true (by omega)), if_neg (by simpa using ha'), hend]
        exact ⟨_, rfl, ⟨i + 1, hlt, rfl, ok', _, hnew, .inr (.inr rfl)⟩, hmu⟩
      · rw [if_neg (by rw [decide_eq_true_eq]; omega), hend]
        refine ⟨_, rfl, ⟨i + 1, hlt, rfl, ok', ?_⟩, hmu⟩
        obtain ⟨_, _, _, _, hop⟩ := hop
        rcases hop with ⟨h, _⟩ | ⟨h, _⟩ | ⟨_, y, hf', hs, rfl⟩ | ⟨_, hold, b, hnew, hb⟩
        · cases h
        · cases h
        · exact ⟨x, hf, hx⟩
        · refine ⟨_, hnew, .inl ⟨rfl, ?_⟩⟩
          show a2 ≤ b
          rw [hf] at hb
          have hb' : b = max x.Attempt o.Attempt := hb
          have := hold x hf
          rcases hx with ⟨_, h⟩ | ⟨_, h⟩ | h
          · omega
          · omega
          · exact absurd h this
      · omega
    · right; left
      rw [if_neg (by rw [decide_eq_true_eq]; omega)]
      exact ⟨_, rfl, trivial⟩) fuel (0, lc) ⟨0, Nat.zero_le _, rfl, okc, (by obtain ⟨x, h1, h2, h3⟩ := hfence; exact ⟨x, h1, .inl ⟨h2, h3⟩⟩)⟩ (lt_fuel (by show a3.length - 0 ≤ _; omega))
  show (iter (m6_l12_TokensFence_s7 a1 a2 a3) fuel (0, lc)).bind _ = _
  rw [hx]
  cases x with
  | inl y => exact hm.elim
  | inr y => rfl

def tab12 (n : Nat) : List E12 := (List.range n).map fun (i : Nat) => (⟨(i : Int), 1, 1, 0⟩ : E12)
theorem tab_get (n i : Nat) : (tab12 n)[i]? = if i < n then some ⟨(i : Int), 1, 1, 0⟩ else none := by
  unfold tab12
  rw [List.getElem?_map]
  by_cases h : i < n
  · rw [List.getElem?_range h, if_pos h]; rfl
  · rw [List.getElem?_eq_none (by simpa using h), if_neg h]; rfl
theorem tab_ok (n : Nat) (h : n ≤ 32) : OkT (tab12 n) := by
  refine ⟨fun x hx => ?_, fun i j x y hx hy hxy => ?_, by simp [tab12]; exact h⟩
  · obtain ⟨i, hi⟩ := List.getElem?_of_mem hx
    rw [tab_get] at hi
    by_cases c : i < n
    · rw [if_pos c] at hi
      cases hi
      unfold sE sN
      rw [if_pos (.inl rfl)]
      simp
      omega
    · rw [if_neg c] at hi; cases hi
  · rw [tab_get] at hx hy
    by_cases c : i < n
    · by_cases d : j < n
      · rw [if_pos c] at hx; rw [if_pos d] at hy
        cases hx; cases hy
        have h : (i : Int) = (j : Int) := hxy
        omega
      · rw [if_neg d] at hy; cases hy
    · rw [if_neg c] at hx; cases hx
theorem tab_fnd (n : Nat) (h : n ≤ 32) (t : Int) (ht : ∀ i : Nat, i < n → (i : Int) ≠ t) : fnd (tab12 n) t = none := by
  cases hf : fnd (tab12 n) t with
  | none => rfl
  | some x =>
    have h1 := fnd_some hf
    have h2 : (tab12 n)[ix (tab12 n) t]? = some x := hf
    rw [tab_get] at h2
    by_cases c : ix (tab12 n) t < n
    · rw [if_pos c] at h2
      cases h2
      exact absurd h1.1 (ht _ c)
    · rw [if_neg c] at h2; cases h2
theorem mask12 (u : Int) (k : Nat) (hk : k < 2 ^ 63) : ∃ n : Nat, n ≤ k ∧ wI ((BitVec.ofInt 64 u &&& BitVec.ofInt 64 (k : Int)).toNat : Int) = (n : Int) := by
  have h : (BitVec.ofInt 64 u &&& BitVec.ofInt 64 (k : Int)).toNat ≤ k := by
    rw [BitVec.toNat_and]
    refine Nat.le_trans Nat.and_le_right ?_
    rw [BitVec.ofInt_natCast, BitVec.toNat_ofNat]
    exact Nat.mod_le _ _
  exact ⟨_, h, wI_id (by omega) (by omega)⟩
theorem tab_len (n : Nat) : (tab12 n).length = n := by simp [tab12]
theorem tokensFull_true (a0 a1 : Int) : m5_l12_TokensFull a0 a1 = some true := by
  unfold m5_l12_TokensFull
  rw [awake12]
  simp only [Option.bind_some]
  obtain ⟨x, hx, hm⟩ := iter_inv (f := m5_l12_TokensFull_s9) (P := fun s => ∃ i : Nat, i ≤ 32 ∧ s = ((i : Int), tab12 i)) (μ := fun s => 32 - s.1.toNat)
    (R := fun x => match x with | .inl y => False | .inr y => y = tab12 32) (by
    rintro _ ⟨i, hi, rfl⟩
    unfold m5_l12_TokensFull_s9
    dsimp only
    rcases Nat.lt_or_ge i 32 with hlt | hge
    · left
      rw [if_pos (decide_eq_true (by omega))]
      have hfn := tab_fnd i (by omega) (i : Int) (fun j hj => by omega)
      have hN : sN (i : Int) 1 = true := decide_eq_true ⟨by omega, by omega, by decide, by decide⟩
      have hE : sE (⟨(i : Int), 1, 1, 0⟩ : E12) = true := by unfold sE; rw [if_pos (.inl rfl)]; show (sN (i : Int) 1 && _) = true; rw [hN]; rfl
      have hix := (fnd_none hfn).1
      have hS : m12_tokens_Start ⟨tab12 i⟩ (i : Int) 1 = some (⟨tab12 (i + 1)⟩, 0) := by
        unfold m12_tokens_Start
        show (m10_tokens_Sane ⟨tab12 i⟩).bind _ = _
        rw [Sane_m (tab_ok i (by omega)), saneName_m, hN]
        simp only [Option.bind_some]
        rw [if_neg (by simp), if_neg (by simp)]
        unfold m12_tokens_Start_k1
        rw [Find_m (by rw [tab_len]; omega), hfn]
        simp only [Option.bind_some]
        rw [if_neg (by simp), if_neg (by simp)]
        show (m18_tokens_set ⟨tab12 i⟩ _).bind _ = _
        rw [set_m (tab_ok i (by omega))]
        simp only [Option.bind_some]
        have h2 : ix (tab12 i) (⟨(i : Int), 1, 1, 0⟩ : E12).Tok = i := by rw [show (⟨(i : Int), 1, 1, 0⟩ : E12).Tok = (i : Int) from rfl, hix, tab_len]
        rw [if_neg (by rw [h2]; omega)]
        have h3 : updT (tab12 i) ⟨(i : Int), 1, 1, 0⟩ = tab12 (i + 1) := by
          unfold updT
          rw [if_neg (by rw [h2, tab_len]; omega)]
          unfold tab12
          rw [List.range_succ, List.map_append]
          rfl
        rw [h3]
      rw [hS]
      simp only [Option.bind_some]
      rw [if_neg (by simp), wI_id (by omega) (by omega)]
      exact ⟨_, rfl, ⟨i + 1, hlt, rfl⟩, by show 32 - ((i : Int) + 1).toNat < 32 - (i : Int).toNat; omega⟩
    · right; left
      have : i = 32 := by omega
      subst this
      rw [if_neg (by decide)]
      exact ⟨_, rfl, rfl⟩) fuel (0, []) ⟨0, Nat.zero_le _, rfl⟩ (lt_fuel (by show 32 - 0 ≤ _; omega))
  rw [hx]
  simp only [Option.bind_some]
  cases x with
  | inl y => exact hm.elim
  | inr y =>
  obtain rfl : y = tab12 32 := hm
  show m5_l12_TokensFull_k2 a0 a1 true (tab12 32) = some true
  unfold m5_l12_TokensFull_k2
  obtain ⟨q, hq, eq⟩ := mask12 a0 255 (by decide)
  obtain ⟨j, hj, ej⟩ := mask12 a1 31 (by decide)
  rw [show ((255 : Nat) : Int) = 255 from rfl] at eq
  rw [show ((31 : Nat) : Int) = 31 from rfl] at ej
  rw [eq, ej, wI_id (n := 32 + (q : Int)) (by omega) (by omega)]
  have ok := tab_ok 32 (Nat.le_refl _)
  have hno := tab_fnd 32 (Nat.le_refl _) (32 + (q : Int)) (fun i hi => by omega)
  have hN : sN (32 + (q : Int)) 1 = true := decide_eq_true ⟨by omega, by omega, by decide, by decide⟩
  have hjf : fnd (tab12 32) (j : Int) = some ⟨(j : Int), 1, 1, 0⟩ := (fnd_eq ok (i := j) (x := ⟨(j : Int), 1, 1, 0⟩) (by rw [tab_get, if_pos (by omega)]) rfl).2
  obtain ⟨ls, es, h1, _, h1e⟩ := Start_m ok (32 + (q : Int)) 1
  obtain ⟨lc, nc, ec, h2, _, _, _, h2e⟩ := Fence_m ok (32 + (q : Int)) 1
  obtain ⟨lr, er, h3, _, h3e⟩ := Release_m ok (j : Int)
  obtain ⟨lf, ef, h4, h4r, h4e⟩ := Finish_m ok (j : Int) 1 3
  have e1 : es = 8 := by rw [h1e hno hN, if_pos (tab_len 32)]
  have e2 : ec = 8 := h2e hno hN (tab_len 32)
  have e3 : er = 7 := (h3e _ hjf).1 rfl
  obtain ⟨e4, hixf, hlenf⟩ := h4e hjf (by decide)
  obtain ⟨okf, hothf, _, _, hopf⟩ := h4r e4
  have hjf' : fnd lf (j : Int) = some ⟨(j : Int), 1, 2, 3⟩ := by
    rcases hopf with ⟨h, _⟩ | ⟨_, _, h⟩ | ⟨h, _⟩ | ⟨h, _⟩
    · cases h
    · exact h
    · cases h
    · cases h
  obtain ⟨lr2, er2, h5, h5r, h5e⟩ := Release_m okf (j : Int)
  have e5 : er2 = 0 := (h5e _ hjf').2 rfl
  obtain ⟨okr, hothr, _, hlenr, _⟩ := h5r e5
  obtain ⟨ls2, es2, h6, _, h6e⟩ := Start_m okr (32 + (q : Int)) 1
  have hno2 : fnd lr2 (32 + (q : Int)) = none := by rw [hothr _ (by omega), hothf _ (by omega), hno]
  have e6 : es2 = 0 := by rw [h6e hno2 hN, if_neg (by rw [hlenr, hlenf, tab_len]; decide)]
  rw [h1, h2, h3, h4]
  simp only [Option.bind_some]
  rw [h5]
  simp only [Option.bind_some]
  rw [h6]
  simp only [Option.bind_some]
  rw [e1, e2, e3, e4, e5, e6]
  rfl
end Go.Proofs.Ytbaamfddahpemaa.Abs
