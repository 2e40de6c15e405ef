/-
  StoreIs: what is installed, on both sides.
-/
import Derived.Test.YtbojepclnfnmcaaI08b
namespace Go.Proofs.Ytbojepclnfnmcaa.Abs


def WP (l : List GApiWrite) : Prop := (∀ w ∈ l, wOk w = true) ∧ (∀ w ∈ l, kOk w.Key = true) ∧ PW (l.map (·.Key))

theorem saneWrites_iff (l : List GApiWrite) (hn : l.length ≤ 1000000) : ∃ b, m42_store_saneWrites l = some b ∧ (b = true ↔ WP l) := by
  unfold m42_store_saneWrites
  obtain ⟨v, hv, hr⟩ := iter_inv (f := m42_store_saneWrites_s3 l) (P := fun s => ∃ i : Nat, i ≤ l.length ∧ s = ((i : Int), (l.take i).map (·.Key)) ∧ ∀ w ∈ l.take i, wOk w = true) (μ := fun s => l.length - s.1.toNat)
    (R := fun v => (v = .inl false ∧ ∃ w ∈ l, wOk w = false) ∨ (v = .inr (l.map (·.Key)) ∧ ∀ w ∈ l, wOk w = true)) (by
      rintro _ ⟨i, hi, rfl, hw⟩
      unfold m42_store_saneWrites_s3
      dsimp only
      rcases Nat.lt_or_ge i l.length with hlt | hge
      · have hx := List.getElem?_eq_getElem hlt
        rw [if_pos (decide_eq_true (by omega)), idx_nat, hx, Option.bind_some]
        have hk5 : m42_store_saneWrites_k5 ((i : Int), (l.take i).map (·.Key)) l[i] () = some (.cont (((i + 1 : Nat) : Int), (l.take (i + 1)).map (·.Key))) := by
          unfold m42_store_saneWrites_k5
          dsimp only
          rw [if_pos (by rw [List.length_map, List.length_take, List.length_singleton]; omega), wI_id (by omega) (by omega), List.take_succ_eq_append_getElem hlt, List.map_append]
          rfl
        have hmem := List.getElem_mem hlt
        by_cases h1 : 32 < (l[i].Val.length : Int)
        · rw [if_pos (decide_eq_true h1)]
          refine .inr (.inr ⟨false, rfl, .inl ⟨rfl, _, hmem, ?_⟩⟩)
          unfold wOk
          rw [decide_eq_false (by omega), Bool.false_and]
        rw [if_neg (by rw [decide_eq_true_eq]; exact h1)]
        have hnext : wOk l[i] = true → ∀ w ∈ l.take (i + 1), wOk w = true := fun hwi w hm => by
          rw [List.take_succ_eq_append_getElem hlt] at hm
          rcases List.mem_append.1 hm with hm | hm
          · exact hw w hm
          · rw [List.mem_singleton.1 hm]; exact hwi
        cases hd : l[i].Del with
        | true =>
          rw [if_pos rfl]
          by_cases h2 : 0 < (l[i].Val.length : Int)
          · rw [if_pos (decide_eq_true h2)]
            refine .inr (.inr ⟨false, rfl, .inl ⟨rfl, _, hmem, ?_⟩⟩)
            unfold wOk
            rw [hd, decide_eq_true h2, Bool.and_comm]; rfl
          · rw [if_neg (by rw [decide_eq_true_eq]; exact h2), hk5]
            refine .inl ⟨_, rfl, ⟨i + 1, hlt, rfl, hnext ?_⟩, by simp only [Int.toNat_natCast]; omega⟩
            unfold wOk
            rw [decide_eq_true (by omega), hd, decide_eq_false h2]
            rfl
        | false =>
          rw [if_neg (by decide), hk5]
          refine .inl ⟨_, rfl, ⟨i + 1, hlt, rfl, hnext ?_⟩, by simp only [Int.toNat_natCast]; omega⟩
          unfold wOk
          rw [decide_eq_true (by omega), hd]
          rfl
      · have e : i = l.length := by omega
        subst e
        rw [if_neg (by rw [decide_eq_true_eq]; omega)]
        rw [List.take_length] at hw ⊢
        exact .inr (.inl ⟨_, rfl, .inr ⟨rfl, hw⟩⟩)) fuel (0, []) ⟨0, Nat.zero_le _, rfl, fun w h => by simp at h⟩ (lt_fuel (by show l.length - 0 ≤ _; omega))
  rw [hv, Option.bind_some]
  rcases hr with ⟨rfl, w, hw, hwf⟩ | ⟨rfl, hw⟩
  · exact ⟨false, rfl, fun h => (by cases h), fun h => by rw [h.1 w hw] at hwf; cases hwf⟩
  · show ∃ b, m42_store_saneWrites_k1 (l.map (·.Key)) = some b ∧ _
    unfold m42_store_saneWrites_k1
    obtain ⟨b, hb, hb2⟩ := saneKeys_m (l.map (·.Key)) (by rw [List.length_map]; omega)
    rw [hb]
    refine ⟨b, rfl, fun h => ?_, fun h => hb2.2 ⟨fun k hk => ?_, h.2.2⟩⟩
    · obtain ⟨h1, h2⟩ := hb2.1 h
      exact ⟨hw, fun w hm => h1 w.Key (List.mem_map.2 ⟨w, hm, rfl⟩), h2⟩
    · obtain ⟨w, hwm, rfl⟩ := List.mem_map.1 hk
      exact h.2.1 w hwm

def q46 (l : List GApiWrite) (i : Nat) (w : GApiWrite) : Bool := kOk w.Key && ((!decide (0 < (i : Int)) || decide (cmpL ((l[i - 1]?.map (·.Key)).getD []) w.Key < 0)) && wOk w)
theorem wOk_if (w : GApiWrite) (i : Int) : (if (decide (32 < (w.Val.length : Int))) then (some (LR.ret false)) else (if w.Del then (if (decide (0 < (w.Val.length : Int))) then (some (.ret false)) else (some (.cont i))) else (some (.cont i)))) = (some (if wOk w then LR.cont i else LR.ret false) : Option (LR Int Unit Bool)) := by
  unfold wOk
  by_cases h1 : 32 < (w.Val.length : Int)
  · rw [if_pos (decide_eq_true h1), decide_eq_false (show ¬ (w.Val.length : Int) ≤ 32 by omega)]; rfl
  rw [if_neg (by rw [decide_eq_true_eq]; exact h1), decide_eq_true (show (w.Val.length : Int) ≤ 32 by omega)]
  cases w.Del with
  | false => rfl
  | true =>
    rw [if_pos rfl]
    by_cases h2 : 0 < (w.Val.length : Int)
    · rw [if_pos (decide_eq_true h2), decide_eq_true h2]; rfl
    · rw [if_neg (by rw [decide_eq_true_eq]; exact h2), decide_eq_false h2]; rfl

theorem rwrites_iff (l : List GApiWrite) (hn : l.length ≤ 1000000) (hk : ∀ w ∈ l, w.Key.length ≤ 1000) : ∃ b, m46_r08_Writes l = some b ∧ (b = true ↔ WP l) := by
  unfold m46_r08_Writes
  rcases scan08 l (fun i w => !q46 l i w) (m46_r08_Writes_s2 l) (by omega) (fun i x hx => by
    have hlt := (List.getElem?_eq_some_iff.1 hx).1
    unfold m46_r08_Writes_s2 q46
    simp only [wOk_if]
    rw [if_pos (decide_eq_true (by omega)), idx_nat, hx, Option.bind_some, rsaneK, Option.bind_some, wI_id (n := (i : Int) + 1) (by omega) (by omega)]
    cases kOk x.Key with
    | false => rfl
    | true =>
    rw [if_neg (by decide)]
    by_cases h0 : 0 < (i : Int)
    · have hg : l[i - 1]? = some (l[i - 1]'(by omega)) := List.getElem?_eq_getElem (by omega)
      rw [if_pos (decide_eq_true h0), wI_id (by omega) (by omega), show (i : Int) - 1 = ((i - 1 : Nat) : Int) by omega, idx_nat, hg, Option.bind_some, rcmp_m _ _ (by have := hk _ (List.getElem_mem (show i - 1 < l.length by omega)); omega), Option.bind_some, decide_eq_true h0]
      show _ = some (if (!(true && ((!true || decide (cmpL (l[i - 1]'(by omega)).Key x.Key < 0)) && wOk x))) = true then LR.ret false else LR.cont ((i + 1 : Nat) : Int))
      by_cases hc : 0 ≤ cmpL (l[i - 1]'(by omega)).Key x.Key
      · rw [if_pos (decide_eq_true hc), decide_eq_false (show ¬ cmpL (l[i - 1]'(by omega)).Key x.Key < 0 by omega)]; rfl
      · rw [if_neg (by rw [decide_eq_true_eq]; exact hc), decide_eq_true (show cmpL (l[i - 1]'(by omega)).Key x.Key < 0 by omega)]
        cases wOk x <;> rfl
    · rw [if_neg (by rw [decide_eq_true_eq]; exact h0), decide_eq_false h0]
      show _ = some (if (!(true && ((!false || decide (cmpL ((l[i - 1]?.map (·.Key)).getD []) x.Key < 0)) && wOk x))) = true then LR.ret false else LR.cont ((i + 1 : Nat) : Int))
      cases wOk x <;> rfl) (by
    unfold m46_r08_Writes_s2
    rw [if_neg (by rw [decide_eq_true_eq]; omega)]) with ⟨i, x, hx, hp, e⟩ | ⟨hp, e⟩
  · rw [e]
    refine ⟨false, rfl, fun h => (by cases h), fun h => ?_⟩
    have hm := List.mem_of_getElem? hx
    have hlt := (List.getElem?_eq_some_iff.1 hx).1
    unfold q46 at hp
    rw [h.1 x hm, h.2.1 x hm] at hp
    by_cases h0 : 0 < (i : Int)
    · have hg : l[i - 1]? = some (l[i - 1]'(by omega)) := List.getElem?_eq_getElem (by omega)
      have hpw := List.pairwise_iff_getElem.1 h.2.2 (i - 1) i (by rw [List.length_map]; omega) (by rw [List.length_map]; omega) (by omega)
      rw [List.getElem_map, List.getElem_map, (List.getElem?_eq_some_iff.1 hx).2] at hpw
      rw [decide_eq_true h0, hg] at hp
      have hp : (!(true && ((!true || decide (cmpL (l[i - 1]'(by omega)).Key x.Key < 0)) && true))) = true := hp
      rw [decide_eq_true hpw] at hp
      cases hp
    · rw [decide_eq_false h0] at hp
      cases hp
  · rw [e]
    refine ⟨true, rfl, fun _ => ?_, fun _ => rfl⟩
    have hq : ∀ (i : Nat) x, l[i]? = some x → q46 l i x = true := fun i x hx => by
      have := hp i x hx
      rwa [Bool.not_eq_false'] at this
    have h3 : ∀ (i : Nat) x, l[i]? = some x → kOk x.Key = true ∧ (¬ 0 < (i : Int) ∨ cmpL ((l[i - 1]?.map (·.Key)).getD []) x.Key < 0) ∧ wOk x = true := fun i x hx => by
      have := hq i x hx
      unfold q46 at this
      rw [Bool.and_eq_true, Bool.and_eq_true, Bool.or_eq_true, Bool.not_eq_true', decide_eq_false_iff_not, decide_eq_true_eq] at this
      exact this
    refine ⟨fun w hw => ?_, fun w hw => ?_, pw_of_adj _ fun j x y hx hy => ?_⟩
    · obtain ⟨i, hi⟩ := List.mem_iff_getElem?.1 hw
      exact (h3 i w hi).2.2
    · obtain ⟨i, hi⟩ := List.mem_iff_getElem?.1 hw
      exact (h3 i w hi).1
    · rw [List.getElem?_map] at hx hy
      cases hj : l[j]? with
      | none => rw [hj] at hx; cases hx
      | some u =>
      cases hj1 : l[j + 1]? with
      | none => rw [hj1] at hy; cases hy
      | some w =>
      rw [hj] at hx; rw [hj1] at hy
      cases hx; cases hy
      rcases (h3 (j + 1) w hj1).2.1 with h' | h'
      · omega
      · rw [show j + 1 - 1 = j by omega, hj] at h'
        exact h'

theorem pw_ext : ∀ {xs ys : Keys}, PW xs → PW ys → (∀ x, x ∈ xs ↔ x ∈ ys) → xs = ys
  | [], [], _, _, _ => rfl
  | [], y :: ys, _, _, h => absurd ((h y).2 (List.mem_cons_self ..)) (by simp)
  | x :: xs, [], _, _, h => absurd ((h x).1 (List.mem_cons_self ..)) (by simp)
  | x :: xs, y :: ys, hx, hy, h => by
    have hx' := List.pairwise_cons.1 hx
    have hy' := List.pairwise_cons.1 hy
    have e : x = y := by
      rcases List.mem_cons.1 ((h x).1 (List.mem_cons_self ..)) with e | h1
      · exact e
      rcases List.mem_cons.1 ((h y).2 (List.mem_cons_self ..)) with e | h2
      · exact e.symm
      have h3 := hy'.1 x h1
      have h4 := hx'.1 y h2
      have := cmpL_swap x y
      omega
    subst e
    have hne : ∀ z, z ∈ xs → z ≠ x := fun z hz e => by
      subst e
      have := hx'.1 z hz
      rw [cmpL_self] at this; omega
    have hne' : ∀ z, z ∈ ys → z ≠ x := fun z hz e => by
      subst e
      have := hy'.1 z hz
      rw [cmpL_self] at this; omega
    rw [pw_ext hx'.2 hy'.2 fun z => ⟨fun hz => (List.mem_cons.1 ((h z).1 (List.mem_cons_of_mem _ hz))).resolve_left (hne z hz), fun hz => (List.mem_cons.1 ((h z).2 (List.mem_cons_of_mem _ hz))).resolve_left (hne' z hz)⟩]

theorem inserts_m (l : List GApiWrite) (K : Keys) (hp : PW K) (hK : K.length ≤ 1000) (hk50 : ∀ k ∈ K, k.length ≤ 1000) (hl : l.length ≤ 1000) (hw : ∀ w ∈ l, w.Key.length ≤ 1000) :
    ∃ X, iterB (m17_r08_Install_s18 l) fuel (0, K) = some X ∧ PW X ∧ ∀ x, x ∈ X ↔ x ∈ K ∨ ∃ w ∈ l, w.Key = x := by
  obtain ⟨v, hv, hr⟩ := iterB_inv (f := m17_r08_Install_s18 l) (P := fun s => ∃ i : Nat, i ≤ l.length ∧ s.1 = (i : Int) ∧ PW s.2 ∧ s.2.length ≤ K.length + i ∧ ∀ x, x ∈ s.2 ↔ x ∈ K ∨ ∃ w ∈ l.take i, w.Key = x) (μ := fun s => l.length - s.1.toNat)
    (R := fun X => PW X ∧ ∀ x, x ∈ X ↔ x ∈ K ∨ ∃ w ∈ l, w.Key = x) (by
      rintro ⟨_, X⟩ ⟨i, hi, rfl, hX, hXl, hXm⟩
      have hX : PW X := hX
      have hXl : X.length ≤ K.length + i := hXl
      have hXm : ∀ x, x ∈ X ↔ x ∈ K ∨ ∃ w ∈ l.take i, w.Key = x := hXm
      unfold m17_r08_Install_s18
      dsimp only
      rcases Nat.lt_or_ge i l.length with hlt | hge
      · left
        have hx := List.getElem?_eq_getElem hlt
        have hin := rinsert_m X l[i].Key (by omega) (fun x hx' => by
          rcases (hXm x).1 hx' with h | ⟨w, h, rfl⟩
          · have := hk50 x h; omega
          · have := hw w (List.mem_of_mem_take h); omega) (by have := hw _ (List.getElem_mem hlt); omega)
        rw [if_pos (decide_eq_true (by omega)), idx_nat, hx, Option.bind_some, hin, Option.bind_some, wI_id (by omega) (by omega)]
        refine ⟨_, rfl, ⟨i + 1, hlt, rfl, ins_pw hX, ?_, fun x => ?_⟩, by dsimp only; omega⟩
        · dsimp only
          rw [ins_len]; split <;> omega
        · rw [List.take_succ_eq_append_getElem hlt]
          dsimp only
          rw [ins_mem, hXm]
          constructor
          · rintro (rfl | h | ⟨w, h, e⟩)
            · exact .inr ⟨l[i], List.mem_append_right _ (List.mem_singleton.2 rfl), rfl⟩
            · exact .inl h
            · exact .inr ⟨w, List.mem_append_left _ h, e⟩
          · rintro (h | ⟨w, h, e⟩)
            · exact .inr (.inl h)
            · rcases List.mem_append.1 h with h | h
              · exact .inr (.inr ⟨w, h, e⟩)
              · rw [List.mem_singleton.1 h] at e
                exact .inl e.symm
      · right
        have e : i = l.length := by omega
        subst e
        rw [if_neg (by rw [decide_eq_true_eq]; omega)]
        rw [List.take_length] at hXm
        exact ⟨_, rfl, hX, hXm⟩) fuel (0, K) ⟨0, Nat.zero_le _, rfl, hp, Nat.le_refl _, fun x => ⟨.inl, fun h => h.elim id fun ⟨w, h, _⟩ => by simp at h⟩⟩ (lt_fuel (by show l.length - 0 ≤ _; omega))
  exact ⟨v, hv, hr⟩
end Go.Proofs.Ytbojepclnfnmcaa.Abs
