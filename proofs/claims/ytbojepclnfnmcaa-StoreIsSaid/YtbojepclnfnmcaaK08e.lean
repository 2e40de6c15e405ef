/-
  Stores: as the document writes them; the same.
-/
import Derived.Test.YtbojepclnfnmcaaK08d
namespace Go.Proofs.Ytbojepclnfnmcaa.Abs


theorem theirs_in {C : List GChainChain} {T : Int} {K : Keys} {i : Nat} {c : GChainChain} (hc : C[i]? = some c) (hl : c.L.length ≤ 1000) (acc : List GR07Chain) :
    iterB (m19_l08_theirs_s5 ⟨K, C, T⟩ ((i : Int), acc)) fuel (0, []) = some (c.L.map vc) := by
  obtain ⟨v, hv, hr⟩ := iterB_inv (f := m19_l08_theirs_s5 ⟨K, C, T⟩ ((i : Int), acc)) (P := fun s => ∃ j : Nat, j ≤ c.L.length ∧ s = ((j : Int), (c.L.take j).map vc)) (μ := fun s => c.L.length - s.1.toNat)
    (R := fun v => v = c.L.map vc) (by
      rintro _ ⟨j, hj, rfl⟩
      unfold m19_l08_theirs_s5
      dsimp only
      rw [idx_nat, hc, Option.bind_some, Option.bind_some]
      rcases Nat.lt_or_ge j c.L.length with hlt | hge
      · left
        have hx := List.getElem?_eq_getElem hlt
        rw [if_pos (decide_eq_true (by omega)), idx_nat, hx, Option.bind_some, if_pos (by rw [List.length_map, List.length_take, List.length_singleton]; omega)]
        refine ⟨_, rfl, ⟨j + 1, hlt, ?_⟩, by simp only [wI_id (show -9223372036854775808 ≤ (j : Int) + 1 by omega) (by omega)]; omega⟩
        rw [wI_id (by omega) (by omega), List.take_succ_eq_append_getElem hlt, List.map_append]; rfl
      · right
        have e : j = c.L.length := by omega
        subst e
        rw [if_neg (by rw [decide_eq_true_eq]; omega)]
        exact ⟨_, rfl, by rw [List.take_length]⟩) fuel (0, []) ⟨0, Nat.zero_le _, by simp⟩ (lt_fuel (by show c.L.length - 0 ≤ _; omega))
  rw [hv, hr]

abbrev asR (c : GChainChain) : GR07Chain := ⟨c.L.map vc⟩
theorem theirs_m {K : Keys} {C : List GChainChain} {T : Int} (hC : C.length ≤ 1000) (hl : ∀ c ∈ C, c.L.length ≤ 1000) : m19_l08_theirs ⟨K, C, T⟩ = some ⟨K, C.map asR, T⟩ := by
  unfold m19_l08_theirs
  obtain ⟨v, hv, hr⟩ := iterB_inv (f := m19_l08_theirs_s2 ⟨K, C, T⟩) (P := fun s => ∃ j : Nat, j ≤ C.length ∧ s = ((j : Int), (C.take j).map asR)) (μ := fun s => C.length - s.1.toNat)
    (R := fun v => v = C.map asR) (by
      rintro _ ⟨j, hj, rfl⟩
      unfold m19_l08_theirs_s2
      dsimp only
      rcases Nat.lt_or_ge j C.length with hlt | hge
      · left
        have hx := List.getElem?_eq_getElem hlt
        rw [if_pos (decide_eq_true (by omega)), theirs_in hx (hl _ (List.getElem_mem hlt)), Option.bind_some]
        unfold m19_l08_theirs_k3
        dsimp only
        rw [if_pos (by rw [List.length_map, List.length_take, List.length_singleton]; omega)]
        refine ⟨_, rfl, ⟨j + 1, hlt, ?_⟩, by simp only [wI_id (show -9223372036854775808 ≤ (j : Int) + 1 by omega) (by omega)]; omega⟩
        rw [wI_id (by omega) (by omega), List.take_succ_eq_append_getElem hlt, List.map_append]; rfl
      · right
        have e : j = C.length := by omega
        subst e
        rw [if_neg (by rw [decide_eq_true_eq]; omega)]
        exact ⟨_, rfl, by rw [List.take_length]⟩) fuel (0, []) ⟨0, Nat.zero_le _, by simp⟩ (lt_fuel (by show C.length - 0 ≤ _; omega))
  rw [hv, Option.bind_some, hr]
  rfl

theorem same8_self (s : GR08Store) (hK : s.Keys.length ≤ 1000) (hC : s.Chains.length ≤ 1000) (hl : ∀ c ∈ s.Chains, c.L.length ≤ 1000) : m18_r08_Same s s = some true := by
  unfold m18_r08_Same
  rw [if_neg (by rw [decide_eq_true rfl]; decide), if_neg (by rw [decide_eq_true rfl]; decide), if_neg (by rw [decide_eq_true rfl]; decide)]
  unfold m18_r08_Same_k1
  rcases scan08 s.Keys (fun _ _ => false) (m18_r08_Same_s9 s s) (by omega) (fun i x hx => by
    have hlt := (List.getElem?_eq_some_iff.1 hx).1
    unfold m18_r08_Same_s9
    rw [if_pos (decide_eq_true (by omega)), idx_nat, hx, Option.bind_some, Option.bind_some, if_neg (by simp), if_neg (by decide), wI_id (by omega) (by omega)]; rfl) (by
    unfold m18_r08_Same_s9
    rw [if_neg (by rw [decide_eq_true_eq]; omega)]) with ⟨i, x, hx, hp, e⟩ | ⟨hp, e⟩
  · cases hp
  rw [e, Option.bind_some]
  show m18_r08_Same_k2 s s () = _
  unfold m18_r08_Same_k2
  rcases scan08 s.Chains (fun _ _ => false) (m18_r08_Same_s4 s s) (by omega) (fun i x hx => by
    have hlt := (List.getElem?_eq_some_iff.1 hx).1
    unfold m18_r08_Same_s4
    rw [if_pos (decide_eq_true (by omega)), idx_nat, hx, Option.bind_some, Option.bind_some, same_self _ (hl x (List.mem_of_getElem? hx)), Option.bind_some, if_neg (by decide), if_neg (by decide), wI_id (by omega) (by omega)]; rfl) (by
    unfold m18_r08_Same_s4
    rw [if_neg (by rw [decide_eq_true_eq]; omega)]) with ⟨i, x, hx, hp, e⟩ | ⟨hp, e⟩
  · cases hp
  rw [e]
  rfl

theorem wrote_m {K : Keys} {C : List GChainChain} {T : Int} {B : Nat} (h : OkS K C T B) (hB : B ≤ 1000) (hK : K.length ≤ 128) {k : List UInt8} {c : GChainChain} (hat : At K C k c) (t : Int) :
    m27_store_Wrote ⟨K, C, T⟩ k t = some (decide (t < lastTs c.L)) := by
  obtain ⟨hh, hc⟩ := At.hit h.pw hat
  unfold m27_store_Wrote
  dsimp only
  rw [find_m K k (by omega), Option.bind_some, hh, if_pos rfl, ssane_m h hB hK, Option.bind_some, if_pos rfl, idx_nat, hc, Option.bind_some, last_eq (c := c) (by have := (h.cs c (List.mem_of_getElem? hc)).2.2.2; omega), Option.bind_some]
end Go.Proofs.Ytbojepclnfnmcaa.Abs
