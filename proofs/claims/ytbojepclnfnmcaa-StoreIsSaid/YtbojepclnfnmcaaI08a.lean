/-
  StoreIs: may a store be?
-/
import Derived.Test.YtbojepclnfnmcaaK08f
namespace Go.Proofs.Ytbojepclnfnmcaa.Abs


theorem rsaneK (k : List UInt8) : m55_r06_Sane k = some (kOk k) := by
  obtain ⟨v, h1, h2⟩ := saneK k
  rw [kSane_m] at h1
  rw [h2, h1]

def SP (K : Keys) (C : List GChainChain) (T : Int) : Prop :=
  0 ≤ T ∧ T ≤ 1099511627776 ∧ C.length = K.length ∧ K.length ≤ 128 ∧ (∀ k ∈ K, kOk k = true) ∧ PW K ∧ ∀ c ∈ C, c.L ≠ [] ∧ OkC c.L ∧ lastTs c.L ≤ T
theorem SP.ok {K : Keys} {C : List GChainChain} {T : Int} {B : Nat} (h : SP K C T) (hB : ∀ c ∈ C, c.L.length ≤ B) : OkS K C T B :=
  ⟨h.1, h.2.1, h.2.2.1, h.2.2.2.2.1, h.2.2.2.2.2.1, fun c hc => ⟨(h.2.2.2.2.2.2 c hc).1, (h.2.2.2.2.2.2 c hc).2.1, (h.2.2.2.2.2.2 c hc).2.2, hB c hc⟩⟩

def cb (T : Int) (c : GChainChain) : Bool := !decide ((c.L.length : Int) = 0) && ((m52_chain_Sane c).getD false && !decide (T < lastTs c.L))
theorem cb_iff {T : Int} {c : GChainChain} (h : c.L.length ≤ 1000) : cb T c = true ↔ c.L ≠ [] ∧ OkC c.L ∧ lastTs c.L ≤ T := by
  have h0 : ((c.L.length : Int) = 0) ↔ c.L = [] := ⟨fun e => List.eq_nil_of_length_eq_zero (by omega), fun e => by rw [e]; rfl⟩
  unfold cb
  rw [Bool.and_eq_true, Bool.and_eq_true, Bool.not_eq_true', Bool.not_eq_true', decide_eq_false_iff_not, decide_eq_false_iff_not, h0]
  rcases sane_cases h with ⟨e, hk⟩ | ⟨e, hk⟩
  · rw [e]
    exact ⟨fun ⟨a, _, b⟩ => ⟨a, hk, by omega⟩, fun ⟨a, _, b⟩ => ⟨a, rfl, by omega⟩⟩
  · rw [e]
    exact ⟨fun ⟨a, b, _⟩ => (by cases b), fun ⟨_, b, _⟩ => absurd b hk⟩

theorem ssane_iff {K : Keys} {C : List GChainChain} {T : Int} (hK : K.length ≤ 1000) (hC : C.length ≤ 1000) (hB : ∀ c ∈ C, c.L.length ≤ 1000) : ∃ b, m23_store_Sane ⟨K, C, T⟩ = some b ∧ (b = true ↔ SP K C T) := by
  unfold m23_store_Sane
  dsimp only
  by_cases h1 : T < 0
  · rw [if_pos (decide_eq_true h1)]
    exact ⟨false, rfl, fun h => (by cases h), fun h => by have := h.1; omega⟩
  rw [if_neg (by rw [decide_eq_true_eq]; exact h1)]
  by_cases h2 : 1099511627776 < T
  · rw [if_pos (decide_eq_true h2)]
    exact ⟨false, rfl, fun h => (by cases h), fun h => by have := h.2.1; omega⟩
  rw [if_neg (by rw [decide_eq_true_eq]; exact h2)]
  by_cases h3 : 128 < (K.length : Int)
  · rw [if_pos (decide_eq_true h3)]
    exact ⟨false, rfl, fun h => (by cases h), fun h => by have := h.2.2.2.1; omega⟩
  rw [if_neg (by rw [decide_eq_true_eq]; exact h3)]
  by_cases h4 : ¬ (C.length : Int) = K.length
  · rw [if_pos (by rw [decide_eq_false h4]; rfl)]
    exact ⟨false, rfl, fun h => (by cases h), fun h => by have := h.2.2.1; omega⟩
  replace h4 := Decidable.not_not.1 h4
  rw [if_neg (by rw [decide_eq_true h4]; decide)]
  obtain ⟨b, hb, hb2⟩ := saneKeys_m K (by omega)
  rw [hb, Option.bind_some]
  cases b with
  | false => exact ⟨false, rfl, fun h => (by cases h), fun h => absurd (hb2.2 ⟨h.2.2.2.2.1, h.2.2.2.2.2.1⟩) (by decide)⟩
  | true =>
  obtain ⟨hk, hp⟩ := hb2.1 rfl
  rw [if_neg (by decide)]
  unfold m23_store_Sane_k1
  rcases scan08 C (fun _ c => !cb T c) (m23_store_Sane_s3 ⟨K, C, T⟩) (by omega) (fun i x hx => by
    have hlt := (List.getElem?_eq_some_iff.1 hx).1
    have hl := hB x (List.mem_of_getElem? hx)
    unfold m23_store_Sane_s3 cb
    dsimp only
    rw [if_pos (decide_eq_true (by omega)), idx_nat, hx, Option.bind_some]
    by_cases e0 : (x.L.length : Int) = 0
    · rw [if_pos (decide_eq_true e0), decide_eq_true e0]; rfl
    rw [if_neg (by rw [decide_eq_true_eq]; exact e0), decide_eq_false e0]
    rcases sane_cases hl with ⟨e, _⟩ | ⟨e, _⟩
    · rw [e, Option.bind_some, if_neg (by decide), last_eq hl, Option.bind_some]
      by_cases e1 : T < lastTs x.L
      · rw [if_pos (decide_eq_true e1), decide_eq_true e1]; rfl
      · rw [if_neg (by rw [decide_eq_true_eq]; exact e1), decide_eq_false e1, wI_id (by omega) (by omega)]; rfl
    · rw [e]; rfl) (by
    unfold m23_store_Sane_s3
    dsimp only
    rw [if_neg (by rw [decide_eq_true_eq]; omega)]) with ⟨i, x, hx, hp2, e⟩ | ⟨hp2, e⟩
  · rw [e]
    refine ⟨false, rfl, fun h => (by cases h), fun h => ?_⟩
    have := (cb_iff (T := T) (hB x (List.mem_of_getElem? hx))).2 (h.2.2.2.2.2.2 x (List.mem_of_getElem? hx))
    rw [this] at hp2; cases hp2
  · rw [e]
    refine ⟨true, rfl, fun _ => ⟨by omega, by omega, by omega, by omega, hk, hp, fun c hc => ?_⟩, fun _ => rfl⟩
    obtain ⟨i, hi⟩ := List.mem_iff_getElem?.1 hc
    have := hp2 i c hi
    exact (cb_iff (hB c hc)).1 (by simpa using this)

abbrev asC (c : GR07Chain) : GChainChain := ⟨c.L.map cv⟩
theorem cb_as (T : Int) (c : GR07Chain) : cb T (asC c) = (!decide ((c.L.length : Int) = 0) && ((m52_chain_Sane (asC c)).getD false && !decide (T < lastTs (c.L.map cv)))) := by
  unfold cb
  have : (asC c).L.length = c.L.length := List.length_map _
  rw [this]
theorem rsane_iff {K : Keys} {R : List GR07Chain} {T : Int} (hK : K.length ≤ 1000) (hk50 : ∀ k ∈ K, k.length ≤ 1000) (hB : ∀ c ∈ R, c.L.length ≤ 1000) : ∃ b, m24_r08_Sane ⟨K, R, T⟩ = some b ∧ (b = true ↔ SP K (R.map asC) T) := by
  have hlm : (R.map asC).length = R.length := List.length_map _
  unfold m24_r08_Sane
  dsimp only
  by_cases h4 : ¬ (K.length : Int) = R.length
  · rw [if_pos (by rw [decide_eq_false h4]; rfl)]
    exact ⟨false, rfl, fun h => (by cases h), fun h => by have := h.2.2.1; omega⟩
  replace h4 := Decidable.not_not.1 h4
  rw [if_neg (by rw [decide_eq_true h4]; decide)]
  by_cases h3 : 128 < (K.length : Int)
  · rw [if_pos (decide_eq_true h3)]
    exact ⟨false, rfl, fun h => (by cases h), fun h => by have := h.2.2.2.1; omega⟩
  rw [if_neg (by rw [decide_eq_true_eq]; exact h3), rsorted_eq K (fun k hk => by have := hk50 k hk; omega)]
  obtain ⟨v, hv⟩ := sorted_some K (by omega)
  rw [hv, Option.bind_some]
  cases v with
  | false => exact ⟨false, rfl, fun h => (by cases h), fun h => by rw [sorted_m h.2.2.2.2.2.1 (by omega)] at hv; cases hv⟩
  | true =>
  have hp := sorted_conv (by omega) hv
  rw [if_neg (by decide)]
  by_cases h1 : T < 0
  · rw [if_pos (decide_eq_true h1)]
    exact ⟨false, rfl, fun h => (by cases h), fun h => by have := h.1; omega⟩
  rw [if_neg (by rw [decide_eq_true_eq]; exact h1)]
  by_cases h2 : 1099511627776 < T
  · rw [if_pos (decide_eq_true h2)]
    exact ⟨false, rfl, fun h => (by cases h), fun h => by have := h.2.1; omega⟩
  rw [if_neg (by rw [decide_eq_true_eq]; exact h2)]
  unfold m24_r08_Sane_k1
  rcases scan08 K (fun i k => !(kOk k && match R[i]? with | some c => cb T (asC c) | none => true)) (m24_r08_Sane_s3 ⟨K, R, T⟩) (by omega) (fun i x hx => by
    have hlt := (List.getElem?_eq_some_iff.1 hx).1
    have hr : R[i]? = some (R[i]'(by omega)) := List.getElem?_eq_getElem (by omega)
    have hl := hB _ (List.getElem_mem (show i < R.length by omega))
    unfold m24_r08_Sane_s3
    dsimp only
    rw [if_pos (decide_eq_true (by omega)), idx_nat, hr, Option.bind_some, idx_nat, hx, Option.bind_some, rsaneK, Option.bind_some]
    dsimp only
    generalize R[i]'(by omega) = c at hl
    have hlc : (c.L.map cv).length ≤ 1000 := by rw [List.length_map]; exact hl
    show _ = some (if (!(kOk x && cb T (asC c))) = true then LR.ret false else LR.cont ((i + 1 : Nat) : Int))
    cases kOk x with
    | false => rfl
    | true =>
    rw [if_neg (by decide), cb_as]
    rcases rsane_cases hl with ⟨e, e2⟩ | ⟨e, e2⟩
    · rcases sane_cases (c := asC c) hlc with ⟨e3, _⟩ | ⟨_, e3⟩
      · rw [e, Option.bind_some, if_neg (by decide), e3]
        by_cases e0 : (c.L.length : Int) = 0
        · rw [if_pos (decide_eq_true e0), decide_eq_true e0]; rfl
        rw [if_neg (by rw [decide_eq_true_eq]; exact e0), decide_eq_false e0, rlast_eq hl, Option.bind_some]
        by_cases e1 : T < lastTs (c.L.map cv)
        · rw [if_pos (decide_eq_true e1), decide_eq_true e1]; rfl
        · rw [if_neg (by rw [decide_eq_true_eq]; exact e1), decide_eq_false e1, wI_id (by omega) (by omega)]; rfl
      · exact absurd e2 e3
    · rcases sane_cases (c := asC c) hlc with ⟨_, e3⟩ | ⟨e3, _⟩
      · exact absurd e3 e2
      · rw [e, e3, Option.bind_some, if_pos (show (!false) = true from rfl)]
        cases decide ((c.L.length : Int) = 0) <;> rfl) (by
    unfold m24_r08_Sane_s3
    dsimp only
    rw [if_neg (by rw [decide_eq_true_eq]; omega)]) with ⟨i, x, hx, hp2, e⟩ | ⟨hp2, e⟩
  · rw [e]
    refine ⟨false, rfl, fun h => (by cases h), fun h => ?_⟩
    have hlt := (List.getElem?_eq_some_iff.1 hx).1
    have hr : R[i]? = some (R[i]'(by omega)) := List.getElem?_eq_getElem (by omega)
    have hm := List.getElem_mem (show i < R.length by omega)
    rw [hr, h.2.2.2.2.1 x (List.mem_of_getElem? hx)] at hp2
    dsimp only at hp2
    rw [(cb_iff (T := T) (c := asC (R[i]'(by omega))) (by show (List.map cv _).length ≤ _; rw [List.length_map]; exact hB _ hm)).2 (h.2.2.2.2.2.2 _ (List.mem_map.2 ⟨_, hm, rfl⟩))] at hp2
    cases hp2
  · rw [e]
    refine ⟨true, rfl, fun _ => ⟨by omega, by omega, by omega, by omega, fun k hk => ?_, hp, fun c hc => ?_⟩, fun _ => rfl⟩
    · obtain ⟨i, hi⟩ := List.mem_iff_getElem?.1 hk
      have := hp2 i k hi
      rw [Bool.not_eq_false', Bool.and_eq_true] at this
      exact this.1
    · obtain ⟨d, hd, rfl⟩ := List.mem_map.1 hc
      obtain ⟨i, hi⟩ := List.mem_iff_getElem?.1 hd
      have hlt := (List.getElem?_eq_some_iff.1 hi).1
      have := hp2 i _ (List.getElem?_eq_getElem (show i < K.length by omega))
      rw [hi, Bool.not_eq_false', Bool.and_eq_true] at this
      exact (cb_iff (c := asC d) (by show (List.map cv _).length ≤ _; rw [List.length_map]; exact hB _ hd)).1 this.2

/-- Both say the same. -/
theorem sane_both {K : Keys} {R : List GR07Chain} {T : Int} (hK : K.length ≤ 1000) (hR : R.length ≤ 1000) (hk50 : ∀ k ∈ K, k.length ≤ 1000) (hB : ∀ c ∈ R, c.L.length ≤ 1000) :
    ∃ b, m23_store_Sane ⟨K, R.map asC, T⟩ = some b ∧ m24_r08_Sane ⟨K, R, T⟩ = some b ∧ (b = true ↔ SP K (R.map asC) T) := by
  obtain ⟨b, h1, h2⟩ := ssane_iff (K := K) (C := R.map asC) (T := T) hK (by rw [List.length_map]; exact hR) (fun c hc => by
    obtain ⟨d, hd, rfl⟩ := List.mem_map.1 hc
    show (List.map cv _).length ≤ _
    rw [List.length_map]; exact hB d hd)
  obtain ⟨b', h3, h4⟩ := rsane_iff (K := K) (R := R) (T := T) hK hk50 hB
  have : b = b' := by rw [Bool.eq_iff_iff]; exact h2.trans h4.symm
  subst this
  exact ⟨b, h1, h3, h2⟩
end Go.Proofs.Ytbojepclnfnmcaa.Abs
