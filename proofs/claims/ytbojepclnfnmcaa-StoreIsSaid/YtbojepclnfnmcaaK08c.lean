/-
  Stores: stores that grew; what is got.
-/
import Derived.Test.YtbojepclnfnmcaaK08b
namespace Go.Proofs.Ytbojepclnfnmcaa.Abs


theorem awake08 : m9_l08_awake = some true := by decide +kernel

theorem OkS.mono {K : Keys} {C : List GChainChain} {T : Int} {B B' : Nat} (h : OkS K C T B) (hb : B ≤ B') : OkS K C T B' :=
  ⟨h.t0, h.t1, h.cl, h.ks, h.pw, fun c hc => ⟨(h.cs c hc).1, (h.cs c hc).2.1, (h.cs c hc).2.2.1, Nat.le_trans (h.cs c hc).2.2.2 hb⟩⟩

theorem fewW_m (l : List GApiWrite) : ∃ b, m12_r08_FewWrites l = some b ∧ (b = true → l.length ≤ 140 ∧ ∀ w ∈ l, w.Key.length ≤ 50 ∧ w.Val.length ≤ 100) := by
  unfold m12_r08_FewWrites
  by_cases h : 140 < (l.length : Int)
  · rw [if_pos (decide_eq_true h)]; exact ⟨false, rfl, fun h => (by cases h)⟩
  rw [if_neg (by rw [decide_eq_true_eq]; exact h)]
  rcases scan08 l (fun _ w => decide (50 < (w.Key.length : Int)) || decide (100 < (w.Val.length : Int))) (m12_r08_FewWrites_s2 l) (by omega) (fun i x hx => by
    have hlt := (List.getElem?_eq_some_iff.1 hx).1
    unfold m12_r08_FewWrites_s2
    rw [if_pos (decide_eq_true (by omega)), idx_nat, hx, Option.bind_some, Option.bind_some]
    by_cases h1 : 50 < (x.Key.length : Int)
    · rw [if_pos (decide_eq_true h1), decide_eq_true h1]; rfl
    rw [if_neg (by rw [decide_eq_true_eq]; exact h1), decide_eq_false h1, Bool.false_or]
    by_cases h2 : 100 < (x.Val.length : Int)
    · rw [if_pos (decide_eq_true h2), decide_eq_true h2]; rfl
    · rw [if_neg (by rw [decide_eq_true_eq]; exact h2), decide_eq_false h2, if_neg (by decide), wI_id (by omega) (by omega)]; rfl) (by
    unfold m12_r08_FewWrites_s2
    rw [if_neg (by rw [decide_eq_true_eq]; omega)]) with ⟨i, x, hx, hp, e⟩ | ⟨hp, e⟩
  · rw [e]; exact ⟨false, rfl, fun h => (by cases h)⟩
  · rw [e]
    refine ⟨true, rfl, fun _ => ⟨by omega, fun w hw => ?_⟩⟩
    obtain ⟨i, hi⟩ := List.mem_iff_getElem?.1 hw
    have := hp i w hi
    simp only [Bool.or_eq_false_iff, decide_eq_false_iff_not] at this
    omega

/-- What is seen of a chain. -/
def valC (l : List GChainVer) (t : Int) : List UInt8 × Bool := match pc l t with
  | 0 => ([], false)
  | n + 1 => match l[n]? with
    | some v => if v.Del then ([], false) else (v.Val, true)
    | none => ([], false)
theorem value_m {c : GChainChain} (h : c.L.length ≤ 1000) (t : Int) : m39_chain_Value c t = some (valC c.L t) := by
  have hle := pc_le c.L t
  unfold valC
  cases hp : pc c.L t with
  | zero =>
    rw [value_of (at0 h hp)]
    rfl
  | succ n =>
    have hx : c.L[n]? = some (c.L[n]'(by omega)) := List.getElem?_eq_getElem (by omega)
    rw [value_of (at1 (t := t) h (by omega) (by rw [hp]; exact hx))]
    dsimp only
    rw [hx]
    dsimp only
    cases (c.L[n]'(by omega)).Del <;> rfl

theorem valC_early {l : List GChainVer} {v : GChainVer} (h : OkC (l ++ [v])) {t : Int} (ht : t < v.Ts) : valC (l ++ [v]) t = valC l t := by
  have hl : OkC l := by
    have := okC_take h l.length
    rwa [List.take_left] at this
  have hle := pc_le l t
  have e : pc (l ++ [v]) t = pc l t := by
    refine pc_eq h (by rw [List.length_append]; omega) (fun i u hi hu => ?_) (fun i u hi hu => ?_)
    · rw [List.getElem?_append_left (by omega)] at hu
      exact (pc_iff hl t hu).1 hi
    · rcases Nat.lt_or_ge i l.length with hlt | hge
      · rw [List.getElem?_append_left hlt] at hu
        have : ¬ u.Ts ≤ t := fun hh => by have := (pc_iff hl t hu).2 hh; omega
        omega
      · rw [List.getElem?_append_right hge] at hu
        have : i - l.length = 0 := by
          have := (List.getElem?_eq_some_iff.1 hu).1
          rw [List.length_singleton] at this; omega
        rw [this] at hu
        cases hu
        exact ht
  unfold valC
  rw [e]
  cases hp : pc l t with
  | zero => rfl
  | succ n =>
    dsimp only
    rw [List.getElem?_append_left (by omega)]
theorem valC_late {l : List GChainVer} {v : GChainVer} (h : OkC (l ++ [v])) {t : Int} (ht : v.Ts ≤ t) : valC (l ++ [v]) t = if v.Del then ([], false) else (v.Val, true) := by
  have e : pc (l ++ [v]) t = l.length + 1 := by
    have hg : (l ++ [v])[l.length]? = some v := by rw [List.getElem?_append_right (Nat.le_refl _), Nat.sub_self]; rfl
    have h1 := (pc_iff h t hg).2 ht
    have h2 := pc_le (l ++ [v]) t
    rw [List.length_append, List.length_singleton] at h2
    omega
  unfold valC
  rw [e]
  dsimp only
  rw [List.getElem?_append_right (Nat.le_refl _), Nat.sub_self]
  rfl

theorem get_m {K : Keys} {C : List GChainChain} {T : Int} {B : Nat} (h : OkS K C T B) (hB : B ≤ 1000) (hK : K.length ≤ 128) (k : List UInt8) (t : Int) :
    (∃ c, At K C k c ∧ m14_store_Get ⟨K, C, T⟩ k t = some (valC c.L t)) ∨ ((¬ ∃ c, At K C k c) ∧ m14_store_Get ⟨K, C, T⟩ k t = some ([], false)) := by
  unfold m14_store_Get
  dsimp only
  rw [find_m K k (by omega), Option.bind_some]
  cases hh : hit K k with
  | false =>
    refine .inr ⟨fun ⟨c0, hc0⟩ => (by rw [(At.hit h.pw hc0).1] at hh; cases hh), ?_⟩
    rfl
  | true =>
    obtain ⟨c0, hat, hget⟩ := At.of_hit h.cl hh
    refine .inl ⟨c0, hat, ?_⟩
    rw [if_neg (fun h => Bool.noConfusion h)]
    show (m23_store_Sane ⟨K, C, T⟩).bind _ = _
    rw [ssane_m h hB hK, Option.bind_some, if_neg (by decide)]
    unfold m14_store_Get_k2
    dsimp only
    rw [idx_nat, hget, Option.bind_some, value_m (c := c0) (by have := (h.cs c0 (List.mem_of_getElem? hget)).2.2.2; omega), Option.bind_some]
end Go.Proofs.Ytbojepclnfnmcaa.Abs
