/-
  Stores: what is scanned.
-/
import Derived.Test.YtbojepclnfnmcaaK08c
namespace Go.Proofs.Ytbojepclnfnmcaa.Abs


/-- What one key gives a scan. -/
def ent (r : GApiRange) (t : Int) (p : List UInt8 × GChainChain) : List GApiKV := if hasV r p.1 && (valC p.2.L t).2 then [⟨p.1, (valC p.2.L t).1⟩] else []
def ents (r : GApiRange) (t : Int) (K : Keys) (C : List GChainChain) : List GApiKV := (K.zip C).flatMap (ent r t)

theorem ent_len (r : GApiRange) (t : Int) (p : List UInt8 × GChainChain) : (ent r t p).length ≤ 1 := by
  unfold ent; split <;> simp
theorem flat8_len {α β : Type} (f : α → List β) (hf : ∀ x, (f x).length ≤ 1) : ∀ l : List α, (l.flatMap f).length ≤ l.length
  | [] => Nat.le_refl _
  | x :: l => by
    have := hf x
    have := flat8_len f hf l
    rw [List.flatMap_cons, List.length_append, List.length_cons]; omega
theorem zip_get {α β : Type} {K : List α} {C : List β} {i : Nat} {k : α} {c : β} (hk : K[i]? = some k) (hc : C[i]? = some c) : (K.zip C)[i]? = some (k, c) := by
  rw [List.getElem?_zip_eq_some]
  exact ⟨hk, hc⟩
theorem flat_step {α β : Type} {f : α → List β} {l : List α} {i : Nat} {x : α} (h : l[i]? = some x) : (l.take (i + 1)).flatMap f = (l.take i).flatMap f ++ f x := by
  obtain ⟨hlt, rfl⟩ := List.getElem?_eq_some_iff.1 h
  rw [List.take_succ_eq_append_getElem hlt, List.flatMap_append, List.flatMap_singleton]
theorem flat_pre {α β : Type} (f : α → List β) (l : List α) (i : Nat) : ∃ rest, l.flatMap f = (l.take i).flatMap f ++ rest :=
  ⟨(l.drop i).flatMap f, by rw [← List.flatMap_append, List.take_append_drop]⟩

theorem scan_m {K : Keys} {C : List GChainChain} {T : Int} {B : Nat} (h : OkS K C T B) (hB : B ≤ 1000) (hK : K.length ≤ 128) (r : GApiRange) (t most : Int) :
    m21_store_Scan ⟨K, C, T⟩ r t most = some ((ents r t K C).take most.toNat) := by
  have hcl := h.cl
  have hzl : (K.zip C).length = K.length := by rw [List.length_zip]; omega
  unfold m21_store_Scan
  rw [ssane_m h hB hK, Option.bind_some, if_neg (by decide)]
  obtain ⟨v, hv, hr⟩ := iterB_inv (f := m21_store_Scan_s3 ⟨K, C, T⟩ r t most) (P := fun s => ∃ i : Nat, i ≤ K.length ∧ s = ((i : Int), ((((K.zip C).take i).flatMap (ent r t)).take most.toNat))) (μ := fun s => K.length - s.1.toNat)
    (R := fun v => v = (ents r t K C).take most.toNat) (by
      rintro _ ⟨i, hi, rfl⟩
      unfold m21_store_Scan_s3
      dsimp only
      rcases Nat.lt_or_ge i K.length with hlt | hge
      · have hx := List.getElem?_eq_getElem hlt
        have hc : C[i]? = some (C[i]'(by omega)) := List.getElem?_eq_getElem (by omega)
        have hst := flat_step (f := ent r t) (zip_get hx hc)
        have hlen : (((K.zip C).take i).flatMap (ent r t)).length ≤ 128 := by
          refine Nat.le_trans (flat8_len _ (ent_len r t) _) ?_
          rw [List.length_take]; omega
        rw [if_pos (decide_eq_true (by omega)), idx_nat, hx, Option.bind_some]
        by_cases hm : most ≤ (((((K.zip C).take i).flatMap (ent r t)).take most.toNat).length : Int)
        · rw [if_pos (decide_eq_true hm)]
          refine .inr ⟨_, rfl, ?_⟩
          rw [List.length_take] at hm
          obtain ⟨rest, e⟩ := flat_pre (ent r t) (K.zip C) i
          unfold ents
          rw [e, List.take_append_of_le_length (by omega)]
        · rw [if_neg (by rw [decide_eq_true_eq]; exact hm)]
          rw [List.length_take] at hm
          have hid : (((K.zip C).take i).flatMap (ent r t)).take most.toNat = ((K.zip C).take i).flatMap (ent r t) := List.take_of_length_le (by omega)
          have hnext : ∀ x, ent r t (K[i], C[i]'(by omega)) = x → x.length ≤ 1 → (((K.zip C).take (i + 1)).flatMap (ent r t)).take most.toNat = ((K.zip C).take i).flatMap (ent r t) ++ x := fun x hx1 hx2 => by
            rw [hst, hx1, List.take_of_length_le (by rw [List.length_append]; omega)]
          rw [show (GApiRange.mk r.Lo r.Hi r.Open) = r from rfl, has_m, Option.bind_some, hid]
          left
          cases hh : hasV r K[i] with
          | false =>
            rw [if_pos (show (!false) = true from rfl)]
            refine ⟨_, rfl, ⟨i + 1, hlt, ?_⟩, by simp only [wI_id (show -9223372036854775808 ≤ (i : Int) + 1 by omega) (by omega)]; omega⟩
            rw [wI_id (by omega) (by omega), hnext [] (by unfold ent; dsimp only; rw [hh]; rfl) (by decide), List.append_nil]; rfl
          | true =>
            rw [if_neg (by decide), idx_nat, hc, Option.bind_some, value_m (c := C[i]'(by omega)) (by have := (h.cs _ (List.getElem_mem (show i < C.length by omega))).2.2.2; omega), Option.bind_some]
            cases hv : (valC (C[i]'(by omega)).L t).2 with
            | false =>
              rw [if_neg (by decide)]
              refine ⟨_, rfl, ⟨i + 1, hlt, ?_⟩, by simp only [wI_id (show -9223372036854775808 ≤ (i : Int) + 1 by omega) (by omega)]; omega⟩
              rw [wI_id (by omega) (by omega), hnext [] (by unfold ent; dsimp only; rw [hh, hv]; rfl) (by decide), List.append_nil]; rfl
            | true =>
              rw [if_pos rfl, if_pos (by rw [List.length_singleton]; omega)]
              refine ⟨_, rfl, ⟨i + 1, hlt, ?_⟩, by simp only [wI_id (show -9223372036854775808 ≤ (i : Int) + 1 by omega) (by omega)]; omega⟩
              rw [wI_id (by omega) (by omega), hnext [⟨K[i], (valC (C[i]'(by omega)).L t).1⟩] (by unfold ent; dsimp only; rw [hh, hv]; rfl) (Nat.le_refl _)]; rfl
      · have e : i = K.length := by omega
        subst e
        rw [if_neg (by rw [decide_eq_true_eq]; omega)]
        refine .inr ⟨_, rfl, ?_⟩
        unfold ents
        rw [← hzl, List.take_length]) fuel (0, []) ⟨0, Nat.zero_le _, by simp⟩ (lt_fuel (by show K.length - 0 ≤ _; omega))
  rw [hv, Option.bind_some, hr]
  rfl

theorem ents_len (r : GApiRange) (t : Int) (K : Keys) (C : List GChainChain) : (ents r t K C).length ≤ K.length := by
  refine Nat.le_trans (flat8_len _ (ent_len r t) _) ?_
  rw [List.length_zip]; omega

theorem kvs_m (xs : List GApiKV) (hn : xs.length ≤ 1000000000000000000) : m20_r05_KVs xs xs = some true := by
  unfold m20_r05_KVs
  rw [if_neg (by rw [decide_eq_true rfl]; decide)]
  rcases scan08 xs (fun _ _ => false) (m20_r05_KVs_s2 xs xs) hn (fun i x hx => by
    have hlt := (List.getElem?_eq_some_iff.1 hx).1
    unfold m20_r05_KVs_s2
    rw [if_pos (decide_eq_true (by omega)), idx_nat, hx, Option.bind_some, Option.bind_some, if_neg (by simp), Option.bind_some, Option.bind_some, if_neg (by simp), if_neg (by decide), wI_id (by omega) (by omega)]; rfl) (by
    unfold m20_r05_KVs_s2
    rw [if_neg (by rw [decide_eq_true_eq]; omega)]) with ⟨i, x, hx, hp, e⟩ | ⟨hp, e⟩
  · cases hp
  · rw [e]; rfl
end Go.Proofs.Ytbojepclnfnmcaa.Abs
