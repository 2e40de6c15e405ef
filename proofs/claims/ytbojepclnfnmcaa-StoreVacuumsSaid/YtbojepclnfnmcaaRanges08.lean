/-
  StoreRanges.
-/
import Derived.Test.YtbojepclnfnmcaaK08d
namespace Go.Proofs.Ytbojepclnfnmcaa.Abs


theorem hasV_low {r : GApiRange} {k x : List UInt8} (hk : hasV r k = true) (hx : cmpL x k < 0) : hasV ⟨r.Lo, k, false⟩ x = hasV r x ∧ hasV ⟨k, r.Hi, r.Open⟩ x = false := by
  unfold hasV at *
  dsimp only
  rw [Bool.and_eq_true, decide_eq_true_eq] at hk
  rw [decide_eq_true hx, decide_eq_false (show ¬ 0 ≤ cmpL x k by omega)]
  refine ⟨?_, rfl⟩
  have : (r.Open || decide (cmpL x r.Hi < 0)) = true := by
    rcases Bool.or_eq_true .. |>.mp hk.2 with h | h
    · rw [h]; rfl
    · rw [decide_eq_true ((cmpL_trans (Int.le_of_lt hx) (Int.le_of_lt (of_decide_eq_true h))).2 (.inl hx)), Bool.or_true]
  rw [this]; rfl
theorem hasV_high {r : GApiRange} {k x : List UInt8} (hk : hasV r k = true) (hx : 0 ≤ cmpL x k) : hasV ⟨r.Lo, k, false⟩ x = false ∧ hasV ⟨k, r.Hi, r.Open⟩ x = hasV r x := by
  unfold hasV at *
  dsimp only
  rw [Bool.and_eq_true, decide_eq_true_eq] at hk
  have h1 : 0 ≤ cmpL x r.Lo := cmpL_ge.2 (cmpL_trans (cmpL_ge.1 hk.1) (cmpL_ge.1 hx)).1
  rw [decide_eq_false (show ¬ cmpL x k < 0 by omega), decide_eq_true hx, decide_eq_true h1]
  exact ⟨rfl, rfl⟩
theorem ent_has {r s : GApiRange} {t : Int} {p : List UInt8 × GChainChain} (h : hasV r p.1 = hasV s p.1) : ent r t p = ent s t p := by
  unfold ent; rw [h]
theorem ent_not {r : GApiRange} {t : Int} {p : List UInt8 × GChainChain} (h : hasV r p.1 = false) : ent r t p = [] := by
  unfold ent; rw [h]; rfl

theorem split_ents {r : GApiRange} {k : List UInt8} (t : Int) (hk : hasV r k = true) : ∀ L : List (List UInt8 × GChainChain), PW (L.map (·.1)) →
    L.flatMap (ent ⟨r.Lo, k, false⟩ t) ++ L.flatMap (ent ⟨k, r.Hi, r.Open⟩ t) = L.flatMap (ent r t)
  | [], _ => rfl
  | p :: L, hp => by
    have hp' := List.pairwise_cons.1 hp
    by_cases hx : cmpL p.1 k < 0
    · rw [List.flatMap_cons, List.flatMap_cons, List.flatMap_cons, ent_not (hasV_low hk hx).2, List.nil_append, ent_has (hasV_low hk hx).1, List.append_assoc, split_ents t hk L hp'.2]
    · have hall : ∀ q ∈ p :: L, 0 ≤ cmpL q.1 k := fun q hq => by
        rcases List.mem_cons.1 hq with rfl | hq
        · omega
        · have h1 := hp'.1 q.1 (List.mem_map.2 ⟨q, hq, rfl⟩)
          have h2 : cmpL k p.1 ≤ 0 := cmpL_ge.1 (by omega)
          exact cmpL_ge.2 (cmpL_trans h2 (Int.le_of_lt h1)).1
      have e1 : (p :: L).flatMap (ent ⟨r.Lo, k, false⟩ t) = [] := List.flatMap_eq_nil_iff.2 fun q hq => ent_not (hasV_high hk (hall q hq)).1
      have e2 : (p :: L).flatMap (ent ⟨k, r.Hi, r.Open⟩ t) = (p :: L).flatMap (ent r t) := by
        have : ∀ M : List (List UInt8 × GChainChain), (∀ q ∈ M, 0 ≤ cmpL q.1 k) → M.flatMap (ent ⟨k, r.Hi, r.Open⟩ t) = M.flatMap (ent r t) := fun M => by
          induction M with
          | nil => exact fun _ => rfl
          | cons q M ih =>
            intro hM
            rw [List.flatMap_cons, List.flatMap_cons, ent_has (hasV_high hk (hM q (List.mem_cons_self ..))).2, ih fun q' hq' => hM q' (List.mem_cons_of_mem _ hq')]
        exact this _ hall
      rw [e1, e2, List.nil_append]

theorem scano_eq (s : GStoreStore) (r : GApiRange) (t most : Int) : m21_store_Scano s r t most = m21_store_Scan s r t most := by
  have : m21_store_Scano_s3 s r t most = m21_store_Scan_s3 s r t most := rfl
  unfold m21_store_Scano m21_store_Scan
  rw [this]
  rfl

theorem storeRanges_true (a0 : List GL08Lot) (a1 : GApiRange) (a2 : List UInt8) (a3 : Int) : m7_l08_StoreRanges a0 a1 a2 a3 = some true := by
  unfold m7_l08_StoreRanges
  rw [awake08, Option.bind_some]
  obtain ⟨b, hb, hb2⟩ := few_m08 a0
  rw [hb, Option.bind_some]
  cases b with
  | false => rfl
  | true =>
  obtain ⟨hl0, hl1⟩ := hb2 rfl
  rw [if_neg (by decide)]
  obtain ⟨b, hb, _⟩ := short_m a1
  rw [hb, Option.bind_some]
  cases b with
  | false => rfl
  | true =>
  rw [if_neg (by decide)]
  by_cases h3 : 50 < (a2.length : Int)
  · rw [if_pos (decide_eq_true h3)]
  rw [if_neg (by rw [decide_eq_true_eq]; exact h3)]
  unfold m7_l08_StoreRanges_k2
  obtain ⟨K, C, T, hg, hs, hk, ht⟩ := grown_m a0 hl0 hl1
  rw [hg, Option.bind_some, scan_m hs (by omega) hk, Option.bind_some, rhas_m _ _ (by omega), Option.bind_some]
  cases hh : hasV a1 a2 with
  | false => rfl
  | true =>
  rw [if_neg (by decide)]
  have hall : ∀ r, (ents r a3 K C).take (1000 : Int).toNat = ents r a3 K C := fun r => List.take_of_length_le (by have := ents_len r a3 K C; omega)
  have e1 : m21_store_Scano ⟨K, C, T⟩ ⟨a1.Lo, a2, false⟩ a3 1000 = some (ents ⟨a1.Lo, a2, false⟩ a3 K C) := by rw [scano_eq, scan_m hs (by omega) hk, hall]
  have e2 : m21_store_Scan ⟨K, C, T⟩ ⟨a2, a1.Hi, a1.Open⟩ a3 1000 = some (ents ⟨a2, a1.Hi, a1.Open⟩ a3 K C) := by rw [scan_m hs (by omega) hk, hall]
  have e3 : ents ⟨a1.Lo, a2, false⟩ a3 K C ++ ents ⟨a2, a1.Hi, a1.Open⟩ a3 K C = ents a1 a3 K C := split_ents a3 hh (K.zip C) (by
    have : (K.zip C).map (·.1) = K := by
      rw [List.map_fst_zip]
      exact Nat.le_of_eq hs.cl.symm
    rw [this]; exact hs.pw)
  have l3 := congrArg List.length e3
  rw [List.length_append] at l3
  have := ents_len a1 a3 K C
  rw [e1, Option.bind_some, e2, Option.bind_some, if_pos (by omega), if_pos rfl, hall, e3, kvs_m _ (by omega)]
  rfl
end Go.Proofs.Ytbojepclnfnmcaa.Abs
