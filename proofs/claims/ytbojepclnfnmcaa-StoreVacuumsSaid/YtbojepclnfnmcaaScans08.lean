/-
  StoreScans.
-/
import Derived.Test.YtbojepclnfnmcaaK08d
namespace Go.Proofs.Ytbojepclnfnmcaa.Abs


theorem scans_loop {K : Keys} {C : List GChainChain} {T : Int} {B : Nat} (h : OkS K C T B) (hB : B ≤ 1000) (hK : K.length ≤ 128) (r : GApiRange) (t most : Int) :
    iter (m5_l08_StoreScans_s6 r t most ⟨K, C, T⟩ ((ents r t K C).take most.toNat)) fuel (0, 0) = some (.inr ((ents r t K C).length : Int)) := by
  have hcl := h.cl
  have hzl : (K.zip C).length = K.length := by rw [List.length_zip]; omega
  obtain ⟨v, hv, hr⟩ := iter_inv (f := m5_l08_StoreScans_s6 r t most ⟨K, C, T⟩ ((ents r t K C).take most.toNat)) (P := fun s => ∃ i : Nat, i ≤ K.length ∧ s = (((((K.zip C).take i).flatMap (ent r t)).length : Int), (i : Int))) (μ := fun s => K.length - s.2.toNat)
    (R := fun v => v = .inr ((ents r t K C).length : Int)) (by
      rintro _ ⟨i, hi, rfl⟩
      unfold m5_l08_StoreScans_s6
      dsimp only
      rcases Nat.lt_or_ge i K.length with hlt | hge
      · left
        have hx := List.getElem?_eq_getElem hlt
        have hc : C[i]? = some (C[i]'(by omega)) := List.getElem?_eq_getElem (by omega)
        have hst := flat_step (f := ent r t) (zip_get hx hc)
        have hlen : (((K.zip C).take i).flatMap (ent r t)).length ≤ 128 := by
          refine Nat.le_trans (flat8_len _ (ent_len r t) _) ?_
          rw [List.length_take]; omega
        obtain ⟨rest, epre⟩ := flat_pre (ent r t) (K.zip C) (i + 1)
        rw [hst] at epre
        have hkx := h.ks _ (List.getElem_mem hlt)
        rw [if_pos (decide_eq_true (by omega)), idx_nat, hx, Option.bind_some]
        rcases get_m h hB hK K[i] t with ⟨c, hat, e⟩ | ⟨hn, e⟩
        · have : c = C[i]'(by omega) := At.uniq h.pw hat ⟨i, hx, hc⟩
          subst this
          rw [e, Option.bind_some]
          cases hv : (valC (C[i]'(by omega)).L t).2 with
          | false =>
            rw [if_pos (show (!false) = true from rfl)]
            refine ⟨_, rfl, ⟨i + 1, hlt, ?_⟩, by simp only [wI_id (show -9223372036854775808 ≤ (i : Int) + 1 by omega) (by omega)]; omega⟩
            have : ent r t (K[i], C[i]'(by omega)) = [] := by unfold ent; dsimp only; rw [hv, Bool.and_false]; rfl
            rw [hst, this, List.append_nil, wI_id (by omega) (by omega)]; rfl
          | true =>
            rw [if_neg (by decide), Option.bind_some, rhas_m _ _ (by
              unfold kOk at hkx
              simp only [Bool.and_eq_true, decide_eq_true_eq] at hkx
              omega), Option.bind_some]
            cases hh : hasV r K[i] with
            | false =>
              rw [if_pos (show (!false) = true from rfl)]
              refine ⟨_, rfl, ⟨i + 1, hlt, ?_⟩, by simp only [wI_id (show -9223372036854775808 ≤ (i : Int) + 1 by omega) (by omega)]; omega⟩
              have : ent r t (K[i], C[i]'(by omega)) = [] := by unfold ent; dsimp only; rw [hh]; rfl
              rw [hst, this, List.append_nil, wI_id (by omega) (by omega)]; rfl
            | true =>
              have hent : ent r t (K[i], C[i]'(by omega)) = [⟨K[i], (valC (C[i]'(by omega)).L t).1⟩] := by unfold ent; dsimp only; rw [hh, hv]; rfl
              rw [hent] at hst epre
              rw [if_neg (by decide)]
              have hk10 : m5_l08_StoreScans_k10 (((((K.zip C).take i).flatMap (ent r t)).length : Int), (i : Int)) () = some (.cont (((((K.zip C).take (i + 1)).flatMap (ent r t)).length : Int), ((i + 1 : Nat) : Int))) := by
                unfold m5_l08_StoreScans_k10
                dsimp only
                rw [hst, List.length_append, List.length_singleton, wI_id (by omega) (by omega), wI_id (by omega) (by omega)]; rfl
              refine ⟨(((((K.zip C).take (i + 1)).flatMap (ent r t)).length : Int), ((i + 1 : Nat) : Int)), ?_, ⟨i + 1, hlt, rfl⟩, by simp only [Int.toNat_natCast]; omega⟩
              unfold m5_l08_StoreScans_k9
              dsimp only
              by_cases hm : ((((K.zip C).take i).flatMap (ent r t)).length : Int) < most
              · have hl2 : (ents r t K C).length = (((K.zip C).take i).flatMap (ent r t)).length + 1 + rest.length := by
                  unfold ents; rw [epre, List.length_append, List.length_append, List.length_singleton]
                have hg : ((ents r t K C).take most.toNat)[(((K.zip C).take i).flatMap (ent r t)).length]? = some ⟨K[i], (valC (C[i]'(by omega)).L t).1⟩ := by
                  rw [List.getElem?_take, if_pos (by omega)]
                  unfold ents
                  rw [epre, List.append_assoc, List.getElem?_append_right (Nat.le_refl _), Nat.sub_self]; rfl
                rw [if_pos (decide_eq_true hm), if_neg (by rw [decide_eq_true_eq, List.length_take]; omega), idx_nat, hg, Option.bind_some, idx_nat, hx, Option.bind_some, if_neg (by simp), Option.bind_some, if_neg (by simp)]
                exact hk10
              · rw [if_neg (by rw [decide_eq_true_eq]; exact hm)]
                exact hk10
        · exact absurd ⟨_, i, hx, hc⟩ hn
      · right
        have e : i = K.length := by omega
        subst e
        rw [if_neg (by rw [decide_eq_true_eq]; omega)]
        refine .inl ⟨_, rfl, ?_⟩
        unfold ents
        rw [← hzl, List.take_length]) fuel (0, 0) ⟨0, Nat.zero_le _, rfl⟩ (lt_fuel (by show K.length - 0 ≤ _; omega))
  rw [hv, hr]

theorem storeScans_true (a0 : List GL08Lot) (a1 : GApiRange) (a2 a3 : Int) : m5_l08_StoreScans a0 a1 a2 a3 = some true := by
  unfold m5_l08_StoreScans
  rw [awake08, Option.bind_some]
  obtain ⟨b, hb, hb2⟩ := few_m08 a0
  rw [hb, Option.bind_some]
  cases b with
  | false => rfl
  | true =>
  obtain ⟨hl0, hl1⟩ := hb2 rfl
  rw [if_neg (by decide)]
  obtain ⟨b, hb, _⟩ := short_m a1
  rw [hb, Option.bind_some]
  cases b with
  | false => rfl
  | true =>
  rw [if_neg (by decide)]
  unfold m5_l08_StoreScans_k2
  obtain ⟨K, C, T, hg, hs, hk, ht⟩ := grown_m a0 hl0 hl1
  rw [hg, Option.bind_some, scan_m hs (by omega) hk, Option.bind_some, scans_loop hs (by omega) hk, Option.bind_some]
  unfold m5_l08_StoreScans_k5
  dsimp only
  rw [if_pos rfl]
  show some (decide ((((ents a1 a2 K C).take a3.toNat).length : Int) = _)) = _
  congr 1
  rw [decide_eq_true_eq, List.length_take]
  split <;> split <;> omega
end Go.Proofs.Ytbojepclnfnmcaa.Abs
