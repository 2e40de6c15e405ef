/-
  StoreVacuums.
-/
import Derived.Test.YtbojepclnfnmcaaK08f
import Derived.Test.YtbojepclnfnmcaaScans08
import Derived.Test.YtbojepclnfnmcaaRanges08
import Derived.Test.YtbojepclnfnmcaaStill08
namespace Go.Proofs.Ytbojepclnfnmcaa.Abs


theorem latest_m {K : Keys} {C : List GChainChain} {T : Int} {B : Nat} (h : OkS K C T B) (hB : B ≤ 1000) (hK : K.length ≤ 128) : m32_store_Latest ⟨K, C, T⟩ = some (ents ⟨[], [], true⟩ T K C) := by
  unfold m32_store_Latest
  dsimp only
  rw [scan_m h hB hK, Option.bind_some, Int.toNat_natCast, List.take_of_length_le (ents_len ..)]

theorem storeVacuums_true (a0 : List GL08Lot) (a1 a2 : Int) (a3 : GApiRange) : m6_l08_StoreVacuums a0 a1 a2 a3 = some true := by
  unfold m6_l08_StoreVacuums
  rw [awake08, Option.bind_some]
  obtain ⟨b, hb, hb2⟩ := few_m08 a0
  rw [hb, Option.bind_some]
  cases b with
  | false => rfl
  | true =>
  obtain ⟨hl0, hl1⟩ := hb2 rfl
  rw [if_neg (by decide)]
  obtain ⟨b, hb, _⟩ := short_m a3
  rw [hb, Option.bind_some]
  cases b with
  | false => rfl
  | true =>
  rw [if_neg (by decide)]
  unfold m6_l08_StoreVacuums_k2
  obtain ⟨K, C, T, hg, hs, hk, ht⟩ := grown_m a0 hl0 hl1
  rw [hg, Option.bind_some, vacS_m hs (by omega) hk, Option.bind_some]
  have hoT : (if T < a1 then T else a1) ≤ T := by split <;> omega
  have hoa : (if T < a1 then T else a1) ≤ (if a2 > a1 then a2 else a1) := by split <;> split <;> omega
  have hv := vac_ok hs (if T < a1 then T else a1)
  have hvl := vac_len (if T < a1 then T else a1) K C
  have hagain := vac_again hs (if T < a1 then T else a1)
  have hvac := vacS_m hv (by omega) (by omega) a1
  rw [hagain] at hvac
  have he := fun r => vac_ents hs (by omega) r hoa
  have heT := vac_ents hs (by omega) ⟨[], [], true⟩ hoT
  have hch := vac_chgs hs a3 hoa
  generalize vacP (if T < a1 then T else a1) K C = V at hv hvl hvac he heT hch
  have hsc : ∀ r t, m21_store_Scan ⟨V.map (·.1), V.map (·.2), T⟩ r t 1000 = some (ents r t (V.map (·.1)) (V.map (·.2))) := fun r t => by
    rw [scan_m hv (by omega) (by omega), List.take_of_length_le]
    have := ents_len r t (V.map (·.1)) (V.map (·.2))
    omega
  have hsc0 : ∀ r t, m21_store_Scan ⟨K, C, T⟩ r t 1000 = some (ents r t K C) := fun r t => by
    rw [scan_m hs (by omega) hk, List.take_of_length_le]
    have := ents_len r t K C
    omega
  have hth : m19_l08_theirs ⟨V.map (·.1), V.map (·.2), T⟩ = some ⟨V.map (·.1), (V.map (·.2)).map asR, T⟩ := theirs_m (by have := hv.cl; omega) (fun c hc => by have := (hv.cs c hc).2.2.2; omega)
  have hsm : m18_r08_Same ⟨V.map (·.1), (V.map (·.2)).map asR, T⟩ ⟨V.map (·.1), (V.map (·.2)).map asR, T⟩ = some true := same8_self _ (by show (V.map (·.1)).length ≤ _; omega) (by show ((V.map (·.2)).map asR).length ≤ _; have := hv.cl; rw [List.length_map]; omega) (fun c hc => by
    obtain ⟨d, hd, rfl⟩ := List.mem_map.1 hc
    show (d.L.map vc).length ≤ _
    have := (hv.cs d hd).2.2.2
    rw [List.length_map]; omega)
  have hle := fun r => ents_len r (if a2 > a1 then a2 else a1) K C
  rw [hsc0, Option.bind_some, hsc, Option.bind_some, he, kvs_m _ (by have := hle a3; omega), Option.bind_some, if_neg (by decide), ssane_m hv (by omega) (by omega), Option.bind_some, if_neg (by decide), if_neg (by rw [decide_eq_true_eq]; dsimp only; omega), if_neg (by rw [decide_eq_true rfl]; decide)]
  unfold m6_l08_StoreVacuums_k5
  have hcl := chgs_len a3 (if a2 > a1 then a2 else a1) K C
  have hle2 := ents_len ⟨[], [], true⟩ T K C
  rw [if_pos rfl, changed_m hs (by omega) hk, Option.bind_some, changed_m hv (by omega) (by omega), Option.bind_some, hch, lists_m _ (by omega), Option.bind_some, if_pos rfl, latest_m hs (by omega) hk, Option.bind_some, latest_m hv (by omega) (by omega), Option.bind_some, heT, kvs_m _ (by omega), Option.bind_some, if_pos rfl, hth, Option.bind_some, hvac, Option.bind_some, hth, Option.bind_some, hsm, Option.bind_some]
end Go.Proofs.Ytbojepclnfnmcaa.Abs
