/-
  StoreStill.
-/
import Derived.Test.YtbojepclnfnmcaaK08e
namespace Go.Proofs.Ytbojepclnfnmcaa.Abs


theorem still_loop (l : List GApiWrite) (ts : Int) (s : GStoreStore) (hl : l.length ≤ 1000) (ht : 1 ≤ ts ∧ ts ≤ 1099511627776)
    (hw : ∀ w ∈ l, m27_store_Wrote s w.Key (ts - 1) = some true ∧ m27_store_Wrote s w.Key ts = some false) :
    iterB (m8_l08_StoreStill_s13 l ts (s, 0)) fuel (0, 0) = some (l.length : Int) := by
  obtain ⟨v, hv, hr⟩ := iterB_inv (f := m8_l08_StoreStill_s13 l ts (s, 0)) (P := fun q => ∃ i : Nat, i ≤ l.length ∧ q = ((i : Int), (i : Int))) (μ := fun q => l.length - q.2.toNat)
    (R := fun v => v = (l.length : Int)) (by
      rintro _ ⟨i, hi, rfl⟩
      unfold m8_l08_StoreStill_s13
      dsimp only
      rcases Nat.lt_or_ge i l.length with hlt | hge
      · left
        have hx := List.getElem?_eq_getElem hlt
        obtain ⟨h1, h2⟩ := hw _ (List.getElem_mem hlt)
        rw [if_pos (decide_eq_true (by omega)), idx_nat, hx, Option.bind_some, wI_id (n := ts - 1) (by omega) (by omega), h1, Option.bind_some, if_pos rfl, Option.bind_some, h2, Option.bind_some, if_pos (show (!false) = true from rfl), wI_id (by omega) (by omega)]
        exact ⟨_, rfl, ⟨i + 1, hlt, rfl⟩, by dsimp only; omega⟩
      · right
        have e : i = l.length := by omega
        subst e
        rw [if_neg (by rw [decide_eq_true_eq]; omega)]
        exact ⟨_, rfl, rfl⟩) fuel (0, 0) ⟨0, Nat.zero_le _, rfl⟩ (lt_fuel (by show l.length - 0 ≤ _; omega))
  rw [hv, hr]

theorem storeStill_true (a0 : List GL08Lot) (a1 : List GApiWrite) (a2 : Int) : m8_l08_StoreStill a0 a1 a2 = some true := by
  unfold m8_l08_StoreStill
  rw [awake08, Option.bind_some]
  obtain ⟨b, hb, hb2⟩ := few_m08 a0
  rw [hb, Option.bind_some]
  cases b with
  | false => rfl
  | true =>
  obtain ⟨hl0, hl1⟩ := hb2 rfl
  rw [if_neg (by decide)]
  obtain ⟨b, hb, hb2⟩ := fewW_m a1
  rw [hb, Option.bind_some]
  cases b with
  | false => rfl
  | true =>
  obtain ⟨hw0, hw1⟩ := hb2 rfl
  rw [if_neg (by decide)]
  unfold m8_l08_StoreStill_k2
  obtain ⟨K, C, T, hg, hs, hk, ht⟩ := grown_m a0 hl0 hl1
  have hcl := hs.cl
  have h0 := hs.t0
  have hlen : ∀ c ∈ C, c.L.length ≤ 1000 := fun c hc => by have := (hs.cs c hc).2.2.2; omega
  have hth : m19_l08_theirs ⟨K, C, T⟩ = some ⟨K, C.map asR, T⟩ := theirs_m (by omega) hlen
  have hsm : m18_r08_Same ⟨K, C.map asR, T⟩ ⟨K, C.map asR, T⟩ = some true := same8_self _ (by show K.length ≤ _; omega) (by show (C.map asR).length ≤ _; rw [List.length_map]; omega) (fun c hc => by
    obtain ⟨d, hd, rfl⟩ := List.mem_map.1 hc
    show (d.L.map vc).length ≤ _
    rw [List.length_map]; exact hlen d hd)
  rw [hg, Option.bind_some, hth, Option.bind_some]
  rcases install_m hs (by omega) hk a2 a1 (by omega) with ⟨e, he, hi⟩ | ⟨K', C', hi, htt, hwo, hpw, hk', hL, hs'⟩
  · rw [hi, Option.bind_some]
    dsimp only
    have hne : ¬ e = 0 := by rcases he with rfl | ⟨rfl, _⟩ | rfl <;> decide
    have hz : m19_l08_theirs zstore = some ⟨[], [], 0⟩ := theirs_m (by decide) (fun c hc => by cases hc)
    have hz2 : m18_r08_Same ⟨[], [], 0⟩ ⟨[], [], 0⟩ = some true := same8_self _ (by decide) (by decide) (fun c hc => by cases hc)
    rw [if_pos (by rw [decide_eq_false hne]; rfl), if_pos rfl, hz, Option.bind_some, hz2, Option.bind_some, if_pos rfl, Option.bind_some, hsm, Option.bind_some]
  rw [hi, Option.bind_some]
  dsimp only
  rw [if_neg (by rw [decide_eq_true rfl]; decide)]
  rw [still_loop a1 a2 ⟨K', C', a2⟩ (by omega) ⟨by omega, htt.2⟩ (fun w hw => by
    obtain ⟨c, hc⟩ := hL.is w hw
    have hcs0 : ∀ c ∈ C, OkC c.L ∧ c.L.length ≤ 30 := fun c hc => ⟨(hs.cs c hc).2.1, (hs.cs c hc).2.2.2⟩
    have hlast := (Grew.ok hcs0 ⟨by omega, htt.2⟩ (hwo w hw) (fun c ⟨i, _, hi⟩ => by have := (hs.cs c (List.mem_of_getElem? hi)).2.2.1; omega) (hL.new w hw c hc)).2.2.2
    rw [wrote_m hs' (by omega) hk' hc, wrote_m hs' (by omega) hk' hc, hlast]
    exact ⟨congrArg some (decide_eq_true (by omega)), congrArg some (decide_eq_false (by omega))⟩), Option.bind_some]
  unfold m8_l08_StoreStill_k10
  rw [if_pos rfl, hth, Option.bind_some, hsm, Option.bind_some, if_pos rfl, if_pos (decide_eq_true rfl)]
  exact congrArg some (decide_eq_true htt.1)
end Go.Proofs.Ytbojepclnfnmcaa.Abs
