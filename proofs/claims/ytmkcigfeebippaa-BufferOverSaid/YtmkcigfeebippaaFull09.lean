/-
  Sixteen writes, and no more.
-/
import Derived.Test.YtmkcigfeebippaaGets09
namespace Go.Proofs.Ytmkcigfeebippaa.Abs

def L16 : List GApiWrite := (List.range 16).map fun i => ⟨[UInt8.ofNat (97 + i)], [], false⟩
def trip (w : GApiWrite) : List UInt8 × List UInt8 × Bool := (w.Key, w.Val, w.Del)
theorem trip_inj : ∀ {a b : List GApiWrite}, a.map trip = b.map trip → a = b
  | [], [], _ => rfl
  | [], _ :: _, h => by simp at h
  | _ :: _, [], h => by simp at h
  | ⟨k, v, d⟩ :: a, ⟨k', v', d'⟩ :: b, h => by
    simp only [List.map_cons, List.cons.injEq, trip, Prod.mk.injEq] at h
    obtain ⟨⟨rfl, rfl, rfl⟩, h⟩ := h
    rw [trip_inj h]
theorem full_loop : (match iter m5_l09_BufferFull_s5 fuel (0, []) with | some (.inr x) => decide (x.map trip = L16.map trip) | _ => false) = true := by decide +kernel
theorem full_run : iter m5_l09_BufferFull_s5 fuel (0, []) = some (.inr L16) := by
  have h := full_loop
  revert h
  cases iter m5_l09_BufferFull_s5 fuel (0, []) with
  | none => intro h; cases h
  | some v =>
    cases v with
    | inl r => intro h; cases h
    | inr x => intro h; rw [trip_inj (of_decide_eq_true h)]
theorem good16 : Good L16 := ⟨by decide +kernel, by decide, by
  have h : (L16.map wk).Pairwise (fun a b => cmpL a b < 0) := by decide +kernel
  exact List.pairwise_map.1 h⟩
theorem swV_one (c : UInt8) {v : List UInt8} (h : v.length ≤ 32) : swV ⟨[c], v, false⟩ = true := by
  unfold swV
  have : m23_buffer_saneWrite ⟨[c], v, false⟩ = some true := by
    unfold m23_buffer_saneWrite m35_keys_Sane
    dsimp only
    simp
    omega
  rw [this]; rfl
theorem and31 (a0 : Int) : ∃ n : Nat, n < 32 ∧ ((BitVec.ofInt 64 a0 &&& BitVec.ofInt 64 31).toNat : Int) = (n : Int) := by
  refine ⟨(BitVec.ofInt 64 a0 &&& BitVec.ofInt 64 31).toNat, ?_, rfl⟩
  rw [BitVec.toNat_and]
  exact Nat.lt_of_le_of_lt Nat.and_le_right (by decide)

theorem bufferFull_true (a0 : Int) (a1 : List UInt8) : m5_l09_BufferFull a0 a1 = some true := by
  unfold m5_l09_BufferFull
  rw [awake09, Option.bind_some]
  by_cases hk : (32 : Int) < a1.length
  · rw [if_pos (decide_eq_true hk)]
  rw [if_neg (by rw [decide_eq_true_eq]; exact hk), full_run, Option.bind_some]
  dsimp only
  unfold m5_l09_BufferFull_k2
  obtain ⟨n, hn, e⟩ := and31 a0
  rw [e]
  have hsw := swV_one (UInt8.ofBitVec (BitVec.ofInt 8 (wI (97 + (wI (n : Int)))))) (v := a1) (by omega)
  generalize hc : UInt8.ofBitVec (BitVec.ofInt 8 (wI (97 + (wI (n : Int))))) = c at hsw ⊢
  have hmem : ([c] ∈ L16.map wk) ↔ n < 16 := by
    subst hc
    have key : ∀ n : Fin 32, ([UInt8.ofBitVec (BitVec.ofInt 8 (wI (97 + (wI (n.val : Int)))))] ∈ L16.map wk) ↔ n.val < 16 := by decide +kernel
    exact key ⟨n, hn⟩
  rw [wI_id (n := (n : Int)) (by omega) (by omega)]
  rcases set_iff good16 ⟨[c], a1, false⟩ with ⟨ho, hs, hg⟩ | ⟨ho, e, he, he8, hs⟩
  · have hlt : n < 16 := by
      rcases ho.2 with h | h
      · exact hmem.1 h
      · exact absurd h (by decide)
    rw [hs, Option.bind_some, if_neg (by rw [decide_eq_true_eq]; omega)]
    have hlen := setR_len good16.rise ⟨[c], a1, false⟩
    rw [if_pos (show hit (L16.map wk) (wk ⟨[c], a1, false⟩) = true from (kat_mem good16.rise).2 (hmem.2 hlt))] at hlen
    have hfind := get_some (kf := wk) hg.rise.dist (setR_mem.2 (.inl rfl) : (⟨[c], a1, false⟩ : GApiWrite) ∈ setR L16 ⟨[c], a1, false⟩)
    dsimp only
    rw [get_m (by rw [hlen]; decide), Option.bind_some]
    have hfind' : (setR L16 ⟨[c], a1, false⟩).find? (fun w => w.Key == [c]) = some ⟨[c], a1, false⟩ := hfind
    rw [hfind', hlen]
    simp
    decide
  · have hge : 16 ≤ n := by
      rcases Nat.lt_or_ge n 16 with h | h
      · exact absurd ⟨hsw, .inl (hmem.2 h)⟩ ho
      · exact h
    rw [hs, Option.bind_some, if_pos (decide_eq_true (by omega)), he8 hsw]
    rfl
end Go.Proofs.Ytmkcigfeebippaa.Abs
