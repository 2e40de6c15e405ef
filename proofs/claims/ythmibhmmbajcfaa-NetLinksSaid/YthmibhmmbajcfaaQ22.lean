/-
  What is sent is taken.
-/
import Derived.Test.YthmibhmmbajcfaaO22
namespace Go.Proofs.Ythmibhmmbajcfaa.Abs

def N0 (ps : List GNetPacket) : GNetNet := ⟨[⟨0, 0, 0⟩], ps, 1⟩
theorem open0 : m11_net_Open ⟨[], [], 0⟩ 0 0 = some (N0 [], 0, 0) := by
  rw [openm _ _ _ (by decide) (by decide)]
  rfl
theorem saneN0 {ps : List GNetPacket} (h : ps.length ≤ 64) (hp : ∀ p ∈ ps, p.Link = 0 ∧ sbV p.Bytes = true) : saneV (N0 ps) = true := by
  unfold saneV
  rw [show lsV (N0 ps) = true from rfl, Bool.and_true]
  simp only [Bool.and_eq_true]
  refine ⟨⟨⟨List.all_eq_true.2 fun p hpm => ?_, decide_eq_true (by show (0 : Int) ≤ 1; decide)⟩, decide_eq_true (by show (1 : Int) ≤ 1099511627776; decide)⟩, decide_eq_true (by show (ps.length : Int) ≤ 64; omega)⟩
  obtain ⟨h1, h2⟩ := hp p hpm
  unfold pkV
  rw [h1, h2]
  rfl
theorem seN0 {ps : List GNetPacket} (h : ps.length ≤ 64) (hp : ∀ p ∈ ps, p.Link = 0 ∧ sbV p.Bytes = true) (up : Bool) (b : List UInt8) :
    seV (N0 ps) 0 up b = if !sbV b then (nz, 1) else if decide (64 ≤ (ps.length : Int)) then (nz, 8) else (N0 (ps ++ [⟨0, up, b⟩]), 0) := by
  unfold seV
  rw [fdV_2, saneN0 h hp]
  rfl
theorem k23_odd {a0 : List (List UInt8)} {s : Int × (List GNetLink) × (List GNetPacket) × Int × (List (List UInt8))} {v : GNetNet × Int} (h : v.2 = 1) : m5_l22_NetTakes_k23 a0 s v true = m5_l22_NetTakes_k24 a0 s v () := by
  unfold m5_l22_NetTakes_k23
  simp [h]
theorem k23_full {a0 : List (List UInt8)} {s : Int × (List GNetLink) × (List GNetPacket) × Int × (List (List UInt8))} {v : GNetNet × Int} (h : v.2 = 8) (h2 : 64 ≤ (s.2.2.2.2.length : Int)) : m5_l22_NetTakes_k23 a0 s v false = m5_l22_NetTakes_k24 a0 s v () := by
  unfold m5_l22_NetTakes_k23
  rw [decide_eq_true h2, h]
  rfl
theorem k23_ok {a0 : List (List UInt8)} {s : Int × (List GNetLink) × (List GNetPacket) × Int × (List (List UInt8))} {v : GNetNet × Int} (h : v.2 = 0) (h2 : ¬ 64 ≤ (s.2.2.2.2.length : Int)) : m5_l22_NetTakes_k23 a0 s v false = m5_l22_NetTakes_k24 a0 s v () := by
  unfold m5_l22_NetTakes_k23
  rw [decide_eq_false h2, h]
  rfl
theorem odd_sb {b : List UInt8} {α : Type} (g : Bool → α) : (if decide ((b.length : Int) < 1) then g true else g (decide (2048 < (b.length : Int)))) = g (!sbV b) := by
  unfold sbV
  by_cases h1 : (b.length : Int) < 1
  · rw [if_pos (decide_eq_true h1), decide_eq_false (p := 1 ≤ (b.length : Int)) (by omega)]; rfl
  · rw [if_neg (by rw [decide_eq_true_eq]; exact h1), decide_eq_true (p := 1 ≤ (b.length : Int)) (by omega), Bool.true_and]
    by_cases h2 : 2048 < (b.length : Int)
    · rw [decide_eq_true h2, decide_eq_false (p := (b.length : Int) ≤ 2048) (by omega)]; rfl
    · rw [decide_eq_false h2, decide_eq_true (p := (b.length : Int) ≤ 2048) (by omega)]; rfl
theorem low16 (a1 : Int) : 0 ≤ wI ((BitVec.ofInt 64 a1 &&& BitVec.ofInt 64 65535).toNat : Int) := by
  have : (BitVec.ofInt 64 a1 &&& BitVec.ofInt 64 65535).toNat ≤ 65535 := by
    rw [BitVec.toNat_and]
    exact Nat.le_trans Nat.and_le_right (by decide)
  rw [wI_id (by omega) (by omega)]
  omega
theorem tkN0 {ps : List GNetPacket} (h : ps.length ≤ 64) (hp : ∀ p ∈ ps, p.Link = 0 ∧ sbV p.Bytes = true) {k : Nat} {p : GNetPacket} (hk : ps[k]? = some p) : tkV (N0 ps) (k : Int) = (N0 (ps.take k ++ ps.drop (k + 1)), p, true) := by
  unfold tkV
  rw [if_pos (saneN0 h hp), show kth (N0 ps) (k : Int) = some p by unfold kth; rw [if_pos (by omega)]; exact hk]
  rfl

theorem netTakes_true (a0 : List (List UInt8)) (a1 : Int) : m5_l22_NetTakes a0 a1 = some true := by
  unfold m5_l22_NetTakes
  rw [awake22, Option.bind_some]
  by_cases h70 : (70 : Int) < a0.length
  · rw [if_pos (decide_eq_true h70)]
  rw [if_neg (by rw [decide_eq_true_eq]; exact h70), open0, Option.bind_some]
  dsimp only
  rw [if_neg (nn (by rfl))]
  obtain ⟨v, hv, ps, hps, hpp, rfl⟩ := iter_inv (f := m5_l22_NetTakes_s20 a0 (N0 [], 0, 0)) (P := fun s => ∃ (i : Nat) (ps : List GNetPacket), i ≤ a0.length ∧ ps.length ≤ 64 ∧ (∀ p ∈ ps, p.Link = 0 ∧ sbV p.Bytes = true) ∧ s = ((i : Int), [⟨0, 0, 0⟩], ps, 1, ps.map GNetPacket.Bytes)) (μ := fun s => a0.length - s.1.toNat)
    (R := fun r => ∃ ps : List GNetPacket, ps.length ≤ 64 ∧ (∀ p ∈ ps, p.Link = 0 ∧ sbV p.Bytes = true) ∧ r = .inr ([⟨0, 0, 0⟩], ps, 1, ps.map GNetPacket.Bytes)) (by
    rintro _ ⟨i, ps, hi, hps, hpp, rfl⟩
    unfold m5_l22_NetTakes_s20
    dsimp only
    rcases Nat.lt_or_ge i a0.length with hlt | hge
    · left
      rw [if_pos (decide_eq_true (by omega)), idx_nat, List.getElem?_eq_getElem hlt, Option.bind_some, show (⟨[⟨0, 0, 0⟩], ps, 1⟩ : GNetNet) = N0 ps from rfl, sendm _ _ _ _ (by show 1 ≤ 1000000; omega) (by show ps.length ≤ 1000000; omega), Option.bind_some, Option.bind_some, Option.bind_some]
      rw [odd_sb (b := a0[i]) (fun c => m5_l22_NetTakes_k23 a0 ((i : Int), [⟨0, 0, 0⟩], ps, 1, ps.map GNetPacket.Bytes) _ c)]
      generalize decide (wI ((BitVec.ofInt 64 (i : Int) &&& BitVec.ofInt 64 1).toNat : Int) = 0) = up
      rw [seN0 hps hpp]
      cases hb : sbV a0[i] with
      | false =>
        rw [if_pos (show (!false) = true from rfl), show (!false) = true from rfl, k23_odd rfl]
        unfold m5_l22_NetTakes_k24
        dsimp only
        rw [if_neg (nn (by rfl)), wI_id (by omega) (by omega)]
        exact ⟨_, rfl, ⟨i + 1, ps, hlt, hps, hpp, rfl⟩, by dsimp only; omega⟩
      | true =>
        rw [if_neg (c := (!true) = true) (by decide), show (!true) = false from rfl]
        by_cases h64 : 64 ≤ (ps.length : Int)
        · rw [if_pos (decide_eq_true h64), k23_full rfl (by dsimp only; rw [List.length_map]; exact h64)]
          unfold m5_l22_NetTakes_k24
          dsimp only
          rw [if_neg (nn (by rfl)), wI_id (by omega) (by omega)]
          exact ⟨_, rfl, ⟨i + 1, ps, hlt, hps, hpp, rfl⟩, by dsimp only; omega⟩
        · rw [if_neg (by rw [decide_eq_true_eq]; exact h64), k23_ok rfl (by dsimp only; rw [List.length_map]; exact h64)]
          unfold m5_l22_NetTakes_k24
          dsimp only
          rw [if_pos (by rfl), idx_nat, List.getElem?_eq_getElem hlt, Option.bind_some, if_pos (by rw [List.length_map, List.length_singleton]; omega), wI_id (by omega) (by omega)]
          refine ⟨_, rfl, ⟨i + 1, ps ++ [⟨0, up, a0[i]⟩], hlt, ?_, ?_, ?_⟩, by dsimp only; omega⟩
          rotate_left 2
          · show (_, _, ps ++ [_], _, _) = _
            exact Prod.ext rfl (Prod.ext rfl (Prod.ext rfl (Prod.ext rfl (by dsimp only [N0]; rw [List.map_append]; rfl))))
          · show (ps ++ [_]).length ≤ 64
            rw [List.length_append, List.length_singleton]; omega
          · intro p hp
            rcases List.mem_append.1 hp with hp | hp
            · exact hpp p hp
            · rw [List.mem_singleton.1 hp]; exact ⟨rfl, hb⟩
    · right; left
      rw [if_neg (by rw [decide_eq_true_eq]; omega)]
      exact ⟨_, rfl, ps, hps, hpp, rfl⟩) fuel (0, [⟨0, 0, 0⟩], [], 1, []) ⟨0, [], Nat.zero_le _, by decide, (fun p hp => by cases hp), rfl⟩ (lt_fuel (by show a0.length - 0 ≤ _; omega))
  show Option.bind (iter (m5_l22_NetTakes_s20 a0 (N0 [], 0, 0)) fuel (0, [⟨0, 0, 0⟩], [], 1, [])) _ = _
  rw [hv, Option.bind_some]
  dsimp only
  unfold m5_l22_NetTakes_k3
  dsimp only
  rw [List.length_map, decide_eq_true rfl, if_neg (nn (by rfl))]
  by_cases h0 : (ps.length : Int) = 0
  · rw [if_pos (decide_eq_true h0)]; rfl
  rw [if_neg (by rw [decide_eq_true_eq]; exact h0)]
  unfold m5_l22_NetTakes_k4
  dsimp only
  rw [List.length_map, if_pos h0]
  obtain ⟨k, hk, hkl⟩ : ∃ k : Nat, (wI ((BitVec.ofInt 64 a1 &&& BitVec.ofInt 64 65535).toNat : Int)).tmod (ps.length : Int) = (k : Int) ∧ k < ps.length := by
    have h1 := low16 a1
    have h2 := Int.tmod_nonneg (ps.length : Int) h1
    have h3 := Int.tmod_lt_of_pos (wI ((BitVec.ofInt 64 a1 &&& BitVec.ofInt 64 65535).toNat : Int)) (show (0 : Int) < ps.length by omega)
    obtain ⟨k, hk⟩ := Int.eq_ofNat_of_zero_le h2
    exact ⟨k, hk, by omega⟩
  rw [hk]
  have hp := List.getElem?_eq_getElem hkl
  generalize ps[k] = p at hp
  have hpp' := hpp p (List.mem_of_getElem? hp)
  rw [show (⟨[⟨0, 0, 0⟩], ps, 1⟩ : GNetNet) = N0 ps from rfl, takem _ _ (by show 1 ≤ 1000000; omega) (by show ps.length ≤ 1000000; omega), Option.bind_some, tkN0 hps hpp hp]
  dsimp only
  have hll : (ps.take k ++ ps.drop (k + 1)).length = ps.length - 1 := by rw [List.length_append, List.length_take, List.length_drop]; omega
  rw [if_neg (nn (by rfl)), idx_nat, List.getElem?_map, hp, Option.map_some, Option.bind_some, beq_self_eq_true, if_neg (nn (by rfl)), hpp'.1, if_neg (nn (by rfl))]
  rw [show (N0 (ps.take k ++ ps.drop (k + 1))).Packets = ps.take k ++ ps.drop (k + 1) from rfl, hll, wI_id (by omega) (by omega), decide_eq_true (by omega), if_neg (nn (by rfl))]
  have hlm : ∀ x ∈ ps.take k ++ ps.drop (k + 1), x ∈ ps := fun x hx => by
    rcases List.mem_append.1 hx with hx | hx
    · exact List.mem_of_mem_take hx
    · exact List.mem_of_mem_drop hx
  have hgl : ∀ i : Nat, i < ps.length - 1 → (ps.take k ++ ps.drop (k + 1))[i]? = ps[if k ≤ i then i + 1 else i]? := fun i hi => by
    by_cases hki : k ≤ i
    · rw [if_pos hki, List.getElem?_append_right (by rw [List.length_take]; omega), List.length_take, List.getElem?_drop]
      congr 1
      omega
    · rw [if_neg hki, List.getElem?_append_left (by rw [List.length_take]; omega), List.getElem?_take, if_pos (by omega)]
  generalize hle0 : ps.take k ++ ps.drop (k + 1) = l at hll hlm hgl
  unfold m5_l22_NetTakes_k7
  rw [allR l (fun _ => true) false (m5_l22_NetTakes_s14 a1 ([⟨0, 0, 0⟩], ps, 1, ps.map GNetPacket.Bytes) (N0 l, p, true)) (by omega) (fun i x hx => by
    have hlt := (List.getElem?_eq_some_iff.1 hx).1
    have hg := hgl i (by omega)
    rw [hx] at hg
    unfold m5_l22_NetTakes_s14
    dsimp only
    rw [List.length_map, hk, show (N0 l).Packets = l from rfl, if_pos (decide_eq_true (by omega)), wI_id (by omega) (by omega)]
    unfold m5_l22_NetTakes_k15
    dsimp only
    rw [show (N0 l).Packets = l from rfl, idx_nat, hx, Option.bind_some, Option.bind_some]
    by_cases hki : k ≤ i
    · rw [if_pos hki] at hg
      rw [if_pos (decide_eq_true (by omega)), show (i : Int) + 1 = ((i + 1 : Nat) : Int) by omega, idx_nat, List.getElem?_map, ← hg, Option.map_some, Option.bind_some, beq_self_eq_true, wI_id (by omega) (by omega)]
      rfl
    · rw [if_neg hki] at hg
      rw [if_neg (by rw [decide_eq_true_eq]; omega), idx_nat, List.getElem?_map, ← hg, Option.map_some, Option.bind_some, beq_self_eq_true, wI_id (by omega) (by omega)]
      rfl) (by
    unfold m5_l22_NetTakes_s14
    dsimp only
    rw [show (N0 l).Packets = l from rfl, if_neg (by rw [decide_eq_true_eq]; omega)]), show (l.all fun _ => true) = true from List.all_eq_true.2 fun _ _ => rfl, if_pos rfl, Option.bind_some]
  dsimp only
  unfold m5_l22_NetTakes_k8
  dsimp only
  have hle : (N0 l).Links.length ≤ 1000000 := by show 1 ≤ 1000000; omega
  have hle2 : (N0 l).Packets.length ≤ 1000000 := by show l.length ≤ 1000000; omega
  rw [List.length_map, hk, show (⟨[⟨0, 0, 0⟩], ps, 1⟩ : GNetNet) = N0 ps from rfl]
  unfold m24_net_Drop
  rw [show (⟨(N0 ps).Links, (N0 ps).Packets, (N0 ps).Next⟩ : GNetNet) = N0 ps from rfl, takem _ _ (by show 1 ≤ 1000000; omega) (by show ps.length ≤ 1000000; omega), Option.bind_some, Option.bind_some, if_pos rfl]
  rw [tkN0 hps hpp hp, hle0]
  dsimp only
  rw [theirsm _ hle hle2, Option.bind_some, Option.bind_some, same_t _ hle hle2, Option.bind_some, if_pos rfl, sanem _ hle hle2, saneN0 (by omega) (fun p h => hpp p (hlm p h))]
  rfl
end Go.Proofs.Ythmibhmmbajcfaa.Abs
