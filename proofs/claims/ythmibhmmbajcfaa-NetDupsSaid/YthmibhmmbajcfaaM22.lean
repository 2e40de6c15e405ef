/-
  Taking, doubling, turning, cutting; a net there and back; the laws.
-/
import Derived.Test.YthmibhmmbajcfaaL22
namespace Go.Proofs.Ythmibhmmbajcfaa.Abs

theorem therem (n : GNetNet) (k : Int) : m45_net_there n k = some (decide (0 ≤ k) && decide (k < (n.Packets.length : Int))) := by
  unfold m45_net_there
  cases decide (0 ≤ k) <;> rfl
/-- The k-th packet. -/
def kth (n : GNetNet) (k : Int) : Option GNetPacket := if 0 ≤ k then n.Packets[k.toNat]? else none
theorem kth_there {n : GNetNet} {k : Int} : (kth n k).isSome = (decide (0 ≤ k) && decide (k < (n.Packets.length : Int))) := by
  unfold kth
  by_cases h : 0 ≤ k
  · rw [if_pos h, decide_eq_true h, Bool.true_and]
    by_cases h2 : k < n.Packets.length
    · rw [decide_eq_true h2, List.getElem?_eq_getElem (by omega)]; rfl
    · rw [decide_eq_false h2, List.getElem?_eq_none (by omega)]; rfl
  · rw [if_neg h, decide_eq_false h]; rfl
theorem kth_none {n : GNetNet} {k : Int} (h : kth n k = none) : (decide (0 ≤ k) && decide (k < (n.Packets.length : Int))) = false := by
  rw [← kth_there, h]; rfl
theorem kth_some {n : GNetNet} {k : Int} {p : GNetPacket} (h : kth n k = some p) : 0 ≤ k ∧ k < n.Packets.length ∧ n.Packets[k.toNat]? = some p ∧ idx n.Packets k = some p := by
  have h1 := kth_there (n := n) (k := k)
  rw [h] at h1
  simp only [Option.isSome_some, Bool.true_eq, Bool.and_eq_true, decide_eq_true_eq] at h1
  unfold kth at h
  rw [if_pos h1.1] at h
  exact ⟨h1.1, h1.2, h, idx_of h1.1 h⟩
theorem kth_oN {a : GR22Net} {k : Int} {p : GNetPacket} (h : kth (oN a) k = some p) : ∃ q, oP q = p ∧ idx a.Packets k = some q ∧ 0 ≤ k ∧ k < a.Packets.length := by
  obtain ⟨h1, h2, h3, -⟩ := kth_some h
  rw [show (oN a).Packets = a.Packets.map oP from rfl, List.getElem?_map, Option.map_eq_some_iff] at h3
  obtain ⟨q, hq, rfl⟩ := h3
  rw [show (oN a).Packets = a.Packets.map oP from rfl, List.length_map] at h2
  exact ⟨q, rfl, idx_of h1 hq, h1, h2⟩

def tkV (n : GNetNet) (k : Int) : GNetNet × GNetPacket × Bool :=
  if saneV n then (match kth n k with | some p => (⟨n.Links, n.Packets.take k.toNat ++ n.Packets.drop (k.toNat + 1), n.Next⟩, p, true) | none => (n, pz, false)) else (nz, pz, false)
theorem takem (n : GNetNet) (k : Int) (h : n.Links.length ≤ 1000000) (hp : n.Packets.length ≤ 1000000) : m17_net_Take n k = some (tkV n k) := by
  unfold m17_net_Take tkV
  rw [sanem n h hp, Option.bind_some, therem, Option.bind_some]
  cases saneV n with
  | false => rfl
  | true =>
  simp only [Bool.not_true, Bool.false_eq_true, if_false, if_true]
  cases hk : kth n k with
  | none => rw [kth_none hk]; rfl
  | some p =>
  obtain ⟨h1, h2, h3, h4⟩ := kth_some hk
  rw [decide_eq_true h1, decide_eq_true h2, if_neg (nn (by rfl)), h4, Option.bind_some, cut_of (by omega) h1 (by omega), Option.bind_some, wI_id (by omega) (by omega), cut_of (by omega) (by omega) (by omega), Option.bind_some]
  rw [m46_slices_Concat_m _ (by simp; omega) (by simp), Option.bind_some]
  have e1 : List.take (k.toNat - (0 : Int).toNat) (List.drop (0 : Int).toNat n.Packets) = n.Packets.take k.toNat := by simp
  have e2 : List.take ((n.Packets.length : Int).toNat - (k + 1).toNat) (List.drop (k + 1).toNat n.Packets) = n.Packets.drop (k.toNat + 1) := by
    rw [show (k + 1).toNat = k.toNat + 1 by omega]
    exact List.take_of_length_le (by rw [List.length_drop]; omega)
  rw [e1, e2]
  simp
theorem rtakem (a : GR22Net) (k : Int) (hp : a.Packets.length ≤ 1000000) : m18_r22_Take a k = some (tN (tkV (oN a) k).1, tP (tkV (oN a) k).2.1, (tkV (oN a) k).2.2) := by
  unfold m18_r22_Take tkV
  rw [rsanem, Option.bind_some]
  cases saneV (oN a) with
  | false => rfl
  | true =>
  simp only [Bool.not_true, Bool.false_eq_true, if_false, if_true]
  cases hk : kth (oN a) k with
  | none =>
    have h1 := kth_none hk
    rw [show (oN a).Packets.length = a.Packets.length from List.length_map _] at h1
    dsimp only
    rw [tN_oN]
    by_cases h2 : k < 0
    · rw [if_pos (decide_eq_true h2)]; rfl
    rw [if_neg (by rw [decide_eq_true_eq]; exact h2)]
    rw [decide_eq_true (p := 0 ≤ k) (by omega), Bool.true_and, decide_eq_false_iff_not] at h1
    rw [if_pos (decide_eq_true (by omega))]
    rfl
  | some p =>
    obtain ⟨q, rfl, hq, h1, h2⟩ := kth_oN hk
    rw [if_neg (by rw [decide_eq_true_eq]; omega), if_neg (by rw [decide_eq_true_eq]; omega)]
    unfold m18_r22_Take_k2
    have e1 : List.take (k.toNat - (0 : Int).toNat) (List.drop (0 : Int).toNat a.Packets) = a.Packets.take k.toNat := by simp
    have e2 : List.take ((a.Packets.length : Int).toNat - (k + 1).toNat) (List.drop (k + 1).toNat a.Packets) = a.Packets.drop (k.toNat + 1) := by
      rw [show (k + 1).toNat = k.toNat + 1 by omega]
      exact List.take_of_length_le (by rw [List.length_drop]; omega)
    rw [cut_of (by omega) h1 (by omega), Option.bind_some, wI_id (by omega) (by omega), cut_of (by omega) (by omega) (by omega), Option.bind_some, e1, e2, hq]
    simp only [List.length_nil, List.nil_append, Option.bind_some]
    rw [if_pos (by rw [List.length_take]; omega), if_pos (by rw [List.length_take, List.length_drop]; omega)]
    simp [tN, oN, tLoL, ← List.map_take, ← List.map_drop, tPoP, tP, oP]

def duV (n : GNetNet) (k : Int) : GNetNet × Int := if saneV n then (match kth n k with | some p => wiV n p | none => (nz, 6)) else (nz, 1)
theorem dupm (n : GNetNet) (k : Int) (h : n.Links.length ≤ 1000000) (hp : n.Packets.length ≤ 1000000) : m19_net_Dup n k = some (duV n k) := by
  unfold m19_net_Dup duV
  rw [sanem n h hp, Option.bind_some, therem, Option.bind_some]
  cases saneV n with
  | false => rfl
  | true =>
  simp only [Bool.not_true, Bool.false_eq_true, if_false, if_true]
  cases hk : kth n k with
  | none => rw [kth_none hk]; rfl
  | some p =>
  obtain ⟨h1, h2, h3, h4⟩ := kth_some hk
  rw [decide_eq_true h1, decide_eq_true h2, if_neg (nn (by rfl)), h4, Option.bind_some, withm _ _ hp]
  rfl
theorem rdupm (a : GR22Net) (k : Int) (hp : a.Packets.length ≤ 1000000) : m20_r22_Dup a k = some (tN (duV (oN a) k).1, (duV (oN a) k).2) := by
  unfold m20_r22_Dup duV
  rw [rsanem, Option.bind_some]
  cases saneV (oN a) with
  | false => rfl
  | true =>
  simp only [Bool.not_true, Bool.false_eq_true, if_false, if_true]
  cases hk : kth (oN a) k with
  | none =>
    have h1 := kth_none hk
    rw [show (oN a).Packets.length = a.Packets.length from List.length_map _] at h1
    by_cases h2 : k < 0
    · rw [if_pos (decide_eq_true h2)]; rfl
    rw [if_neg (by rw [decide_eq_true_eq]; exact h2)]
    rw [decide_eq_true (p := 0 ≤ k) (by omega), Bool.true_and, decide_eq_false_iff_not] at h1
    rw [if_pos (decide_eq_true (by omega))]
    rfl
  | some p =>
    obtain ⟨q, rfl, hq, h1, h2⟩ := kth_oN hk
    rw [if_neg (by rw [decide_eq_true_eq]; omega), if_neg (by rw [decide_eq_true_eq]; omega)]
    unfold m20_r22_Dup_k2
    rw [hq, Option.bind_some, rwithm _ _ hp]
    rfl

/-- A bit of bytes, turned. -/
def fbV (b : List UInt8) (t : Nat) : List UInt8 := b.set (t / 8) (UInt8.ofBitVec ((b[t / 8]?.getD 0).toBitVec ^^^ ((1#8) <<< (t % 8))))
def fpV (p : GNetPacket) (bit : Int) : GNetPacket := ⟨p.Link, p.Up, fbV p.Bytes (bit.toNat % (8 * p.Bytes.length))⟩
def flV (n : GNetNet) (k bit : Int) : GNetNet := if saneV n then (match kth n k with | some p => if bit < 0 then n else ⟨n.Links, n.Packets.set k.toNat (fpV p bit), n.Next⟩ | none => n) else nz
theorem pk_of {n : GNetNet} {p : GNetPacket} (h : saneV n = true) (hp : p ∈ n.Packets) : 0 ≤ p.Link ∧ p.Link < n.Next ∧ 1 ≤ p.Bytes.length ∧ p.Bytes.length ≤ 2048 := by
  unfold saneV at h
  simp only [Bool.and_eq_true] at h
  have := List.all_eq_true.1 h.1.1.1.1 p hp
  unfold pkV sbV at this
  simp only [Bool.and_eq_true, decide_eq_true_eq] at this
  omega
theorem tm8 {b : List UInt8} {bit : Int} (h0 : 0 ≤ bit) (hl : 1 ≤ b.length) (hl2 : b.length ≤ 2048) : (bit.tmod (wI (8 * (b.length : Int)))) = ((bit.toNat % (8 * b.length) : Nat) : Int) ∧ (wI (8 * (b.length : Int))) ≠ 0 := by
  rw [wI_id (by omega) (by omega)]
  refine ⟨?_, by omega⟩
  obtain ⟨m, rfl⟩ := Int.eq_ofNat_of_zero_le h0
  rw [Int.toNat_natCast, show (8 * (b.length : Int)) = ((8 * b.length : Nat) : Int) by push_cast; rfl, ← Int.ofNat_tmod]
theorem flipm (n : GNetNet) (k bit : Int) (h : n.Links.length ≤ 1000000) (hp : n.Packets.length ≤ 1000000) : m28_net_Flip n k bit = some (flV n k bit) := by
  unfold m28_net_Flip flV
  rw [show (⟨n.Links, n.Packets, n.Next⟩ : GNetNet) = n from rfl, sanem n h hp, Option.bind_some, therem, Option.bind_some]
  cases hs : saneV n with
  | false => rfl
  | true =>
  simp only [Bool.not_true, Bool.false_eq_true, if_false, if_true]
  cases hk : kth n k with
  | none => rw [kth_none hk]; rfl
  | some p =>
  obtain ⟨h1, h2, h3, h4⟩ := kth_some hk
  rw [decide_eq_true h1, decide_eq_true h2, if_neg (nn (by rfl))]
  dsimp only
  by_cases hb : bit < 0
  · rw [if_pos (decide_eq_true hb), if_pos hb]
  rw [if_neg (by rw [decide_eq_true_eq]; exact hb), if_neg hb]
  unfold m28_net_Flip_k2
  have hpk := pk_of hs (List.mem_of_getElem? h3)
  rw [m47_slices_Cloneo_m _ (by omega), Option.bind_some, h4, Option.bind_some, m48_bytes_Cloneo_m _ (by omega), Option.bind_some]
  obtain ⟨e1, e2⟩ := tm8 (b := p.Bytes) (bit := bit) (by omega) hpk.2.2.1 hpk.2.2.2
  rw [if_pos e2, e1]
  unfold fpV fbV
  have ht : bit.toNat % (8 * p.Bytes.length) < 8 * p.Bytes.length := Nat.mod_lt _ (by omega)
  generalize bit.toNat % (8 * p.Bytes.length) = t at ht
  rw [show ((t : Nat) : Int).tdiv 8 = ((t / 8 : Nat) : Int) from (Int.ofNat_tdiv t 8).symm, show ((t : Nat) : Int).tmod 8 = ((t % 8 : Nat) : Int) from (Int.ofNat_tmod t 8).symm]
  rw [wI_id (by omega) (by omega), idx_nat, List.getElem?_eq_getElem (show t / 8 < p.Bytes.length by omega), Option.bind_some, if_pos (by omega), Option.bind_some, Option.bind_some, Int.toNat_natCast, Int.toNat_natCast]
  rfl
theorem shl8 : ∀ i : Nat, i < 8 → ((1#8) <<< i) * (2#8) = (1#8) <<< (i + 1) := by decide
theorem rflipm (a : GR22Net) (k bit : Int) (hp : a.Packets.length ≤ 1000000) : m29_r22_Flip a k bit = some (tN (flV (oN a) k bit)) := by
  unfold m29_r22_Flip flV
  rw [rsanem, Option.bind_some]
  cases hs : saneV (oN a) with
  | false => rfl
  | true =>
  simp only [Bool.not_true, Bool.false_eq_true, if_false, if_true]
  cases hk : kth (oN a) k with
  | none =>
    have h1 := kth_none hk
    rw [show (oN a).Packets.length = a.Packets.length from List.length_map _] at h1
    dsimp only
    rw [tN_oN]
    by_cases h2 : k < 0
    · rw [if_pos (decide_eq_true h2)]
    rw [if_neg (by rw [decide_eq_true_eq]; exact h2)]
    rw [decide_eq_true (p := 0 ≤ k) (by omega), Bool.true_and, decide_eq_false_iff_not] at h1
    rw [if_pos (decide_eq_true (by omega))]
  | some p =>
    have hk3 := (kth_some hk).2.2.1
    obtain ⟨p, rfl, hq, h1, h2⟩ := kth_oN hk
    rw [if_neg (by rw [decide_eq_true_eq]; omega), if_neg (by rw [decide_eq_true_eq]; omega)]
    dsimp only
    by_cases hb : bit < 0
    · rw [if_pos (decide_eq_true hb), if_pos hb, tN_oN]
    rw [if_neg (by rw [decide_eq_true_eq]; exact hb), if_neg hb]
    have hpk := pk_of hs (List.mem_of_getElem? hk3)
    rw [show (oP p).Bytes = p.Bytes from rfl] at hpk
    unfold m29_r22_Flip_k2
    obtain ⟨e1, e2⟩ := tm8 (b := p.Bytes) (bit := bit) (by omega) hpk.2.2.1 hpk.2.2.2
    have ht : bit.toNat % (8 * p.Bytes.length) < 8 * p.Bytes.length := Nat.mod_lt _ (by omega)
    have hloop : iterB (m29_r22_Flip_s11 bit p) fuel (1#8, 0) = some ((1#8) <<< (bit.toNat % (8 * p.Bytes.length) % 8)) := by
      generalize hte : bit.toNat % (8 * p.Bytes.length) = t at ht
      rw [hte] at e1
      obtain ⟨v, hv, rfl⟩ := iterB_inv (f := m29_r22_Flip_s11 bit p) (P := fun s => ∃ i : Nat, i ≤ t % 8 ∧ s = ((1#8) <<< i, (i : Int))) (μ := fun s => 8 - s.2.toNat) (R := fun v => v = (1#8) <<< (t % 8)) (by
        rintro _ ⟨i, hi, rfl⟩
        unfold m29_r22_Flip_s11
        have e3 : (bit.tmod (wI (8 * (p.Bytes.length : Int)))).tmod 8 = ((t % 8 : Nat) : Int) := by rw [e1]; exact (Int.ofNat_tmod t 8).symm
        dsimp only
        rcases Nat.lt_or_ge i (t % 8) with hlt | hge
        · left
          rw [if_pos (decide_eq_true (by show (i : Int) < (bit.tmod (wI (8 * (p.Bytes.length : Int)))).tmod 8; rw [e3]; omega)), wI_id (by omega) (by omega), shl8 i (by omega)]
          exact ⟨_, rfl, ⟨i + 1, hlt, rfl⟩, by dsimp only; omega⟩
        · right
          have e : i = t % 8 := by omega
          subst e
          rw [if_neg (by rw [decide_eq_true_eq]; show ¬ ((t % 8 : Nat) : Int) < (bit.tmod (wI (8 * (p.Bytes.length : Int)))).tmod 8; rw [e3]; omega)]
          exact ⟨_, rfl, rfl⟩) fuel (1#8, 0) ⟨0, Nat.zero_le _, rfl⟩ (lt_fuel (by decide))
      exact hv
    simp only [List.length_nil, List.nil_append]
    rw [if_pos (by omega), hq, Option.bind_some, if_pos (by omega), if_pos e2, hloop, Option.bind_some]
    unfold m29_r22_Flip_k7
    simp only [List.nil_append]
    rw [e1]
    unfold fpV fbV
    rw [show (oP p).Bytes = p.Bytes from rfl, show (oP p).Link = p.Link from rfl, show (oP p).Up = p.Up from rfl]
    generalize bit.toNat % (8 * p.Bytes.length) = t at ht
    rw [show ((t : Nat) : Int).tdiv 8 = ((t / 8 : Nat) : Int) from (Int.ofNat_tdiv t 8).symm]
    rw [wI_id (by omega) (by omega), idx_nat, List.getElem?_eq_getElem (show t / 8 < p.Bytes.length by omega), Option.bind_some, Option.bind_some, hq, Option.bind_some, Int.toNat_natCast]
    simp [tN, oN, tLoL, tPoP, List.map_set, tP]
end Go.Proofs.Ythmibhmmbajcfaa.Abs
