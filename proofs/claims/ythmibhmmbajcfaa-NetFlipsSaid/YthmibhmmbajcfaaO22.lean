/-
  Bits turned twice, packets doubled, packets sent and taken.
-/
import Derived.Test.YthmibhmmbajcfaaN22
namespace Go.Proofs.Ythmibhmmbajcfaa.Abs

theorem oN_lens (a : GR22Net) : (oN a).Links.length = a.Links.length ∧ (oN a).Packets.length = a.Packets.length := ⟨List.length_map _, List.length_map _⟩
theorem xor_back (a b : BitVec 8) : (a ^^^ b) ^^^ b = a := by rw [BitVec.xor_assoc, BitVec.xor_self, BitVec.xor_zero]
theorem fbV_len (b : List UInt8) (t : Nat) : (fbV b t).length = b.length := List.length_set ..
theorem fbV_back (b : List UInt8) (t : Nat) : fbV (fbV b t) t = b := by
  unfold fbV
  rw [List.set_set]
  by_cases h : t / 8 < b.length
  · rw [List.getElem?_set_self h, List.getElem?_eq_getElem h]
    simp only [Option.getD_some]
    rw [xor_back]
    exact List.set_getElem_self h
  · rw [List.set_eq_of_length_le (by omega)]
theorem one_shl_ne : ∀ i : Nat, i < 8 → (1#8) <<< i ≠ 0#8 := by decide
theorem fbV_ne {b : List UInt8} {t : Nat} (h : t / 8 < b.length) : fbV b t ≠ b := by
  intro he
  have h1 : (fbV b t)[t / 8]? = b[t / 8]? := by rw [he]
  unfold fbV at h1
  rw [List.getElem?_set_self h, List.getElem?_eq_getElem h] at h1
  simp only [Option.getD_some, Option.some.injEq] at h1
  have h2 := congrArg UInt8.toBitVec h1
  rw [show (UInt8.ofBitVec (b[t / 8].toBitVec ^^^ 1#8 <<< (t % 8))).toBitVec = b[t / 8].toBitVec ^^^ 1#8 <<< (t % 8) from rfl] at h2
  have h3 : b[t / 8].toBitVec ^^^ (b[t / 8].toBitVec ^^^ 1#8 <<< (t % 8)) = b[t / 8].toBitVec ^^^ b[t / 8].toBitVec := by rw [h2]
  rw [← BitVec.xor_assoc, BitVec.xor_self, BitVec.zero_xor] at h3
  exact one_shl_ne _ (by omega) h3

theorem saneV_set {n : GNetNet} {k : Nat} {p q : GNetPacket} (h : saneV n = true) (hp : n.Packets[k]? = some p) (hq : q.Link = p.Link ∧ q.Bytes.length = p.Bytes.length) : saneV ⟨n.Links, n.Packets.set k q, n.Next⟩ = true := by
  unfold saneV at h ⊢
  simp only [Bool.and_eq_true] at h ⊢
  obtain ⟨⟨⟨⟨h1, h2⟩, h3⟩, h4⟩, h5⟩ := h
  refine ⟨⟨⟨⟨List.all_eq_true.2 fun x hx => ?_, h2⟩, h3⟩, ?_⟩, h5⟩
  · rcases List.mem_or_eq_of_mem_set hx with hx | rfl
    · exact List.all_eq_true.1 h1 x hx
    · have := List.all_eq_true.1 h1 p (List.mem_of_getElem? hp)
      unfold pkV sbV at this ⊢
      dsimp only at this ⊢
      rw [hq.1, hq.2]
      exact this
  · rw [List.length_set]
    exact h4

theorem flV_ok {n : GNetNet} {k bit : Int} {p : GNetPacket} (h : saneV n = true) (hk : kth n k = some p) (hb : 0 ≤ bit) : flV n k bit = ⟨n.Links, n.Packets.set k.toNat (fpV p bit), n.Next⟩ := by
  unfold flV
  rw [if_pos h, hk]
  dsimp only
  rw [if_neg (by omega)]
theorem flV_no {n : GNetNet} {k bit : Int} (h : saneV n = true) (hk : kth n k = none ∨ bit < 0) : flV n k bit = n := by
  unfold flV
  rw [if_pos h]
  rcases hk with hk | hk
  · rw [hk]
  · cases kth n k with
    | none => rfl
    | some p => dsimp only; rw [if_pos hk]
/-- What turning does, and turning again. -/
theorem flV_all {n : GNetNet} (k bit : Int) (h : saneV n = true) : saneV (flV n k bit) = true ∧ flV (flV n k bit) k bit = n ∧ (flV n k bit).Packets.length = n.Packets.length ∧
    ∀ (i : Nat) p, n.Packets[i]? = some p → ∃ q, (flV n k bit).Packets[i]? = some q ∧ (((i : Int) = k ∧ 0 ≤ bit → q ≠ p) ∧ (¬ ((i : Int) = k ∧ 0 ≤ bit) → q = p)) := by
  by_cases hb : bit < 0
  · rw [flV_no h (.inr hb)]
    exact ⟨h, flV_no h (.inr hb), rfl, fun i p hp => ⟨p, hp, fun h => by omega, fun _ => rfl⟩⟩
  cases hk : kth n k with
  | none =>
    rw [flV_no h (.inl hk)]
    refine ⟨h, flV_no h (.inl hk), rfl, fun i p hp => ⟨p, hp, fun h => ?_, fun _ => rfl⟩⟩
    have := kth_none hk
    have hlt := (List.getElem?_eq_some_iff.1 hp).1
    simp only [Bool.and_eq_false_iff, decide_eq_false_iff_not] at this
    omega
  | some p =>
    obtain ⟨h1, h2, h3, h4⟩ := kth_some hk
    have hpk := pk_of h (List.mem_of_getElem? h3)
    have hs2 : saneV ⟨n.Links, n.Packets.set k.toNat (fpV p bit), n.Next⟩ = true := saneV_set h h3 ⟨rfl, fbV_len _ _⟩
    rw [flV_ok h hk (by omega)]
    refine ⟨hs2, ?_, List.length_set .., fun i q hq => ?_⟩
    · have hk2 : kth (⟨n.Links, n.Packets.set k.toNat (fpV p bit), n.Next⟩ : GNetNet) k = some (fpV p bit) := by
        unfold kth
        rw [if_pos h1]
        exact List.getElem?_set_self (by omega)
      rw [flV_ok hs2 hk2 (by omega)]
      dsimp only
      rw [List.set_set]
      have : fpV (fpV p bit) bit = p := by
        unfold fpV
        dsimp only
        rw [fbV_len, fbV_back]
      rw [this]
      have e : n.Packets.set k.toNat p = n.Packets := by
        rw [List.getElem?_eq_getElem (by omega), Option.some.injEq] at h3
        rw [← h3]
        exact List.set_getElem_self _
      rw [e]
    · dsimp only
      have hlt := (List.getElem?_eq_some_iff.1 hq).1
      by_cases hik : i = k.toNat
      · subst hik
        rw [h3] at hq
        cases hq
        refine ⟨fpV p bit, List.getElem?_set_self hlt, fun _ he => ?_, fun hn => by omega⟩
        have := congrArg GNetPacket.Bytes he
        refine fbV_ne ?_ this
        have ht : bit.toNat % (8 * p.Bytes.length) < 8 * p.Bytes.length := Nat.mod_lt _ (by omega)
        omega
      · exact ⟨q, by rw [List.getElem?_set_ne (by omega)]; exact hq, fun h => by omega, fun _ => rfl⟩

theorem netFlips_true (a0 : GR22Net) (a1 a2 : Int) (h1 : a0.Links.length * 24 ≤ 140737488355328) (h2 : a0.Packets.length * 40 ≤ 140737488355328) : m4_l22_NetFlips a0 a1 a2 = some true := by
  unfold m4_l22_NetFlips
  rw [awake22, Option.bind_some, oursm a0 h1 h2, Option.bind_some]
  obtain ⟨v, hv, hf⟩ := fewm a0
  rw [hv, Option.bind_some]
  cases v with
  | false => rfl
  | true =>
  obtain ⟨hL, hP⟩ := hf rfl
  have hl := oN_lens a0
  rw [if_neg (nn (by rfl)), sanem _ (by omega) (by omega), Option.bind_some]
  cases hs : saneV (oN a0) with
  | false => rfl
  | true =>
  rw [if_neg (nn (by rfl))]
  unfold m4_l22_NetFlips_k3
  obtain ⟨f1, f2, f3, f4⟩ := flV_all a1 a2 hs
  have f5 := flV_len (oN a0) a1 a2
  rw [flipm _ _ _ (by omega) (by omega), Option.bind_some, flipm _ _ _ (by omega) (by omega), Option.bind_some, f2, theirsm _ (by omega) (by omega), Option.bind_some, tN_oN, samem a0 (by omega) (by omega), Option.bind_some, sanem _ (by omega) (by omega), Option.bind_some, f1]
  generalize flV (oN a0) a1 a2 = w at f3 f4
  rw [decide_eq_true (by omega)]
  simp only [Bool.not_true, Bool.false_eq_true, if_false]
  unfold m4_l22_NetFlips_k6
  rw [allR a0.Packets (fun _ => true) false (m4_l22_NetFlips_s8 a0 a1 a2 w) (by omega) (fun i p hp => by
    have hlt := (List.getElem?_eq_some_iff.1 hp).1
    obtain ⟨q, hq, g1, g2⟩ := f4 i (oP p) (by show (a0.Packets.map oP)[i]? = _; rw [List.getElem?_map, hp]; rfl)
    unfold m4_l22_NetFlips_s8
    rw [if_pos (decide_eq_true (by omega)), idx_nat, idx_nat, hq, hp, Option.bind_some, show m22_l22_packet q = some (tP q) from rfl, Option.bind_some, Option.bind_some, spm, Option.bind_some, wI_id (by omega) (by omega), if_pos rfl]
    by_cases hik : (i : Int) = a1
    · rw [if_pos (decide_eq_true hik)]
      by_cases hb : 0 ≤ a2
      · have hne : spV (tP q) p = false := Bool.eq_false_iff.2 fun h => g1 ⟨hik, hb⟩ (by rw [← spV_iff.1 h]; rfl)
        rw [hne, decide_eq_true hb]; rfl
      · have he : spV (tP q) p = true := by rw [g2 (by omega)]; exact spV_self p
        rw [he, decide_eq_false hb]; rfl
    · rw [if_neg (by rw [decide_eq_true_eq]; exact hik)]
      have he : spV (tP q) p = true := by rw [g2 (by omega)]; exact spV_self p
      rw [he]; rfl) (by
    unfold m4_l22_NetFlips_s8
    rw [if_neg (by rw [decide_eq_true_eq]; omega)]), show (a0.Packets.all fun _ => true) = true from List.all_eq_true.2 fun _ _ => rfl, if_pos rfl, Option.bind_some]
  rfl

theorem saneV_app {n : GNetNet} {p : GNetPacket} (h : saneV n = true) (hl : n.Packets.length < 64) (hp : pkV n p = true) : saneV ⟨n.Links, n.Packets ++ [p], n.Next⟩ = true := by
  unfold saneV at h ⊢
  simp only [Bool.and_eq_true] at h ⊢
  obtain ⟨⟨⟨⟨h1, h2⟩, h3⟩, h4⟩, h5⟩ := h
  refine ⟨⟨⟨⟨?_, h2⟩, h3⟩, decide_eq_true (by rw [List.length_append, List.length_singleton]; omega)⟩, h5⟩
  rw [List.all_append, Bool.and_eq_true]
  refine ⟨List.all_eq_true.2 fun x hx => List.all_eq_true.1 h1 x hx, ?_⟩
  rw [List.all_cons, List.all_nil, Bool.and_true]
  exact hp
theorem saneV_sub {n : GNetNet} {l : List GNetPacket} (h : saneV n = true) (hs : ∀ x ∈ l, x ∈ n.Packets) (hl : l.length ≤ n.Packets.length) : saneV ⟨n.Links, l, n.Next⟩ = true := by
  have := saneV_next h
  unfold saneV at h ⊢
  simp only [Bool.and_eq_true] at h ⊢
  obtain ⟨⟨⟨⟨h1, h2⟩, h3⟩, h4⟩, h5⟩ := h
  exact ⟨⟨⟨⟨List.all_eq_true.2 fun x hx => List.all_eq_true.1 h1 x (hs x hx), h2⟩, h3⟩, decide_eq_true (by omega)⟩, h5⟩

theorem duV_none {n : GNetNet} {k : Int} (h : saneV n = true) (hk : kth n k = none) : duV n k = (nz, 6) := by
  unfold duV
  rw [if_pos h, hk]
theorem duV_full {n : GNetNet} {k : Int} {p : GNetPacket} (h : saneV n = true) (hk : kth n k = some p) (hl : 64 ≤ n.Packets.length) : duV n k = (nz, 8) := by
  unfold duV wiV
  rw [if_pos h, hk]
  dsimp only
  rw [if_pos (decide_eq_true (by omega))]
theorem duV_ok {n : GNetNet} {k : Int} {p : GNetPacket} (h : saneV n = true) (hk : kth n k = some p) (hl : n.Packets.length < 64) : duV n k = (⟨n.Links, n.Packets ++ [p], n.Next⟩, 0) := by
  unfold duV wiV
  rw [if_pos h, hk]
  dsimp only
  rw [if_neg (by rw [decide_eq_true_eq]; omega)]
theorem netDups_true (a0 : GR22Net) (a1 : Int) (h1 : a0.Links.length * 24 ≤ 140737488355328) (h2 : a0.Packets.length * 40 ≤ 140737488355328) : m7_l22_NetDups a0 a1 = some true := by
  unfold m7_l22_NetDups
  rw [awake22, Option.bind_some, oursm a0 h1 h2, Option.bind_some]
  obtain ⟨v, hv, hf⟩ := fewm a0
  rw [hv, Option.bind_some]
  cases v with
  | false => rfl
  | true =>
  obtain ⟨hL, hP⟩ := hf rfl
  have hl := oN_lens a0
  rw [if_neg (nn (by rfl)), sanem _ (by omega) (by omega), Option.bind_some]
  cases hs : saneV (oN a0) with
  | false => rfl
  | true =>
  rw [if_neg (nn (by rfl))]
  unfold m7_l22_NetDups_k3
  rw [dupm _ _ (by omega) (by omega), Option.bind_some]
  cases hk : kth (oN a0) a1 with
  | none =>
    rw [duV_none hs hk]
    have hk := kth_none hk
    rw [hl.2] at hk
    dsimp only
    rw [if_pos (by rfl), if_pos (by rfl)]
    by_cases h0 : a1 < 0
    · rw [if_pos (decide_eq_true h0)]; rfl
    · rw [decide_eq_true (p := 0 ≤ a1) (by omega), Bool.true_and, decide_eq_false_iff_not] at hk
      rw [if_neg (by rw [decide_eq_true_eq]; exact h0), decide_eq_true (p := (a0.Packets.length : Int) ≤ a1) (by omega)]; rfl
  | some p =>
    obtain ⟨g1, g2, g3, g4⟩ := kth_some hk
    have hpk := List.mem_of_getElem? g3
    obtain ⟨p, rfl, hq, g5, g6⟩ := kth_oN hk
    by_cases h64 : 64 ≤ (oN a0).Packets.length
    · rw [duV_full hs hk h64]
      dsimp only
      rw [if_pos (by rfl), if_pos (by rfl), if_neg (by rw [decide_eq_true_eq]; omega), decide_eq_false (p := (a0.Packets.length : Int) ≤ a1) (by omega)]
      rfl
    rw [duV_ok hs hk (by omega)]
    have hpkv : pkV (oN a0) (oP p) = true := by
      unfold saneV at hs
      simp only [Bool.and_eq_true] at hs
      exact List.all_eq_true.1 hs.1.1.1.1 _ hpk
    have hs2 := saneV_app hs (p := oP p) (by omega) hpkv
    dsimp only
    rw [if_neg (nn (by rfl))]
    have hlen : ((oN a0).Packets ++ [oP p]).length = a0.Packets.length + 1 := by rw [List.length_append, List.length_singleton, hl.2]
    rw [takem _ _ (by dsimp only; omega) (by dsimp only; omega), Option.bind_some, takem _ _ (by dsimp only; omega) (by dsimp only; omega), Option.bind_some]
    unfold tkV
    rw [if_pos hs2, if_pos hs2]
    have k1 : kth (⟨(oN a0).Links, (oN a0).Packets ++ [oP p], (oN a0).Next⟩ : GNetNet) a1 = some (oP p) := by
      unfold kth
      rw [if_pos g1]
      show ((oN a0).Packets ++ [oP p])[a1.toNat]? = _
      rw [List.getElem?_append_left (by omega)]
      exact g3
    have k2 : kth (⟨(oN a0).Links, (oN a0).Packets ++ [oP p], (oN a0).Next⟩ : GNetNet) (a0.Packets.length : Int) = some (oP p) := by
      unfold kth
      rw [if_pos (by omega)]
      show ((oN a0).Packets ++ [oP p])[(a0.Packets.length : Int).toNat]? = _
      rw [List.getElem?_append_right (by omega), show (a0.Packets.length : Int).toNat - (oN a0).Packets.length = 0 by omega]
      rfl
    rw [k1, k2]
    dsimp only
    simp only [if_true]
    rw [show m22_l22_packet (oP p) = some p from rfl, Option.bind_some, Option.bind_some, spm, spV_self, Option.bind_some, if_pos rfl]
    have e3 : ((oN a0).Packets ++ [oP p]).take (a0.Packets.length : Int).toNat ++ ((oN a0).Packets ++ [oP p]).drop ((a0.Packets.length : Int).toNat + 1) = (oN a0).Packets := by
      rw [Int.toNat_natCast, ← hl.2, List.take_left, List.drop_eq_nil_of_le (by rw [List.length_append, List.length_singleton]; omega), List.append_nil]
    rw [e3, show (⟨(oN a0).Links, (oN a0).Packets, (oN a0).Next⟩ : GNetNet) = oN a0 from rfl, theirsm _ (by omega) (by omega), Option.bind_some, tN_oN, samem a0 (by omega) (by omega), Option.bind_some, if_pos rfl, Option.bind_some, hq, Option.bind_some, spm, spV_self]
    rfl
end Go.Proofs.Ythmibhmmbajcfaa.Abs
