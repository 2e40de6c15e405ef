/-
  A net there and back; the laws of nets.
-/
import Derived.Test.YthmibhmmbajcfaaM22
namespace Go.Proofs.Ythmibhmmbajcfaa.Abs

def cuV (n : GNetNet) (id : Int) : GNetNet := if saneV n then ⟨n.Links.filter (fun x => !decide (x.ID = id)), n.Packets, n.Next⟩ else nz
theorem cutm (n : GNetNet) (id : Int) (h : n.Links.length ≤ 1000000) (hp : n.Packets.length ≤ 1000000) : m26_net_Cut n id = some (cuV n id) := by
  unfold m26_net_Cut cuV
  rw [sanem n h hp, Option.bind_some]
  cases hs : saneV n with
  | false => rfl
  | true =>
  simp only [Bool.not_true, Bool.false_eq_true, if_false, if_true]
  rw [collB n.Links (fun x => if !decide (x.ID = id) then [x] else []) (m26_net_Cut_s3 n id) 1 (fun x => by split <;> simp) (by omega) (fun i x acc hx hacc => by
    have hlt := (List.getElem?_eq_some_iff.1 hx).1
    unfold m26_net_Cut_s3
    dsimp only
    rw [if_pos (decide_eq_true (by omega)), idx_nat, hx, Option.bind_some, wI_id (by omega) (by omega)]
    cases hd : decide (x.ID = id) with
    | true => simp
    | false =>
      simp only [Bool.not_false, if_true]
      rw [if_pos (by rw [List.length_singleton]; omega)]
      rfl) (fun acc => by
    unfold m26_net_Cut_s3
    dsimp only
    rw [if_neg (by rw [decide_eq_true_eq]; omega)]), Option.bind_some, flat_opt, List.map_id'']
  · rfl
  · intro x; rfl
theorem rcutm (a : GR22Net) (id : Int) (h : a.Links.length ≤ 1000000) : m27_r22_Cut a id = some (tN (cuV (oN a) id)) := by
  unfold m27_r22_Cut cuV
  rw [rsanem, Option.bind_some]
  cases hs : saneV (oN a) with
  | false => rfl
  | true =>
  simp only [Bool.not_true, Bool.false_eq_true, if_false, if_true]
  rw [collB a.Links (fun x => if !decide (x.ID = id) then [x] else []) (m27_r22_Cut_s3 a id) 1 (fun x => by split <;> simp) (by omega) (fun i x acc hx hacc => by
    have hlt := (List.getElem?_eq_some_iff.1 hx).1
    unfold m27_r22_Cut_s3
    dsimp only
    rw [if_pos (decide_eq_true (by omega)), idx_nat, hx, Option.bind_some, Option.bind_some, wI_id (by omega) (by omega)]
    cases hd : decide (x.ID = id) with
    | true => simp
    | false =>
      simp only [Bool.not_false, if_true]
      rw [if_pos (by rw [List.length_singleton]; omega)]
      rfl) (fun acc => by
    unfold m27_r22_Cut_s3
    dsimp only
    rw [if_neg (by rw [decide_eq_true_eq]; omega)]), Option.bind_some, flat_opt, List.map_id'']
  · unfold m27_r22_Cut_k2
    have hf : (a.Links.map oL).filter (fun x => !decide (x.ID = id)) = (a.Links.filter (fun x => !decide (x.ID = id))).map oL := by
      rw [List.filter_map]; rfl
    show some (GR22Net.mk _ _ _) = some (tN ⟨(a.Links.map oL).filter _, a.Packets.map oP, a.Next⟩)
    rw [hf]
    simp [tN, tLoL, tPoP]
  · intro x; rfl

theorem theirsm (n : GNetNet) (h : n.Links.length ≤ 1000000) (hp : n.Packets.length ≤ 1000000) : m16_l22_theirs n = some (tN n) := by
  unfold m16_l22_theirs
  rw [collB n.Links (fun x => [tL x]) (m16_l22_theirs_s8 n) 1 (fun x => by simp) (by omega) (fun i x acc hx hacc => by
    have hlt := (List.getElem?_eq_some_iff.1 hx).1
    unfold m16_l22_theirs_s8
    dsimp only
    rw [if_pos (decide_eq_true (by omega)), idx_nat, hx, Option.bind_some, show m44_l22_link x = some (tL x) from rfl, Option.bind_some, if_pos (by rw [List.length_singleton]; omega), wI_id (by omega) (by omega)]
    rfl) (fun acc => by
    unfold m16_l22_theirs_s8
    dsimp only
    rw [if_neg (by rw [decide_eq_true_eq]; omega)]), Option.bind_some, flat_one]
  unfold m16_l22_theirs_k1
  rw [collB n.Packets (fun x => [tP x]) (m16_l22_theirs_s3 n) 1 (fun x => by simp) (by omega) (fun i x acc hx hacc => by
    have hlt := (List.getElem?_eq_some_iff.1 hx).1
    unfold m16_l22_theirs_s3
    dsimp only
    rw [if_pos (decide_eq_true (by omega)), idx_nat, hx, Option.bind_some, show m22_l22_packet x = some (tP x) from rfl, Option.bind_some, if_pos (by rw [List.length_singleton]; omega), wI_id (by omega) (by omega)]
    rfl) (fun acc => by
    unfold m16_l22_theirs_s3
    dsimp only
    rw [if_neg (by rw [decide_eq_true_eq]; omega)]), Option.bind_some, flat_one]
  rfl
theorem oursm (a : GR22Net) (h : a.Links.length * 24 ≤ 140737488355328) (hp : a.Packets.length * 40 ≤ 140737488355328) : m10_l22_ours a = some (oN a) := by
  unfold m10_l22_ours
  rw [collB a.Links (fun x => [oL x]) (m10_l22_ours_s7 a) 1 (fun x => by simp) (by omega) (fun i x acc hx hacc => by
    have hlt := (List.getElem?_eq_some_iff.1 hx).1
    unfold m10_l22_ours_s7
    dsimp only
    rw [if_pos (decide_eq_true (by omega)), idx_nat, hx, Option.bind_some, if_pos (by rw [List.length_singleton]; omega), wI_id (by omega) (by omega)]
    rfl) (fun acc => by
    unfold m10_l22_ours_s7
    dsimp only
    rw [if_neg (by rw [decide_eq_true_eq]; omega)]), Option.bind_some, flat_one]
  unfold m10_l22_ours_k1
  rw [collB a.Packets (fun x => [oP x]) (m10_l22_ours_s3 a) 1 (fun x => by simp) (by omega) (fun i x acc hx hacc => by
    have hlt := (List.getElem?_eq_some_iff.1 hx).1
    unfold m10_l22_ours_s3
    dsimp only
    rw [if_pos (decide_eq_true (by omega)), idx_nat, hx, Option.bind_some, if_pos (by rw [List.length_singleton]; omega), wI_id (by omega) (by omega)]
    rfl) (fun acc => by
    unfold m10_l22_ours_s3
    dsimp only
    rw [if_neg (by rw [decide_eq_true_eq]; omega)]), Option.bind_some, flat_one]
  rfl
theorem fewm (a : GR22Net) : ∃ v, m9_r22_Few a = some v ∧ (v = true → a.Links.length ≤ 12 ∧ a.Packets.length ≤ 80) := by
  unfold m9_r22_Few
  by_cases h1 : (12 : Int) < a.Links.length
  · rw [if_pos (decide_eq_true h1)]; exact ⟨_, rfl, fun h => by cases h⟩
  rw [if_neg (by rw [decide_eq_true_eq]; exact h1)]
  by_cases h2 : (80 : Int) < a.Packets.length
  · rw [if_pos (decide_eq_true h2)]; exact ⟨_, rfl, fun h => by cases h⟩
  rw [if_neg (by rw [decide_eq_true_eq]; exact h2)]
  unfold m9_r22_Few_k1
  rw [allR a.Packets (fun p => !decide (2100 < (p.Bytes.length : Int))) false (m9_r22_Few_s3 a) (by omega) (fun i x hx => by
    have hlt := (List.getElem?_eq_some_iff.1 hx).1
    unfold m9_r22_Few_s3
    rw [if_pos (decide_eq_true (by omega)), idx_nat, hx, Option.bind_some, wI_id (by omega) (by omega)]
    cases decide (2100 < (x.Bytes.length : Int)) <;> rfl) (by
    unfold m9_r22_Few_s3
    rw [if_neg (by rw [decide_eq_true_eq]; omega)])]
  cases a.Packets.all (fun p => !decide (2100 < (p.Bytes.length : Int))) with
  | true => exact ⟨true, rfl, fun _ => by omega⟩
  | false => exact ⟨false, rfl, fun h => by cases h⟩

def spV (a b : GR22Packet) : Bool := decide (a.Link = b.Link) && (a.Up == b.Up) && (a.Bytes == b.Bytes)
theorem spm (a b : GR22Packet) : m21_r22_SamePacket a b = some (spV a b) := by
  unfold m21_r22_SamePacket spV
  cases decide (a.Link = b.Link) <;> cases (a.Up == b.Up) <;> rfl
theorem spV_iff {a b : GR22Packet} : spV a b = true ↔ a = b := by
  cases a; cases b
  simp [spV, and_assoc]
theorem spV_self (a : GR22Packet) : spV a a = true := spV_iff.2 rfl
theorem samem (a : GR22Net) (h : a.Links.length ≤ 1000000) (hp : a.Packets.length ≤ 1000000) : m15_r22_Same a a = some true := by
  unfold m15_r22_Same
  rw [decide_eq_true rfl, decide_eq_true rfl, decide_eq_true rfl]
  simp only [Bool.not_true, Bool.false_eq_true, if_false]
  unfold m15_r22_Same_k1
  rw [allR a.Links (fun _ => true) false (m15_r22_Same_s9 a a) (by omega) (fun i x hx => by
    have hlt := (List.getElem?_eq_some_iff.1 hx).1
    unfold m15_r22_Same_s9
    rw [if_pos (decide_eq_true (by omega)), idx_nat, hx, Option.bind_some, Option.bind_some, wI_id (by omega) (by omega), decide_eq_true rfl, decide_eq_true rfl, decide_eq_true rfl]
    rfl) (by
    unfold m15_r22_Same_s9
    rw [if_neg (by rw [decide_eq_true_eq]; omega)]), show (a.Links.all fun _ => true) = true from List.all_eq_true.2 fun _ _ => rfl, if_pos rfl, Option.bind_some]
  dsimp only
  unfold m15_r22_Same_k2
  rw [allR a.Packets (fun _ => true) false (m15_r22_Same_s4 a a) (by omega) (fun i x hx => by
    have hlt := (List.getElem?_eq_some_iff.1 hx).1
    unfold m15_r22_Same_s4
    rw [if_pos (decide_eq_true (by omega)), idx_nat, hx, Option.bind_some, Option.bind_some, spm, spV_self, Option.bind_some, wI_id (by omega) (by omega)]
    rfl) (by
    unfold m15_r22_Same_s4
    rw [if_neg (by rw [decide_eq_true_eq]; omega)]), show (a.Packets.all fun _ => true) = true from List.all_eq_true.2 fun _ _ => rfl, if_pos rfl, Option.bind_some]
  rfl
theorem findsm (a : GR22Net) (c k : Int) (h : a.Links.length ≤ 1000000) (hp : a.Packets.length ≤ 1000000) : m23_l22_finds (oN a) a c k = some true := by
  have hl : (oN a).Links.length ≤ 1000000 := by rw [show (oN a).Links.length = a.Links.length from List.length_map _]; exact h
  have hl2 : (oN a).Packets.length ≤ 1000000 := by rw [show (oN a).Packets.length = a.Packets.length from List.length_map _]; exact hp
  unfold m23_l22_finds m32_net_Of m33_net_At
  rw [show (⟨(oN a).Links, (oN a).Packets, (oN a).Next⟩ : GNetNet) = oN a from rfl, show (⟨a.Links, a.Packets, a.Next⟩ : GR22Net) = a from rfl, fd2 _ _ hl hl2, fd3 _ _ hl hl2, rOf a c h, rAt a k h]
  simp only [Option.bind_some]
  generalize fdV (oN a) (fun x => decide (x.Client = c)) = u
  generalize fdV (oN a) (fun x => decide (x.Conn = k)) = v
  rw [show m44_l22_link u.1 = some (tL u.1) from rfl, show m44_l22_link v.1 = some (tL v.1) from rfl]
  simp

theorem awake22 : m8_l22_awake = some true := by decide +kernel

theorem tkV_len (n : GNetNet) (k : Int) : (tkV n k).1.Links.length ≤ n.Links.length ∧ (tkV n k).1.Packets.length ≤ n.Packets.length := by
  unfold tkV
  cases saneV n with
  | false => exact ⟨Nat.zero_le _, Nat.zero_le _⟩
  | true =>
    rw [if_pos rfl]
    cases kth n k with
    | none => exact ⟨Nat.le_refl _, Nat.le_refl _⟩
    | some p =>
      refine ⟨Nat.le_refl _, ?_⟩
      dsimp only
      rw [List.length_append, List.length_take, List.length_drop]
      omega
theorem wiV_len (n : GNetNet) (p : GNetPacket) : (wiV n p).1.Links.length ≤ n.Links.length ∧ (wiV n p).1.Packets.length ≤ n.Packets.length + 1 := by
  unfold wiV
  split
  · exact ⟨Nat.zero_le _, Nat.zero_le _⟩
  · exact ⟨Nat.le_refl _, by dsimp only; rw [List.length_append]; exact Nat.le_refl _⟩
theorem duV_len (n : GNetNet) (k : Int) : (duV n k).1.Links.length ≤ n.Links.length ∧ (duV n k).1.Packets.length ≤ n.Packets.length + 1 := by
  unfold duV
  cases saneV n with
  | false => exact ⟨Nat.zero_le _, Nat.zero_le _⟩
  | true =>
    rw [if_pos rfl]
    cases kth n k with
    | none => exact ⟨Nat.zero_le _, Nat.zero_le _⟩
    | some p => exact wiV_len n p
theorem seV_len (n : GNetNet) (id : Int) (up : Bool) (b : List UInt8) : (seV n id up b).1.Links.length ≤ n.Links.length ∧ (seV n id up b).1.Packets.length ≤ n.Packets.length + 1 := by
  unfold seV
  split
  · exact ⟨Nat.zero_le _, Nat.zero_le _⟩
  split
  · exact ⟨Nat.zero_le _, Nat.zero_le _⟩
  split
  · exact ⟨Nat.zero_le _, Nat.zero_le _⟩
  · exact wiV_len n _
theorem opV_len (n : GNetNet) (c k : Int) : (opV n c k).1.Links.length ≤ n.Links.length + 1 ∧ (opV n c k).1.Packets.length ≤ n.Packets.length := by
  unfold opV
  split
  · exact ⟨Nat.zero_le _, Nat.zero_le _⟩
  split
  · exact ⟨Nat.zero_le _, Nat.zero_le _⟩
  split
  · exact ⟨Nat.zero_le _, Nat.zero_le _⟩
  split
  · exact ⟨Nat.zero_le _, Nat.zero_le _⟩
  split
  · exact ⟨Nat.zero_le _, Nat.zero_le _⟩
  · exact ⟨by dsimp only; rw [List.length_append]; exact Nat.le_refl _, Nat.le_refl _⟩
theorem flV_len (n : GNetNet) (k bit : Int) : (flV n k bit).Links.length ≤ n.Links.length ∧ (flV n k bit).Packets.length ≤ n.Packets.length := by
  unfold flV
  cases saneV n with
  | false => exact ⟨Nat.zero_le _, Nat.zero_le _⟩
  | true =>
    rw [if_pos rfl]
    cases kth n k with
    | none => exact ⟨Nat.le_refl _, Nat.le_refl _⟩
    | some p =>
      dsimp only
      split
      · exact ⟨Nat.le_refl _, Nat.le_refl _⟩
      · exact ⟨Nat.le_refl _, by dsimp only; rw [List.length_set]; exact Nat.le_refl _⟩
theorem cuV_len (n : GNetNet) (id : Int) : (cuV n id).Links.length ≤ n.Links.length ∧ (cuV n id).Packets.length ≤ n.Packets.length := by
  unfold cuV
  split
  · exact ⟨List.length_filter_le _ _, Nat.le_refl _⟩
  · exact ⟨Nat.zero_le _, Nat.zero_le _⟩
theorem same_t (n : GNetNet) (h : n.Links.length ≤ 1000000) (hp : n.Packets.length ≤ 1000000) : m15_r22_Same (tN n) (tN n) = some true :=
  samem (tN n) (by rw [show (tN n).Links.length = n.Links.length from List.length_map _]; exact h) (by rw [show (tN n).Packets.length = n.Packets.length from List.length_map _]; exact hp)

theorem netIs_true (a0 : GR22Net) (a1 a2 a3 a4 : Int) (a5 : Bool) (a6 : List UInt8) : m3_l22_NetIs a0 a1 a2 a3 a4 a5 a6 = some true := by
  unfold m3_l22_NetIs
  rw [awake22, Option.bind_some]
  obtain ⟨v, hv, hf⟩ := fewm a0
  rw [hv, Option.bind_some]
  cases v with
  | false => rfl
  | true =>
  obtain ⟨hL, hP⟩ := hf rfl
  rw [if_neg (nn (by rfl))]
  by_cases h21 : (2100 : Int) < a6.length
  · rw [if_pos (decide_eq_true h21)]
  rw [if_neg (by rw [decide_eq_true_eq]; exact h21)]
  unfold m3_l22_NetIs_k2
  have hl : (oN a0).Links.length ≤ 12 := by rw [show (oN a0).Links.length = a0.Links.length from List.length_map _]; exact hL
  have hl2 : (oN a0).Packets.length ≤ 80 := by rw [show (oN a0).Packets.length = a0.Packets.length from List.length_map _]; exact hP
  rw [oursm a0 (by omega) (by omega), Option.bind_some, openm _ _ _ (by omega) (by omega), Option.bind_some, ropenm a0 _ _ (by omega), Option.bind_some]
  rw [show (⟨(oN a0).Links, (oN a0).Packets, (oN a0).Next⟩ : GNetNet) = oN a0 from rfl, sendm _ _ _ _ (by omega) (by omega), Option.bind_some, rsendm a0 _ _ _ (by omega) (by omega), Option.bind_some]
  have e1 := opV_len (oN a0) a3 a4
  have e2 := seV_len (oN a0) a1 a5 a6
  generalize opV (oN a0) a3 a4 = o at e1
  generalize seV (oN a0) a1 a5 a6 = s at e2
  rw [show (⟨o.1.Links, o.1.Packets, o.1.Next⟩ : GNetNet) = o.1 from rfl, theirsm o.1 (by omega) (by omega), Option.bind_some, same_t _ (by omega) (by omega), Option.bind_some, theirsm s.1 (by omega) (by omega), Option.bind_some, same_t _ (by omega) (by omega), Option.bind_some, decide_eq_true rfl, decide_eq_true rfl, decide_eq_true rfl]
  simp only [Bool.not_true, Bool.false_eq_true, if_false]
  unfold m3_l22_NetIs_k8
  rw [show (⟨(oN a0).Links, (oN a0).Packets, (oN a0).Next⟩ : GNetNet) = oN a0 from rfl, takem _ _ (by omega) (by omega), Option.bind_some, rtakem a0 _ (by omega), Option.bind_some, dupm _ _ (by omega) (by omega), Option.bind_some, rdupm a0 _ (by omega), Option.bind_some]
  have e3 := tkV_len (oN a0) a1
  have e4 := duV_len (oN a0) a1
  have e5 := cuV_len (oN a0) a1
  have e6 := flV_len (oN a0) a1 a2
  dsimp only
  rw [theirsm (tkV (oN a0) a1).1 (by omega) (by omega), Option.bind_some, same_t _ (by omega) (by omega), Option.bind_some, show m22_l22_packet (tkV (oN a0) a1).2.1 = some (tP (tkV (oN a0) a1).2.1) from rfl, Option.bind_some, spm, spV_self, Option.bind_some, theirsm (duV (oN a0) a1).1 (by omega) (by omega), Option.bind_some, same_t _ (by omega) (by omega), Option.bind_some, decide_eq_true rfl, beq_self_eq_true]
  simp only [Bool.not_true, Bool.false_eq_true, if_false]
  unfold m3_l22_NetIs_k13 m24_net_Drop m25_r22_Drop
  rw [if_pos rfl, show (⟨(oN a0).Links, (oN a0).Packets, (oN a0).Next⟩ : GNetNet) = oN a0 from rfl, show (⟨a0.Links, a0.Packets, a0.Next⟩ : GR22Net) = a0 from rfl, findsm a0 _ _ (by omega) (by omega), Option.bind_some, if_pos rfl]
  rw [takem _ _ (by omega) (by omega), Option.bind_some, Option.bind_some, theirsm _ (by omega) (by omega), Option.bind_some, rtakem a0 _ (by omega), Option.bind_some, Option.bind_some, same_t _ (by omega) (by omega), Option.bind_some, if_pos rfl]
  rw [cutm _ _ (by omega) (by omega), Option.bind_some, theirsm _ (by omega) (by omega), Option.bind_some, rcutm a0 _ (by omega), Option.bind_some, same_t _ (by omega) (by omega), Option.bind_some, if_pos rfl]
  rw [flipm _ _ _ (by omega) (by omega), Option.bind_some, theirsm _ (by omega) (by omega), Option.bind_some, rflipm a0 _ _ (by omega), Option.bind_some, same_t _ (by omega) (by omega), Option.bind_some, if_pos rfl]
  rw [sanem _ (by omega) (by omega), rsanem, Option.bind_some, Option.bind_some, beq_self_eq_true, if_pos rfl, theirsm _ (by omega) (by omega), Option.bind_some, tN_oN, samem a0 (by omega) (by omega)]
  rfl
end Go.Proofs.Ythmibhmmbajcfaa.Abs
