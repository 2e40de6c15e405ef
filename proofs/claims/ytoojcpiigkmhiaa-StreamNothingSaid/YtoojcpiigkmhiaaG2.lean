/-
  The statements on streams.
-/
import Derived.Test.YtoojcpiigkmhiaaG1
namespace Go.Proofs.Ytoojcpiigkmhiaa.Abs

theorem if_T {α : Type} {x y : α} : (if decide True = true then x else y) = x := rfl
theorem if_L0 {α β : Type} {x y : β} : (if decide ((([] : List α).length : Int) = 0) = true then x else y) = x := rfl
theorem mask_any (u : Int) (k : Nat) (hk : k < 2 ^ 63) : ∃ n : Nat, n ≤ k ∧ wI ((BitVec.ofInt 64 u &&& BitVec.ofInt 64 (k : Int)).toNat : Int) = (n : Int) := by
  have h : (BitVec.ofInt 64 u &&& BitVec.ofInt 64 (k : Int)).toNat ≤ k := by
    rw [BitVec.toNat_and]
    refine Nat.le_trans Nat.and_le_right ?_
    rw [BitVec.ofInt_natCast, BitVec.toNat_ofNat]
    exact Nat.mod_le _ _
  exact ⟨_, h, wI_id (by omega) (by omega)⟩
theorem pieces (b : List UInt8) (cuts : List Int) (hb : b.length ≤ 1000000) (hc : cuts.length ≤ 40) {f : Int × Int × List (List UInt8) → Option (LB (Int × Int × List (List UInt8)) (Int × List (List UInt8)))}
    (hf : ∀ s, f s = if (decide (s.2.1 < (cuts.length : Int))) then ((idx cuts s.2.1).bind fun u14 => (cut b s.1 (wI (s.1 + (if (wI ((b.length : Int) - s.1)) < (wI ((BitVec.ofInt 64 u14 &&& BitVec.ofInt 64 63).toNat : Int)) then (wI ((b.length : Int) - s.1)) else (wI ((BitVec.ofInt 64 u14 &&& BitVec.ofInt 64 63).toNat : Int)))))).bind fun c15 => if (s.2.2.length + [c15].length) * 24 ≤ 140737488355328 then (some (.cont ((wI (s.1 + (if (wI ((b.length : Int) - s.1)) < (wI ((BitVec.ofInt 64 u14 &&& BitVec.ofInt 64 63).toNat : Int)) then (wI ((b.length : Int) - s.1)) else (wI ((BitVec.ofInt 64 u14 &&& BitVec.ofInt 64 63).toNat : Int))))), (wI (s.2.1 + 1)), (s.2.2 ++ [c15])))) else none) else (some (.brk (s.1, s.2.2)))) :
    ∃ (n : Nat) (ps : List (List UInt8)), iterB f fuel (0, 0, []) = some ((n : Int), ps) ∧ n ≤ b.length ∧ ps.flatten = b.take n ∧ ps.length ≤ 40 := by
  obtain ⟨x, hx, n, ps, rfl, h1, h2, h3⟩ := iterB_inv (f := f) (P := fun s => ∃ (i n : Nat) (ps : List (List UInt8)), i ≤ cuts.length ∧ s = ((n : Int), (i : Int), ps) ∧ n ≤ b.length ∧ ps.flatten = b.take n ∧ ps.length ≤ i) (μ := fun s => cuts.length - s.2.1.toNat)
    (R := fun x => ∃ (n : Nat) (ps : List (List UInt8)), x = ((n : Int), ps) ∧ n ≤ b.length ∧ ps.flatten = b.take n ∧ ps.length ≤ 40) (by
    rintro _ ⟨i, n, ps, hi, rfl, hn, hp, hpl⟩
    rw [hf]
    dsimp only
    rcases Nat.lt_or_ge i cuts.length with hlt | hge
    · left
      rw [if_pos (decide_eq_true (by omega)), idx_nat, List.getElem?_eq_getElem hlt]
      simp only [Option.bind_some]
      obtain ⟨k, hk, e⟩ := mask_any cuts[i] 63 (by decide)
      rw [show ((63 : Nat) : Int) = 63 from rfl] at e
      rw [e, wI_id (n := (b.length : Int) - n) (by omega) (by omega)]
      obtain ⟨q, hq, eq⟩ : ∃ q : Nat, n + q ≤ b.length ∧ (if (b.length : Int) - n < (k : Int) then (b.length : Int) - n else (k : Int)) = (q : Int) := by
        by_cases hh : (b.length : Int) - n < (k : Int)
        · rw [if_pos hh]; exact ⟨b.length - n, by omega, by omega⟩
        · rw [if_neg hh]; exact ⟨k, by omega, rfl⟩
      rw [eq, wI_id (by omega) (by omega), cut_of (by omega) (by omega) (by omega)]
      simp only [Option.bind_some]
      rw [if_pos (by simp only [List.length_cons, List.length_nil]; omega), wI_id (by omega) (by omega)]
      refine ⟨_, rfl, ⟨i + 1, n + q, ps ++ [(b.drop n).take q], hlt, ?_, hq, ?_, by rw [List.length_append]; simp only [List.length_cons, List.length_nil]; omega⟩, by show cuts.length - ((i : Int) + 1).toNat < cuts.length - (i : Int).toNat; omega⟩
      · rw [Int.toNat_natCast, show ((n : Int) + (q : Int)).toNat - n = q from by omega]
        rfl
      · rw [List.flatten_append, hp]
        simp only [List.flatten_cons, List.flatten_nil, List.append_nil]
        exact List.take_add.symm
    · right
      rw [if_neg (by rw [decide_eq_true_eq]; omega)]
      exact ⟨_, rfl, n, ps, rfl, hn, hp, by omega⟩) fuel (0, 0, []) ⟨0, 0, [], Nat.zero_le _, rfl, Nat.zero_le _, by simp, Nat.le_refl _⟩ (lt_fuel (by show cuts.length - 0 ≤ _; omega))
  exact ⟨n, ps, hx, h1, h2, h3⟩
theorem cut_end {b : List UInt8} {n : Nat} (h : n ≤ b.length) : cut b (n : Int) (b.length : Int) = some (b.drop n) := by
  rw [cut_of (by omega) (by omega) (by omega), Int.toNat_natCast, Int.toNat_natCast, List.take_of_length_le (by rw [List.length_drop]; exact Nat.le_refl _)]

theorem streamCuts_true (a0 : List UInt8) (a1 : List Int) : m4_l04_StreamCuts a0 a1 = some true := by
  unfold m4_l04_StreamCuts
  rw [awake04]
  simp only [Option.bind_some]
  by_cases h1 : (2000 : Int) < a0.length
  · rw [if_pos (decide_eq_true h1)]
  rw [if_neg (by rw [decide_eq_true_eq]; exact h1)]
  by_cases h2 : (40 : Int) < a1.length
  · rw [if_pos (decide_eq_true h2)]
  rw [if_neg (by rw [decide_eq_true_eq]; exact h2)]
  unfold m4_l04_StreamCuts_k2
  obtain ⟨n, ps, hx, hn, hp, hpl⟩ := pieces a0 a1 (by omega) (by omega) (f := m4_l04_StreamCuts_s13 a0 a1) (fun s => rfl)
  rw [hx]
  simp only [Option.bind_some]
  unfold m4_l04_StreamCuts_k3
  dsimp only
  rw [cut_end hn]
  simp only [Option.bind_some]
  have hfl : (ps ++ [a0.drop n]).flatten = a0 := by rw [List.flatten_append, hp]; simp
  obtain ⟨l, r, e, ha⟩ := allS_ex a0 (by omega)
  have hal := allS_lens ha
  rw [if_pos (by simp only [List.length_cons, List.length_nil]; omega)]
  rw [fed_m (ps ++ [a0.drop n]) (by rw [hfl]; omega) (by simp; omega) (by rw [hfl]; exact ha), fed_m [a0] (by simp; omega) (by simp) (by simpa using ha)]
  simp only [Option.bind_some]
  rw [if_pos trivial]
  unfold m15_l04_theirs
  simp only [Option.bind_some]
  rw [Same_refl _ _ rfl rfl]
  simp only [Option.bind_some]
  rw [if_pos trivial, Lists_refl _ (by omega)]
  simp only [Option.bind_some]
  rw [if_pos trivial, if_T, Sane_m _ (by have := left_len r e; show (left r e).length ≤ _; omega)]
  simp only [Option.bind_some]
  rw [show saneS _ _ = true from sane_left ha]

theorem frames_all (l : List (List UInt8)) (hl : ∀ p ∈ l, p.length ≤ 512) (r : List UInt8) (e : Int) (h : stpR r e) : AllS (l.flatMap fr ++ r) l r e := ⟨rfl, hl, h⟩
theorem frames_len (l : List (List UInt8)) (hl : ∀ p ∈ l, p.length ≤ 512) : (l.flatMap fr).length ≤ l.length * 518 := by
  induction l with
  | nil => simp
  | cons p l ih =>
    have h1 := hl p (by simp)
    have h2 := ih (fun q hq => hl q (by simp [hq]))
    rw [List.flatMap_cons, List.length_append, fr_len, List.length_cons]
    omega
theorem frs_take (l : List (List UInt8)) {i : Nat} (h : i < l.length) : (l.take (i + 1)).flatMap fr = (l.take i).flatMap fr ++ fr l[i] := by
  rw [List.take_succ_eq_append_getElem h, flat_snoc]
theorem Puto_m (a p : List UInt8) (ha : a.length ≤ 1000000) (h : p.length ≤ 512) : m23_frame_Puto a p = some (0, a ++ fr p) := by
  have h1 := Put_m a p ha h
  unfold m23_frame_Put at h1
  unfold m23_frame_Puto
  rw [if_neg (by rw [decide_eq_true_eq]; omega)] at h1 ⊢
  unfold m33_frame_wrap at *
  rw [sumOf_m p (by omega)] at h1 ⊢
  simp only [Option.bind_some] at h1 ⊢
  rw [U_m _ _ _ (by simp), w82, BitVec.ofInt_natCast] at h1 ⊢
  simp only [Option.bind_some, List.nil_append] at h1 ⊢
  rw [U_m _ _ _ (by rw [le8_len]; omega), w84] at h1 ⊢
  simp only [Option.bind_some] at h1 ⊢
  rw [m25_slices_Concato_m _ (by simp [le8_len]; omega) (by simp)] at h1 ⊢
  simp only [Option.bind_some] at h1 ⊢
  have h2 := congrArg Prod.fst (Option.some.inj h1)
  exact congrArg (fun z => some ((0 : Int), z)) h2

theorem streamBack_true (a0 : List (List UInt8)) (a1 : List Int) : m5_l04_StreamBack a0 a1 = some true := by
  unfold m5_l04_StreamBack
  rw [awake04]
  simp only [Option.bind_some]
  obtain ⟨x, hx, hfew⟩ := Few_m a0 512
  rw [hx]
  simp only [Option.bind_some]
  cases x with
  | false => rfl
  | true =>
  obtain ⟨hl0, hp0⟩ := hfew rfl
  have hp1 : ∀ p ∈ a0, p.length ≤ 512 := fun p hp => by have := hp0 p hp; omega
  rw [if_neg (by simp)]
  by_cases h2 : (40 : Int) < a1.length
  · rw [if_pos (decide_eq_true h2)]
  rw [if_neg (by rw [decide_eq_true_eq]; exact h2)]
  unfold m5_l04_StreamBack_k2
  have hfl := frames_len a0 hp1
  obtain ⟨x, hx, hm⟩ := iter_inv (f := m5_l04_StreamBack_s15 a0) (P := fun s => ∃ i : Nat, i ≤ a0.length ∧ s = ((a0.take i).flatMap fr, (i : Int))) (μ := fun s => a0.length - s.2.toNat)
    (R := fun x => match x with | .inl y => False | .inr y => y = a0.flatMap fr) (by
    rintro _ ⟨i, hi, rfl⟩
    unfold m5_l04_StreamBack_s15
    dsimp only
    rcases Nat.lt_or_ge i a0.length with hlt | hge
    · left
      have hq : a0[i].length ≤ 512 := hp1 _ (List.getElem_mem hlt)
      have hti := frames_len (a0.take i) (fun p hp => hp1 p (List.mem_of_mem_take hp))
      have htl : (a0.take i).length = i := List.length_take_of_le hi
      rw [if_pos (decide_eq_true (by omega)), idx_nat, List.getElem?_eq_getElem hlt]
      simp only [Option.bind_some]
      rw [Put_m _ _ (by omega) hq]
      simp only [Option.bind_some]
      rw [if_neg (by simp), wI_id (by omega) (by omega)]
      exact ⟨_, rfl, ⟨i + 1, hlt, by rw [frs_take a0 hlt]; rfl⟩, by show a0.length - ((i : Int) + 1).toNat < a0.length - (i : Int).toNat; omega⟩
    · right; left
      rw [if_neg (by rw [decide_eq_true_eq]; omega), List.take_of_length_le hge]
      exact ⟨_, rfl, rfl⟩) fuel ([], 0) ⟨0, Nat.zero_le _, rfl⟩ (lt_fuel (by show a0.length - 0 ≤ _; omega))
  rw [hx]
  simp only [Option.bind_some]
  cases x with
  | inl y => exact hm.elim
  | inr y =>
  obtain rfl : y = a0.flatMap fr := hm
  show m5_l04_StreamBack_k3 a0 a1 true (a0.flatMap fr) = some true
  unfold m5_l04_StreamBack_k3
  obtain ⟨n, ps, hx, hn, hp, hpl⟩ := pieces (a0.flatMap fr) a1 (by omega) (by omega) (f := m5_l04_StreamBack_s10 a1 (a0.flatMap fr)) (fun s => rfl)
  rw [hx]
  simp only [Option.bind_some]
  unfold m5_l04_StreamBack_k4
  dsimp only
  rw [cut_end hn]
  simp only [Option.bind_some]
  have hflt : (ps ++ [(a0.flatMap fr).drop n]).flatten = a0.flatMap fr := by rw [List.flatten_append, hp]; simp
  have hA : AllS (a0.flatMap fr) a0 [] 0 := ⟨by simp, hp1, .inl ⟨rfl, rfl⟩⟩
  rw [if_pos (by simp only [List.length_cons, List.length_nil]; omega)]
  rw [fed_m (ps ++ [(a0.flatMap fr).drop n]) (by rw [hflt]; omega) (by simp; omega) (by rw [hflt]; exact hA)]
  simp only [Option.bind_some]
  rw [if_pos trivial, if_pos (show decide (err4 0 = 0) = true from rfl), Lists_refl _ (by omega)]
  rfl

theorem streamDead_true (a0 : List (List UInt8)) (a1 a2 : List UInt8) : m6_l04_StreamDead a0 a1 a2 = some true := by
  unfold m6_l04_StreamDead
  rw [awake04]
  simp only [Option.bind_some]
  obtain ⟨x, hx, hfew⟩ := Few_m a0 512
  rw [hx]
  simp only [Option.bind_some]
  cases x with
  | false => rfl
  | true =>
  obtain ⟨hl0, hp0⟩ := hfew rfl
  have hp1 : ∀ p ∈ a0, p.length ≤ 512 := fun p hp => by have := hp0 p hp; omega
  rw [if_neg (by simp)]
  by_cases h2 : (500 : Int) < a1.length
  · rw [if_pos (decide_eq_true h2)]
  rw [if_neg (by rw [decide_eq_true_eq]; exact h2)]
  by_cases h3 : (2000 : Int) < a2.length
  · rw [if_pos (decide_eq_true h3)]
  rw [if_neg (by rw [decide_eq_true_eq]; exact h3)]
  unfold m6_l04_StreamDead_k2
  have hfl := frames_len a0 hp1
  obtain ⟨x, hx, hm⟩ := iter_inv (f := m6_l04_StreamDead_s14 a0) (P := fun s => ∃ i : Nat, i ≤ a0.length ∧ s = ((i : Int), (a0.take i).flatMap fr)) (μ := fun s => a0.length - s.1.toNat)
    (R := fun x => match x with | .inl y => False | .inr y => y = a0.flatMap fr) (by
    rintro _ ⟨i, hi, rfl⟩
    unfold m6_l04_StreamDead_s14
    dsimp only
    rcases Nat.lt_or_ge i a0.length with hlt | hge
    · left
      have hq : a0[i].length ≤ 512 := hp1 _ (List.getElem_mem hlt)
      have hti := frames_len (a0.take i) (fun p hp => hp1 p (List.mem_of_mem_take hp))
      have htl : (a0.take i).length = i := List.length_take_of_le hi
      rw [if_pos (decide_eq_true (by omega)), idx_nat, List.getElem?_eq_getElem hlt]
      simp only [Option.bind_some]
      rw [Puto_m _ _ (by omega) hq]
      simp only [Option.bind_some]
      rw [if_neg (by simp), wI_id (by omega) (by omega)]
      exact ⟨_, rfl, ⟨i + 1, hlt, by rw [frs_take a0 hlt]; rfl⟩, by show a0.length - ((i : Int) + 1).toNat < a0.length - (i : Int).toNat; omega⟩
    · right; left
      rw [if_neg (by rw [decide_eq_true_eq]; omega), List.take_of_length_le hge]
      exact ⟨_, rfl, rfl⟩) fuel (0, []) ⟨0, Nat.zero_le _, rfl⟩ (lt_fuel (by show a0.length - 0 ≤ _; omega))
  rw [hx]
  simp only [Option.bind_some]
  cases x with
  | inl y => exact hm.elim
  | inr y =>
  obtain rfl : y = a0.flatMap fr := hm
  show m6_l04_StreamDead_k3 a0 a1 a2 true (a0.flatMap fr) = some true
  unfold m6_l04_StreamDead_k3
  rw [Read_m _ _ (by omega)]
  simp only [Option.bind_some]
  rw [rd0]
  rw [if_pos (by omega)]
  have hlen : (a0.flatMap fr ++ a1).length ≤ 1000000 := by rw [List.length_append]; omega
  by_cases hd : dead4 (opn a1).1 = true
  · have hne : a1 ≠ [] := (fun hc => by rw [hc] at hd; cases hd)
    have hn0 : (opn a1).1 ≠ 0 := (fun hc => by rw [hc] at hd; cases hd)
    have hpr : opn a1 = ((opn a1).1, []) := by
      rcases opn_fst a1 with h | h | h | h
      · exact absurd h hn0
      all_goals exact Prod.ext rfl h.2
    have hst : stpR a1 (opn a1).1 := .inr ⟨hne, hn0, hpr⟩
    have hA := frames_all a0 hp1 a1 _ hst
    rw [fed_m [a0.flatMap fr ++ a1] (by simpa using hlen) (by simp) (by simpa using hA)]
    simp only [Option.bind_some]
    have hk : m6_l04_StreamDead_k7 a0 a2 true (rdS a1 0) (⟨left a1 (opn a1).1, err4 (opn a1).1⟩, a0, err4 (opn a1).1) () = some true := by
      unfold m6_l04_StreamDead_k7
      have he : err4 (opn a1).1 = (opn a1).1 := by unfold err4; rw [hd]; rfl
      have hne0 : err4 (opn a1).1 ≠ 0 := by rw [he]; intro hc; rw [hc] at hd; cases hd
      have hs := sane_left hA
      dsimp only
      have hll : (left a1 (opn a1).1).length ≤ 1000000 := Nat.le_trans (left_len _ _) (by omega)
      rw [Feed_dead _ _ hs hne0 hll]
      simp only [Option.bind_some]
      rw [rd0, he, if_pos trivial, if_pos (decide_eq_true rfl), if_pos (decide_eq_true rfl), Lists_refl _ (by omega)]
      simp only [Option.bind_some]
      rw [if_pos trivial, if_pos (by decide), if_L0]
      unfold m15_l04_theirs
      simp only [Option.bind_some]
      rw [Same_refl _ _ rfl rfl]
      simp only [Option.bind_some]
      rw [he] at hs
      rw [if_pos trivial, Wants_m _ hs hll]
      simp only [Option.bind_some]
      rw [if_neg (by show ¬ (opn a1).1 = 0; rw [he] at hne0; exact hne0)]
      rfl
    by_cases h4 : (opn a1).1 = 4
    · rw [if_neg (by simp [h4]), hk]
    · rw [if_pos (by simpa using h4)]
      have h5 : (opn a1).1 = 5 := by
        unfold dead4 at hd
        rw [decide_eq_false h4, Bool.false_or] at hd
        exact of_decide_eq_true hd
      rw [if_neg (by simp [h5]), hk]
  · have h4 : (opn a1).1 ≠ 4 := fun hc => hd (by rw [hc]; rfl)
    have h5 : (opn a1).1 ≠ 5 := fun hc => hd (by rw [hc]; rfl)
    obtain ⟨l, r, e, ha⟩ := allS_ex _ hlen
    rw [fed_m [a0.flatMap fr ++ a1] (by simpa using hlen) (by simp) (by simpa using ha)]
    simp only [Option.bind_some]
    rw [if_pos (by simpa using h4), if_pos (by simpa using h5), if_pos trivial]
    have : err4 e ≠ 13 := by
      unfold err4 dead4
      intro hc
      by_cases q4 : e = 4
      · rw [q4] at hc; simp at hc
      · by_cases q5 : e = 5
        · rw [q5] at hc; simp at hc
        · simp [q4, q5] at hc
    simp [this]

theorem streamApart_true (a0 : GR04Stream) (a1 : List UInt8) : m8_l04_StreamApart a0 a1 = some true := by
  unfold m8_l04_StreamApart
  rw [awake04]
  simp only [Option.bind_some]
  by_cases h1 : (1000 : Int) < a0.Buf.length
  · rw [if_pos (decide_eq_true h1)]
  rw [if_neg (by rw [decide_eq_true_eq]; exact h1)]
  by_cases h2 : (1000 : Int) < a1.length
  · rw [if_pos (decide_eq_true h2)]
  rw [if_neg (by rw [decide_eq_true_eq]; exact h2)]
  unfold m8_l04_StreamApart_k2 m12_l04_ours
  simp only [Option.bind_some]
  have hfeed : ∃ y : GStreamStream × List (List UInt8) × Int, m11_stream_Feed ⟨a0.Buf, a0.Dead⟩ a1 = some y ∧ y.2.1.length ≤ 1000000 ∧ (y.2.2 = 1 ∨ y.2.2 = 13 ∨ m17_stream_Sane y.1 = some true) := by
    cases hs : saneS a0.Buf a0.Dead with
    | false => exact ⟨_, Feed_bad ⟨a0.Buf, a0.Dead⟩ a1 hs (by show a0.Buf.length ≤ _; omega), by simp, .inl rfl⟩
    | true =>
      by_cases h0 : a0.Dead = 0
      · obtain ⟨l, r, e, ha⟩ := allS_ex (a0.Buf ++ a1) (by rw [List.length_append]; omega)
        have hal := allS_lens ha
        rw [List.length_append] at hal
        refine ⟨_, Feed_m ⟨a0.Buf, a0.Dead⟩ a1 hs h0 (by show a0.Buf.length + _ ≤ _; omega) ha, by show l.length ≤ _; omega, .inr (.inr ?_)⟩
        rw [Sane_m _ (by have := left_len r e; show (left r e).length ≤ _; omega)]
        exact congrArg some (sane_left ha)
      · exact ⟨_, Feed_dead ⟨a0.Buf, a0.Dead⟩ a1 hs h0 (by show a0.Buf.length ≤ _; omega), by simp, .inr (.inl rfl)⟩
  obtain ⟨y, hy, hyl, hend⟩ := hfeed
  rw [if_pos (by simp; omega), hy]
  simp only [Option.bind_some]
  rw [if_pos trivial]
  unfold m15_l04_theirs
  simp only [Option.bind_some]
  rw [Same_refl _ _ rfl rfl]
  simp only [Option.bind_some]
  rw [if_pos trivial, Lists_refl _ (by omega)]
  simp only [Option.bind_some]
  rw [if_pos trivial, if_T, if_pos (by simp), Same_refl _ _ rfl rfl]
  simp only [Option.bind_some]
  rw [if_pos trivial]
  by_cases e1 : y.2.2 = 1
  · rw [if_pos (decide_eq_true e1)]
  rw [if_neg (by simpa using e1)]
  by_cases e2 : y.2.2 = 13
  · rw [if_pos (decide_eq_true e2)]
  rw [if_neg (by simpa using e2), (hend.resolve_left e1).resolve_left e2]
  rfl

theorem alive_all {b : List UInt8} (h : saneS b 0 = true) : ∃ e, AllS b [] b e ∧ dead4 e = false := by
  have h2 : (opn b).1 = 2 := of_decide_eq_true h
  by_cases hb : b = []
  · subst hb; exact ⟨0, ⟨rfl, by simp, .inl ⟨rfl, rfl⟩⟩, rfl⟩
  · refine ⟨2, ⟨rfl, by simp, .inr ⟨hb, by decide, ?_⟩⟩, rfl⟩
    rcases opn_fst b with h | h | h | h
    · rw [h] at h2; cases h2
    · exact Prod.ext h.1 h.2
    · rw [h.1] at h2; cases h2
    · rw [h.1] at h2; cases h2
theorem streamNothing_true (a0 : GR04Stream) : m9_l04_StreamNothing a0 = some true := by
  unfold m9_l04_StreamNothing
  rw [awake04]
  simp only [Option.bind_some]
  by_cases h1 : (1000 : Int) < a0.Buf.length
  · rw [if_pos (decide_eq_true h1)]
  rw [if_neg (by rw [decide_eq_true_eq]; exact h1)]
  unfold m12_l04_ours
  simp only [Option.bind_some]
  have hb : a0.Buf.length ≤ 1000000 := by omega
  cases hs : saneS a0.Buf a0.Dead with
  | false =>
    rw [Feed_bad ⟨a0.Buf, a0.Dead⟩ [] hs hb, Sane_m ⟨a0.Buf, a0.Dead⟩ (by show a0.Buf.length ≤ _; omega)]
    simp only [Option.bind_some]
    rw [if_pos (by rw [show saneS _ _ = false from hs]; rfl)]
    rfl
  | true =>
    rw [Sane_m ⟨a0.Buf, a0.Dead⟩ (by show a0.Buf.length ≤ _; omega)]
    by_cases h0 : a0.Dead = 0
    · have hs0 : saneS a0.Buf 0 = true := by rw [← h0]; exact hs
      obtain ⟨e, ha, hd⟩ := alive_all hs0
      rw [Feed_m ⟨a0.Buf, a0.Dead⟩ [] hs h0 (by show a0.Buf.length + 0 ≤ _; omega) (l := []) (r := a0.Buf) (e := e) (by show AllS (a0.Buf ++ []) _ _ _; rw [List.append_nil]; exact ha)]
      simp only [Option.bind_some]
      rw [if_neg (by rw [show saneS _ _ = true from hs]; simp), if_neg (by simp [h0]), if_pos trivial]
      have hl : left a0.Buf e = a0.Buf := by unfold left; rw [hd]; rfl
      have he : err4 e = 0 := by unfold err4; rw [hd]; rfl
      rw [he, hl, if_pos (decide_eq_true rfl), if_L0]
      unfold m15_l04_theirs
      simp only [Option.bind_some]
      rw [Same_refl ⟨a0.Buf, 0⟩ a0 rfl h0.symm]
      rfl
    · rw [Feed_dead ⟨a0.Buf, a0.Dead⟩ [] hs h0 hb]
      simp only [Option.bind_some]
      rw [if_neg (by rw [show saneS _ _ = true from hs]; simp), if_pos (by simpa using h0), if_pos trivial, if_pos (by decide), if_L0]
      simp

theorem streamIs_true (a0 : GR04Stream) (a1 : List UInt8) : m3_l04_StreamIs a0 a1 = some true := by
  unfold m3_l04_StreamIs
  rw [awake04]
  simp only [Option.bind_some]
  by_cases h1 : (2000 : Int) < a0.Buf.length
  · rw [if_pos (decide_eq_true h1)]
  rw [if_neg (by rw [decide_eq_true_eq]; exact h1)]
  by_cases h2 : (2000 : Int) < a1.length
  · rw [if_pos (decide_eq_true h2)]
  rw [if_neg (by rw [decide_eq_true_eq]; exact h2)]
  unfold m3_l04_StreamIs_k2 m12_l04_ours m15_l04_theirs
  simp only [Option.bind_some]
  obtain ⟨l, r, e, ha⟩ := allS_ex (a0.Buf ++ a1) (by rw [List.length_append]; omega)
  have hal := allS_lens ha
  rw [List.length_append] at hal
  have hfeed : ∃ y : GStreamStream × List (List UInt8) × Int, m11_stream_Feed ⟨a0.Buf, a0.Dead⟩ a1 = some y ∧ m13_r04_Feed ⟨a0.Buf, a0.Dead⟩ a1 = some (⟨y.1.Buf, y.1.Dead⟩, y.2.1, y.2.2) ∧ y.2.1.length ≤ 1000000 := by
    have hr := rFeed_m ⟨a0.Buf, a0.Dead⟩ a1 (by show a0.Buf.length + _ ≤ _; omega) ha
    cases hs : saneS a0.Buf a0.Dead with
    | false =>
      refine ⟨_, Feed_bad ⟨a0.Buf, a0.Dead⟩ a1 hs (by show a0.Buf.length ≤ _; omega), ?_, by simp⟩
      rw [hr, if_neg (by rw [show saneS _ _ = false from hs]; simp)]
    | true =>
      rw [if_pos (show saneS _ _ = true from hs)] at hr
      by_cases h0 : a0.Dead = 0
      · refine ⟨_, Feed_m ⟨a0.Buf, a0.Dead⟩ a1 hs h0 (by show a0.Buf.length + _ ≤ _; omega) ha, ?_, by show l.length ≤ _; omega⟩
        rw [hr, if_pos (show _ = (0 : Int) from h0)]
      · refine ⟨_, Feed_dead ⟨a0.Buf, a0.Dead⟩ a1 hs h0 (by show a0.Buf.length ≤ _; omega), ?_, by simp⟩
        rw [hr, if_neg (show ¬ _ = (0 : Int) from h0)]
  obtain ⟨y, hy, hy2, hyl⟩ := hfeed
  rw [hy, hy2]
  simp only [Option.bind_some]
  rw [if_pos trivial, Same_refl _ _ rfl rfl]
  simp only [Option.bind_some]
  rw [if_pos trivial, Lists_refl _ (by omega)]
  simp only [Option.bind_some]
  rw [if_pos trivial, if_T, Sane_m ⟨a0.Buf, a0.Dead⟩ (by show a0.Buf.length ≤ _; omega), rSane_m ⟨a0.Buf, a0.Dead⟩ (by show a0.Buf.length ≤ _; omega)]
  simp only [Option.bind_some]
  rw [if_pos (by simp), rWants_m a0 (by omega)]
  cases hs : saneS a0.Buf a0.Dead with
  | false =>
    rw [Wants_bad ⟨a0.Buf, a0.Dead⟩ hs (by show a0.Buf.length ≤ _; omega)]
    simp
  | true =>
    rw [Wants_m ⟨a0.Buf, a0.Dead⟩ hs (by show a0.Buf.length ≤ _; omega)]
    simp

theorem opn_take {p : List UInt8} (hp : p.length ≤ 512) {n : Nat} (h : n < 6 + p.length) : ∃ e, AllS ((fr p).take n) [] ((fr p).take n) e ∧ dead4 e = false :=
  alive_all (by unfold saneS; simp [dead4, opn_short hp h])
theorem streamWants_true (a0 : List UInt8) (a1 : Int) : m7_l04_StreamWants a0 a1 = some true := by
  unfold m7_l04_StreamWants
  rw [awake04]
  simp only [Option.bind_some]
  by_cases h1 : (512 : Int) < a0.length
  · rw [if_pos (decide_eq_true h1)]
  rw [if_neg (by rw [decide_eq_true_eq]; exact h1), Put_m _ _ (by simp) (by omega)]
  simp only [Option.bind_some, List.nil_append]
  have hfl := fr_len a0
  have hp : a0.length ≤ 512 := by omega
  obtain ⟨q, hq, eq⟩ := mask_any a1 65535 (by decide)
  rw [show ((65535 : Nat) : Int) = 65535 from rfl] at eq
  have ew : wI (((fr a0).length : Int) + 1) = (((fr a0).length + 1 : Nat) : Int) := by rw [wI_id (by omega) (by omega)]; rfl
  have et : (wI ((BitVec.ofInt 64 a1 &&& BitVec.ofInt 64 65535).toNat : Int)).tmod (wI (((fr a0).length : Int) + 1)) = ((q % ((fr a0).length + 1) : Nat) : Int) := by
    rw [eq, ew]; rfl
  have hk : q % ((fr a0).length + 1) < (fr a0).length + 1 := Nat.mod_lt _ (Nat.succ_pos _)
  rw [et, ew, if_pos (by omega), if_neg (by simp)]
  generalize hkk : q % ((fr a0).length + 1) = k at *
  by_cases he : k = (fr a0).length
  · rw [if_pos (decide_eq_true (by omega))]
    rfl
  rw [if_neg (by rw [decide_eq_true_eq]; omega)]
  unfold m7_l04_StreamWants_k4
  dsimp only
  rw [et, cut_of (by omega) (by omega) (by omega)]
  simp only [Option.bind_some]
  have e1 : ((fr a0).drop (0 : Int).toNat).take ((k : Int).toNat - (0 : Int).toNat) = (fr a0).take k := by simp
  rw [e1]
  obtain ⟨e, ha, hd⟩ := opn_take hp (n := k) (by omega)
  have htl : ((fr a0).take k).length = k := by rw [List.length_take]; omega
  rw [fed_m [(fr a0).take k] (by simp; omega) (by simp) (by simpa using ha)]
  simp only [Option.bind_some]
  have hlf : left ((fr a0).take k) e = (fr a0).take k := by unfold left; rw [hd]; rfl
  have he0 : err4 e = 0 := by unfold err4; rw [hd]; rfl
  rw [hlf, he0]
  have hs : saneS ((fr a0).take k) 0 = true := by have := sane_left ha; rw [hlf, he0] at this; exact this
  rw [Wants_m ⟨(fr a0).take k, 0⟩ hs (by show ((fr a0).take k).length ≤ _; omega)]
  simp only [Option.bind_some]
  -- how many are wanted
  obtain ⟨n, hn, hn1, hn2, hn3⟩ : ∃ n : Nat, wantsS ((fr a0).take k) = (n : Int) ∧ 1 ≤ n ∧ k + n ≤ (fr a0).length ∧ (k + n < (fr a0).length → k + n = 6) := by
    unfold wantsS
    by_cases h6 : k < 6
    · rw [if_pos (by omega)]
      exact ⟨6 - k, by omega, by omega, by omega, fun _ => by omega⟩
    · rw [if_neg (by omega)]
      have hh : hd2 ((fr a0).take k) = a0.length := by
        have := hd2_fr a0 [] hp
        rw [List.append_nil] at this
        rw [← this]
        unfold hd2
        rw [List.take_take, Nat.min_eq_left (by omega)]
      rw [hh, htl]
      exact ⟨6 + a0.length - k, by omega, by omega, by omega, fun h => by omega⟩
  rw [if_pos trivial, hn, if_neg (by simp), if_neg (by simp), if_neg (by rw [decide_eq_true_eq]; omega), wI_id (by omega) (by omega), if_neg (by rw [decide_eq_true_eq]; omega)]
  unfold m7_l04_StreamWants_k8
  dsimp only
  rw [et, wI_id (n := (k : Int) + n) (by omega) (by omega), wI_id (n := (k : Int) + n - 1) (by omega) (by omega), cut_of (by omega) (by omega) (by omega)]
  simp only [Option.bind_some]
  have hcat : ∀ j, (fr a0).take k ++ ((fr a0).drop k).take j = (fr a0).take (k + j) := fun j => List.take_add.symm
  have e2 : ((fr a0).drop ((k : Nat) : Int).toNat).take (((k : Int) + n - 1).toNat - ((k : Nat) : Int).toNat) = ((fr a0).drop k).take (n - 1) := by
    rw [Int.toNat_natCast, show ((k : Int) + n - 1).toNat - k = n - 1 from by omega]
  rw [e2]
  obtain ⟨e', ha', hd'⟩ := opn_take hp (n := k + (n - 1)) (by omega)
  have hlen2 : ((fr a0).take k).length + (((fr a0).drop k).take (n - 1)).length ≤ 1000000 := by simp; omega
  rw [Feed_m ⟨(fr a0).take k, 0⟩ _ hs rfl hlen2 (l := []) (r := (fr a0).take (k + (n - 1))) (e := e') (by show AllS ((fr a0).take k ++ _) _ _ _; rw [hcat]; exact ha')]
  simp only [Option.bind_some]
  have he0' : err4 e' = 0 := by unfold err4; rw [hd']; rfl
  rw [cut_of (by omega) (by omega) (by omega)]
  simp only [Option.bind_some]
  have e3 : ((fr a0).drop ((k : Nat) : Int).toNat).take (((k : Int) + n).toNat - ((k : Nat) : Int).toNat) = ((fr a0).drop k).take n := by
    rw [Int.toNat_natCast, show ((k : Int) + n).toNat - k = n from by omega]
  rw [e3]
  have hlen3 : ((fr a0).take k).length + (((fr a0).drop k).take n).length ≤ 1000000 := by simp; omega
  by_cases hfull : k + n = (fr a0).length
  · have hA : AllS ((fr a0).take k ++ ((fr a0).drop k).take n) [a0] [] 0 := by
      rw [hcat, hfull, List.take_length]
      exact ⟨by simp, by simpa using hp, .inl ⟨rfl, rfl⟩⟩
    rw [Feed_m ⟨(fr a0).take k, 0⟩ _ hs rfl hlen3 hA]
    simp only [Option.bind_some]
    rw [if_pos trivial, he0', if_pos (decide_eq_true rfl), if_L0, if_pos (show decide (err4 0 = 0) = true from rfl), if_pos (show decide (([a0].length : Int) = 1) = true from rfl)]
    by_cases h6 : k < 6
    · rw [if_pos (decide_eq_true (by omega))]
    · rw [if_neg (by rw [decide_eq_true_eq]; omega)]
      rfl
  · have h6 := hn3 (by omega)
    obtain ⟨e4, ha4, hd4⟩ := opn_take hp (n := k + n) (by omega)
    rw [Feed_m ⟨(fr a0).take k, 0⟩ _ hs rfl hlen3 (l := []) (r := (fr a0).take (k + n)) (e := e4) (by show AllS ((fr a0).take k ++ _) _ _ _; rw [hcat]; exact ha4)]
    simp only [Option.bind_some]
    have he4 : err4 e4 = 0 := by unfold err4; rw [hd4]; rfl
    have hl4 : left ((fr a0).take (k + n)) e4 = (fr a0).take (k + n) := by unfold left; rw [hd4]; rfl
    have hs4 : saneS ((fr a0).take (k + n)) 0 = true := by have := sane_left ha4; rw [hl4, he4] at this; exact this
    rw [if_pos trivial, he0', he4, if_pos (decide_eq_true rfl), if_L0, if_pos (show decide ((0 : Int) = 0) = true from rfl), if_neg (show ¬ decide ((([] : List (List UInt8)).length : Int) = 1) = true by decide), hl4, Wants_m ⟨(fr a0).take (k + n), 0⟩ hs4 (by show ((fr a0).take (k + n)).length ≤ _; rw [List.length_take]; omega)]
    simp only [Option.bind_some]
    have hw : wantsS ((fr a0).take (k + n)) = (a0.length : Int) := by
      unfold wantsS
      have hl6 : ((fr a0).take (k + n)).length = 6 := by rw [List.length_take]; omega
      rw [if_neg (by omega)]
      have hh : hd2 ((fr a0).take (k + n)) = a0.length := by
        have := hd2_fr a0 [] hp
        rw [List.append_nil] at this
        rw [← this]
        unfold hd2
        rw [List.take_take, Nat.min_eq_left (by omega)]
      rw [hh, hl6]
      omega
    rw [if_pos trivial, hw, wI_id (n := ((fr a0).length : Int) - k) (by omega) (by omega), wI_id (by omega) (by omega), if_pos (decide_eq_true (by omega)), if_pos (decide_eq_true (by omega))]
end Go.Proofs.Ytoojcpiigkmhiaa.Abs
