/-
  Each has one link.
-/
import Derived.Test.YthmibhmmbajcfaaQ22
namespace Go.Proofs.Ythmibhmmbajcfaa.Abs

theorem nodup_len : ∀ (n : Nat) (l : List Int), l.Nodup → (∀ x ∈ l, 0 ≤ x ∧ x < n) → l.length ≤ n
  | 0, l, _, h => by
    cases l with
    | nil => simp
    | cons x l => have := h x (List.mem_cons_self ..); omega
  | n + 1, l, hd, h => by
    by_cases hm : (n : Int) ∈ l
    · have := nodup_len n (l.erase n) (hd.erase _) (fun x hx => by
        have hx' := (List.Nodup.mem_erase_iff hd).1 hx
        have := h x hx'.2
        have := hx'.1
        omega)
      rw [List.length_erase_of_mem hm] at this
      omega
    · exact Nat.le_succ_of_le (nodup_len n l hd (fun x hx => by
        have := h x hx
        have : x ≠ n := fun e => hm (e ▸ hx)
        omega))

theorem lsV_iff (n : GNetNet) : lsV n = true ↔ (∀ x ∈ n.Links, 0 ≤ x.ID ∧ x.ID < n.Next ∧ slV x.Client x.Conn = true) ∧ n.Links.Pairwise (fun y x => y.ID < x.ID ∧ y.Client ≠ x.Client ∧ y.Conn ≠ x.Conn) ∧ n.Links.length ≤ 8 := by
  unfold lsV
  rw [Bool.and_eq_true, List.all_eq_true, decide_eq_true_eq, List.pairwise_iff_getElem]
  constructor
  · rintro ⟨h1, h2⟩
    refine ⟨fun x hx => ?_, fun i j hi hj hij => ?_, by omega⟩
    · obtain ⟨i, hi⟩ := List.mem_iff_getElem?.1 hx
      have := (lkAt_iff n i).1 (h1 i (List.mem_range.2 (List.getElem?_eq_some_iff.1 hi).1)) x hi
      exact ⟨this.1, this.2.1, this.2.2.1⟩
    · exact ((lkAt_iff n j).1 (h1 j (List.mem_range.2 hj)) _ (List.getElem?_eq_getElem hj)).2.2.2 i _ hij (List.getElem?_eq_getElem hi)
  · rintro ⟨h1, h2, h3⟩
    refine ⟨fun i hi => ?_, by omega⟩
    rw [lkAt_iff]
    intro x hx
    have hm := h1 x (List.mem_of_getElem? hx)
    refine ⟨hm.1, hm.2.1, hm.2.2, fun j y hj hy => ?_⟩
    obtain ⟨hi', rfl⟩ := List.getElem?_eq_some_iff.1 hx
    obtain ⟨hj', rfl⟩ := List.getElem?_eq_some_iff.1 hy
    exact h2 j i hj' hi' hj
theorem saneV_iff (n : GNetNet) : saneV n = true ↔ (∀ p ∈ n.Packets, pkV n p = true) ∧ 0 ≤ n.Next ∧ n.Next ≤ 1099511627776 ∧ n.Packets.length ≤ 64 ∧ lsV n = true := by
  unfold saneV
  simp only [Bool.and_eq_true, decide_eq_true_eq, List.all_eq_true, and_assoc]
  constructor
  · rintro ⟨h1, h2, h3, h4, h5⟩; exact ⟨h1, h2, h3, by omega, h5⟩
  · rintro ⟨h1, h2, h3, h4, h5⟩; exact ⟨h1, h2, h3, by omega, h5⟩
theorem four {n : GNetNet} (h : saneV n = true) : n.Links.length ≤ 4 := by
  obtain ⟨h1, h2, h3⟩ := (lsV_iff n).1 ((saneV_iff n).1 h).2.2.2.2
  have := nodup_len 4 (n.Links.map GNetLink.Client) (List.pairwise_map.2 (h2.imp fun h => h.2.1)) (fun c hc => by
    obtain ⟨x, hx, rfl⟩ := List.mem_map.1 hc
    have := (h1 x hx).2.2
    unfold slV at this
    simp only [Bool.and_eq_true, decide_eq_true_eq] at this
    omega)
  rwa [List.length_map] at this
theorem cut_sane {n : GNetNet} (id : Int) (h : saneV n = true) : saneV (cuV n id) = true := by
  obtain ⟨h1, h2, h3, h4, h5⟩ := (saneV_iff n).1 h
  obtain ⟨g1, g2, g3⟩ := (lsV_iff n).1 h5
  unfold cuV
  rw [if_pos h]
  refine (saneV_iff _).2 ⟨h1, h2, h3, h4, (lsV_iff _).2 ⟨fun x hx => g1 x (List.mem_filter.1 hx).1, g2.filter _, Nat.le_trans (List.length_filter_le _ _) g3⟩⟩
theorem add_sane {n : GNetNet} {c k : Int} (h : saneV n = true) (hs : slV c k = true) (hn : n.Next < 1099511627776) (hl : n.Links.length < 8) (hf : ∀ x ∈ n.Links, x.Client ≠ c ∧ x.Conn ≠ k) :
    saneV ⟨n.Links ++ [⟨n.Next, c, k⟩], n.Packets, n.Next + 1⟩ = true := by
  obtain ⟨h1, h2, h3, h4, h5⟩ := (saneV_iff n).1 h
  obtain ⟨g1, g2, g3⟩ := (lsV_iff n).1 h5
  refine (saneV_iff _).2 ⟨fun p hp => ?_, by show 0 ≤ n.Next + 1; omega, by show n.Next + 1 ≤ 1099511627776; omega, h4, (lsV_iff _).2 ⟨fun x hx => ?_, List.pairwise_append.2 ⟨g2, List.pairwise_singleton _ _, fun y hy x hx => ?_⟩, ?_⟩⟩
  · have := h1 p hp
    unfold pkV at this ⊢
    simp only [Bool.and_eq_true, decide_eq_true_eq] at this ⊢
    exact ⟨⟨this.1.1, by omega⟩, this.2⟩
  · rcases List.mem_append.1 hx with hx | hx
    · have := g1 x hx
      exact ⟨this.1, by show x.ID < n.Next + 1; omega, this.2.2⟩
    · rw [List.mem_singleton.1 hx]
      exact ⟨h2, by show n.Next < n.Next + 1; omega, hs⟩
  · rw [List.mem_singleton.1 hx]
    have := g1 y hy
    exact ⟨this.2.1, hf y hy⟩
  · show (n.Links ++ [_]).length ≤ 8
    rw [List.length_append, List.length_singleton]; omega

theorem any_or {l : List GNetLink} {c k : Int} : (l.any fun x => decide (x.Client = c) || decide (x.Conn = k)) = ((l.any fun x => decide (x.Client = c)) || l.any fun x => decide (x.Conn = k)) := by
  induction l with
  | nil => rfl
  | cons x xs ih =>
    rw [List.any_cons, List.any_cons, List.any_cons, ih]
    cases decide (x.Client = c) <;> cases decide (x.Conn = k) <;> cases (xs.any fun x => decide (x.Client = c)) <;> rfl
theorem opV_cases {n : GNetNet} (c k : Int) (h : saneV n = true) :
    ((fdV n (fun x => decide (x.Client = c))).2 = true ∨ (fdV n (fun x => decide (x.Conn = k))).2 = true) ∧ (opV n c k).2.2 ≠ 0 ∨
    ((opV n c k).2.2 ≠ 0 ∧ (opV n c k).2.2 ≠ 7) ∨
    ((fdV n (fun x => decide (x.Client = c))).2 = false ∧ (fdV n (fun x => decide (x.Conn = k))).2 = false ∧ opV n c k = (⟨n.Links ++ [⟨n.Next, c, k⟩], n.Packets, n.Next + 1⟩, n.Next, 0) ∧ saneV (opV n c k).1 = true ∧
      fdV (opV n c k).1 (fun x => decide (x.Client = c)) = (⟨n.Next, c, k⟩, true) ∧ fdV (opV n c k).1 (fun x => decide (x.Conn = k)) = (⟨n.Next, c, k⟩, true)) := by
  cases hsl : slV c k with
  | false => rw [opV_no (.inr hsl)]; exact .inr (.inl ⟨by decide, by decide⟩)
  | true =>
  rw [opV_sane h hsl, fdV_2, fdV_2, fdV_2, h, Bool.true_and, Bool.true_and, Bool.true_and, any_or]
  cases ha : (n.Links.any fun x => decide (x.Client = c)) with
  | true => exact .inl ⟨.inl rfl, by show (7 : Int) ≠ 0; decide⟩
  | false =>
  cases hb : (n.Links.any fun x => decide (x.Conn = k)) with
  | true => exact .inl ⟨.inr rfl, by show (7 : Int) ≠ 0; decide⟩
  | false =>
  rw [if_neg (nn (by rfl))]
  by_cases h1 : 1099511627776 ≤ n.Next
  · rw [if_pos (decide_eq_true h1)]; exact .inr (.inl ⟨by decide, by decide⟩)
  rw [if_neg (by rw [decide_eq_true_eq]; exact h1)]
  by_cases h2 : 8 ≤ (n.Links.length : Int)
  · rw [if_pos (decide_eq_true h2)]; exact .inr (.inl ⟨by decide, by decide⟩)
  rw [if_neg (by rw [decide_eq_true_eq]; exact h2)]
  have na : ∀ x ∈ n.Links, decide (x.Client = c) = false := fun x hx => Bool.eq_false_iff.2 fun hh => Bool.eq_false_iff.1 ha (List.any_eq_true.2 ⟨x, hx, hh⟩)
  have nb : ∀ x ∈ n.Links, decide (x.Conn = k) = false := fun x hx => Bool.eq_false_iff.2 fun hh => Bool.eq_false_iff.1 hb (List.any_eq_true.2 ⟨x, hx, hh⟩)
  have hs2 := add_sane h hsl (by omega) (by omega) (fun x hx => ⟨of_decide_eq_false (na x hx), of_decide_eq_false (nb x hx)⟩)
  refine .inr (.inr ⟨rfl, rfl, rfl, hs2, ?_, ?_⟩)
  · unfold fdV
    rw [if_pos hs2]
    dsimp only
    rw [List.find?_append, find_none na, Option.none_or, List.find?_cons, decide_eq_true rfl]
  · unfold fdV
    rw [if_pos hs2]
    dsimp only
    rw [List.find?_append, find_none nb, Option.none_or, List.find?_cons, decide_eq_true rfl]

theorem k13_m {a1 : List Int} {i : Nat} {x1 : Int} {x2 : (List GNetLink) × (List GNetPacket) × Int} {last : Int} {n : GNetNet} (hi : i ≤ 60) (hs : saneV n = true) (hl : last < n.Next) :
    ∃ n', m6_l22_NetLinks_k13 a1 (x1, (i : Int), x2) (last, n.Links, n.Packets, n.Next) = some (.cont (last, ((i + 1 : Nat) : Int), n'.Links, n'.Packets, n'.Next)) ∧ saneV n' = true ∧ last < n'.Next := by
  have hn := saneV_next hs
  unfold m6_l22_NetLinks_k13
  dsimp only
  by_cases h1 : (i : Int) < a1.length
  · rw [if_pos (decide_eq_true h1), idx_nat]
    have hx := List.getElem?_eq_getElem (show i < a1.length by omega)
    generalize a1[i]'(show i < a1.length by omega) = u at hx
    have hcs := cut_sane u hs
    have hc := cuV_len n u
    rw [hx, Option.bind_some, show (⟨n.Links, n.Packets, n.Next⟩ : GNetNet) = n from rfl, cutm n u (by omega) (by omega), Option.bind_some,
      allR (cuV n u).Links (fun x => !decide (x.ID = u)) false (m6_l22_NetLinks_s17 a1 (x1, (i : Int), x2) (cuV n u)) (by omega) (fun j x hj => by
        have hlt := (List.getElem?_eq_some_iff.1 hj).1
        unfold m6_l22_NetLinks_s17
        dsimp only
        rw [if_pos (decide_eq_true (by omega)), idx_nat, hj, Option.bind_some, idx_nat, hx, Option.bind_some, wI_id (by omega) (by omega)]
        cases decide (x.ID = u) <;> rfl) (by
        unfold m6_l22_NetLinks_s17
        rw [if_neg (by rw [decide_eq_true_eq]; omega)])]
    have hall : ((cuV n u).Links.all fun x => !decide (x.ID = u)) = true := List.all_eq_true.2 fun x hx => by
      unfold cuV at hx
      rw [if_pos hs] at hx
      exact (List.mem_filter.1 hx).2
    rw [hall, if_pos rfl, Option.bind_some]
    dsimp only
    unfold m6_l22_NetLinks_k16
    dsimp only
    rw [wI_id (by omega) (by omega)]
    refine ⟨cuV n u, rfl, hcs, ?_⟩
    unfold cuV
    rw [if_pos hs]
    exact hl
  · rw [if_neg (by rw [decide_eq_true_eq]; exact h1), wI_id (by omega) (by omega)]
    exact ⟨n, rfl, hs, hl⟩

theorem netLinks_true (a0 : List GAnon72) (a1 : List Int) : m6_l22_NetLinks a0 a1 = some true := by
  unfold m6_l22_NetLinks
  rw [awake22, Option.bind_some]
  by_cases h60 : (60 : Int) < a0.length
  · rw [if_pos (decide_eq_true h60)]
  rw [if_neg (by rw [decide_eq_true_eq]; exact h60)]
  by_cases h61 : (60 : Int) < a1.length
  · rw [if_pos (decide_eq_true h61)]
  rw [if_neg (by rw [decide_eq_true_eq]; exact h61)]
  unfold m6_l22_NetLinks_k2
  obtain ⟨v, hv, n, hn, rfl⟩ := iter_inv (f := m6_l22_NetLinks_s5 a0 a1) (P := fun s => ∃ (i : Nat) (last : Int) (n : GNetNet), i ≤ a0.length ∧ saneV n = true ∧ last < n.Next ∧ s = (last, (i : Int), n.Links, n.Packets, n.Next)) (μ := fun s => a0.length - s.2.1.toNat)
    (R := fun r => ∃ n : GNetNet, saneV n = true ∧ r = .inr (n.Links, n.Packets, n.Next)) (by
    rintro _ ⟨i, last, n, hi, hs, hl, rfl⟩
    have hn := saneV_next hs
    unfold m6_l22_NetLinks_s5
    dsimp only
    rcases Nat.lt_or_ge i a0.length with hlt | hge
    · left
      have hx := List.getElem?_eq_getElem hlt
      generalize a0[i] = u at hx
      have ol := opV_len n u.R0 u.R1
      rw [if_pos (decide_eq_true (by omega)), idx_nat, hx]
      simp only [Option.bind_some]
      unfold m32_net_Of m33_net_At
      rw [show (⟨n.Links, n.Packets, n.Next⟩ : GNetNet) = n from rfl, fd2 _ _ (by omega) (by omega), fd3 _ _ (by omega) (by omega), openm _ _ _ (by omega) (by omega)]
      simp only [Option.bind_some]
      rw [fd2 _ _ (by omega) (by omega), fd3 _ _ (by omega) (by omega)]
      simp only [Option.bind_some]
      rcases opV_cases u.R0 u.R1 hs with ⟨h1, h2⟩ | ⟨h2, h3⟩ | ⟨h1, h2, h3, h4, h5, h6⟩
      · obtain ⟨n', e1, e2, e3⟩ := k13_m (a1 := a1) (i := i) (x1 := last) (x2 := (n.Links, n.Packets, n.Next)) (by omega) hs hl
        rw [if_neg (by rw [decide_eq_true_eq]; exact h2)]
        refine ⟨_, ?_, ⟨i + 1, last, n', hlt, e2, e3, rfl⟩, by dsimp only; omega⟩
        rcases h1 with h1 | h1
        · rw [h1, if_neg (nn (by rfl))]; exact e1
        · rw [h1, if_neg (c := (!true) = true) (by decide)]
          split <;> exact e1
      · obtain ⟨n', e1, e2, e3⟩ := k13_m (a1 := a1) (i := i) (x1 := last) (x2 := (n.Links, n.Packets, n.Next)) (by omega) hs hl
        rw [if_neg (by rw [decide_eq_true_eq]; exact h2)]
        refine ⟨_, ?_, ⟨i + 1, last, n', hlt, e2, e3, rfl⟩, by dsimp only; omega⟩
        rw [if_neg (c := decide ((opV n u.R0 u.R1).2.2 = 7) = true) (by rw [decide_eq_true_eq]; exact h3)]
        split
        · split <;> exact e1
        · exact e1
      · rw [h1, h2, h5, h6]
        generalize opV n u.R0 u.R1 = o at *
        obtain ⟨n', e1, e2, e3⟩ := k13_m (a1 := a1) (i := i) (x1 := last) (x2 := (n.Links, n.Packets, n.Next)) (last := n.Next) (n := o.1) (by omega) h4 (by rw [h3]; show n.Next < n.Next + 1; omega)
        have q1 : o.2.2 = 0 := by rw [h3]
        have q2 : o.2.1 = n.Next := by rw [h3]
        rw [if_pos (decide_eq_true q1), q2]
        refine ⟨_, ?_, ⟨i + 1, n.Next, n', hlt, e2, e3, rfl⟩, by dsimp only; omega⟩
        dsimp only
        rw [decide_eq_true (p := n.Next = n.Next) rfl, decide_eq_true (p := u.R0 = u.R0) rfl, decide_eq_true (p := u.R1 = u.R1) rfl, decide_eq_false (p := n.Next ≤ last) (by omega)]
        simp only [Bool.not_true, Bool.false_eq_true, if_false, Bool.and_self]
        unfold m6_l22_NetLinks_k25
        rw [q2]
        exact e1
    · right; left
      rw [if_neg (by rw [decide_eq_true_eq]; omega)]
      exact ⟨_, rfl, n, hs, rfl⟩) fuel (-1, 0, [], [], 0) ⟨0, -1, ⟨[], [], 0⟩, Nat.zero_le _, rfl, by decide, rfl⟩ (lt_fuel (by show a0.length - 0 ≤ _; omega))
  rw [hv, Option.bind_some]
  dsimp only
  unfold m6_l22_NetLinks_k3
  have hl := saneV_next hn
  have h4 := four hn
  rw [if_pos rfl, show (⟨n.Links, n.Packets, n.Next⟩ : GNetNet) = n from rfl, sanem n (by omega) (by omega), Option.bind_some, hn, if_pos rfl, decide_eq_true (by show (n.Links.length : Int) ≤ 4; omega)]
end Go.Proofs.Ythmibhmmbajcfaa.Abs
