/-
  SsiOrders, SsiPivots.
-/
import Derived.Test.YtbmciegldpeaiaaO11
namespace Go.Proofs.Ytbmciegldpeaiaa.Abs


theorem ahead_m (rd : List GR10Read) (a b : GR11Tx) (c1 : List GSsiTx) (c2 : List GReadsRead) (c3 : Int) (c4 : List Int) (c5 : List GR11Tx) (ha : a.Keys.length ≤ 1000) (hb : b.Keys.length ≤ 1000) (hka : ∀ k ∈ a.Keys, k.length ≤ 1000000) (hkb : ∀ k ∈ b.Keys, k.length ≤ 1000000) (hl : rd.length ≤ 1000000) :
    ∃ v, m12_l11_world_aheads1 a b c1 c2 c3 c4 c5 rd = some v ∧ (v = true → Ahead rd a b) := by
  unfold m12_l11_world_aheads1
  obtain ⟨v, hv, hr⟩ := iter_inv (f := m12_l11_world_aheads1_s17 a b) (P := fun s => ∃ i : Nat, i ≤ a.Keys.length ∧ s = (i : Int)) (μ := fun s => a.Keys.length - s.toNat) (R := fun v => match v with | .inl r => r = true ∧ Ahead rd a b | .inr _ => True) (by
    rintro _ ⟨i, hi, rfl⟩
    unfold m12_l11_world_aheads1_s17
    rcases Nat.lt_or_ge i a.Keys.length with hlt | hge
    · have hx := List.getElem?_eq_getElem hlt
      rw [if_pos (decide_eq_true (by omega))]
      obtain ⟨v, hv, hr⟩ := iter_inv (f := m12_l11_world_aheads1_s19 a b (i : Int)) (P := fun s => ∃ j : Nat, j ≤ b.Keys.length ∧ s = (j : Int)) (μ := fun s => b.Keys.length - s.toNat) (R := fun v => match v with | .inl r => r = true ∧ Ahead rd a b | .inr _ => True) (by
        rintro _ ⟨j, hj, rfl⟩
        unfold m12_l11_world_aheads1_s19
        rcases Nat.lt_or_ge j b.Keys.length with hlt' | hge'
        · have hy := List.getElem?_eq_getElem hlt'
          rw [if_pos (decide_eq_true (by omega)), idx_nat, hx, Option.bind_some, idx_nat, hy, Option.bind_some, wI_id (by omega) (by omega)]
          have hgo : ∃ s', (some (LR.cont ((j : Int) + 1)) : Option (LR Int Unit Bool)) = some (.cont s') ∧ (∃ j : Nat, j ≤ b.Keys.length ∧ s' = (j : Int)) ∧ b.Keys.length - s'.toNat < b.Keys.length - (j : Int).toNat := ⟨_, rfl, ⟨j + 1, hlt', rfl⟩, by omega⟩
          cases he : (a.Keys[i] == b.Keys[j]) with
          | true =>
            rw [if_pos rfl]
            by_cases hE : a.End < b.End
            · rw [if_pos (decide_eq_true hE)]
              have he := eq_of_beq he
              exact .inr (.inr ⟨_, rfl, rfl, .inl ⟨⟨_, List.getElem_mem hlt, he ▸ List.getElem_mem hlt'⟩, hE⟩⟩)
            · rw [if_neg (by rw [decide_eq_true_eq]; exact hE)]
              exact .inl hgo
          | false =>
            rw [if_neg (by decide)]
            exact .inl hgo
        · rw [if_neg (by rw [decide_eq_true_eq]; omega)]
          exact .inr (.inl ⟨_, rfl, trivial⟩)) fuel 0 ⟨0, Nat.zero_le _, rfl⟩ (lt_fuel (by show b.Keys.length - 0 ≤ _; omega))
      rw [hv, Option.bind_some]
      cases v with
      | inl r => exact .inr (.inr ⟨_, rfl, hr⟩)
      | inr u =>
        show (∃ s', m12_l11_world_aheads1_k18 (i : Int) u = _ ∧ _) ∨ _
        unfold m12_l11_world_aheads1_k18
        rw [wI_id (by omega) (by omega)]
        exact .inl ⟨_, rfl, ⟨i + 1, hlt, rfl⟩, by omega⟩
    · rw [if_neg (by rw [decide_eq_true_eq]; omega)]
      exact .inr (.inl ⟨_, rfl, trivial⟩)) fuel 0 ⟨0, Nat.zero_le _, rfl⟩ (lt_fuel (by show a.Keys.length - 0 ≤ _; omega))
  rw [hv, Option.bind_some]
  cases v with
  | inl r => exact ⟨r, rfl, fun _ => hr.2⟩
  | inr u =>
    show ∃ v, m12_l11_world_aheads1_k1 a b rd u = some v ∧ _
    unfold m12_l11_world_aheads1_k1
    obtain ⟨v, hv, hr⟩ := iter_inv (f := m12_l11_world_aheads1_s3 a b rd) (P := fun s => ∃ i : Nat, i ≤ rd.length ∧ s = (i : Int)) (μ := fun s => rd.length - s.toNat) (R := fun v => match v with | .inl r => r = true → Ahead rd a b | .inr _ => True) (by
      rintro _ ⟨i, hi, rfl⟩
      unfold m12_l11_world_aheads1_s3
      rcases Nat.lt_or_ge i rd.length with hlt | hge
      · have hx := List.getElem?_eq_getElem hlt
        have hxm := List.getElem_mem hlt
        generalize rd[i] = x at hx hxm
        rw [if_pos (decide_eq_true (by omega)), idx_nat, hx]
        simp only [Option.bind_some]
        rw [show (⟨x.Rng.Lo, x.Rng.Hi, x.Rng.Open⟩ : GApiRange) = x.Rng from rfl, meets_m _ _ (by omega) hka, meets_m _ _ (by omega) hkb, wI_id (by omega) (by omega)]
        simp only [Option.bind_some]
        have hgo : ∃ s', (some (LR.cont ((i : Int) + 1)) : Option (LR Int Unit Bool)) = some (.cont s') ∧ (∃ j : Nat, j ≤ rd.length ∧ s' = (j : Int)) ∧ rd.length - s'.toNat < rd.length - (i : Int).toNat := ⟨_, rfl, ⟨i + 1, hlt, rfl⟩, by omega⟩
        have hsec : (∃ s', (if (decide (x.Tx = a.ID)) then (if (decide (a.Begin < b.End)) then (if (metV x.Rng b.Keys) then (some (.ret (!decide (a.ID = b.ID)))) else (some (.cont ((i : Int) + 1)))) else (some (.cont ((i : Int) + 1)))) else (some (.cont ((i : Int) + 1))) : Option (LR Int Unit Bool)) = some (.cont s') ∧ (∃ j : Nat, j ≤ rd.length ∧ s' = (j : Int)) ∧ rd.length - s'.toNat < rd.length - (i : Int).toNat) ∨ (∃ b1, (if (decide (x.Tx = a.ID)) then (if (decide (a.Begin < b.End)) then (if (metV x.Rng b.Keys) then (some (.ret (!decide (a.ID = b.ID)))) else (some (.cont ((i : Int) + 1)))) else (some (.cont ((i : Int) + 1)))) else (some (.cont ((i : Int) + 1))) : Option (LR Int Unit Bool)) = some (.brk b1) ∧ True) ∨ ∃ r, (if (decide (x.Tx = a.ID)) then (if (decide (a.Begin < b.End)) then (if (metV x.Rng b.Keys) then (some (.ret (!decide (a.ID = b.ID)))) else (some (.cont ((i : Int) + 1)))) else (some (.cont ((i : Int) + 1)))) else (some (.cont ((i : Int) + 1))) : Option (LR Int Unit Bool)) = some (.ret r) ∧ (r = true → Ahead rd a b) := by
          by_cases g1 : x.Tx = a.ID
          · rw [if_pos (decide_eq_true g1)]
            by_cases g2 : a.Begin < b.End
            · rw [if_pos (decide_eq_true g2)]
              cases hm : metV x.Rng b.Keys with
              | true =>
                rw [if_pos rfl]
                exact .inr (.inr ⟨_, rfl, fun _ => .inr (.inr ⟨g2, x, hxm, g1, hm⟩)⟩)
              | false =>
                rw [if_neg (by decide)]
                exact .inl hgo
            · rw [if_neg (by rw [decide_eq_true_eq]; exact g2)]
              exact .inl hgo
          · rw [if_neg (by rw [decide_eq_true_eq]; exact g1)]
            exact .inl hgo
        by_cases g3 : x.Tx = b.ID
        · rw [if_pos (decide_eq_true g3)]
          by_cases g4 : a.End ≤ b.Begin
          · rw [if_pos (decide_eq_true g4)]
            cases hm : metV x.Rng a.Keys with
            | true =>
              rw [if_pos rfl]
              exact .inr (.inr ⟨_, rfl, fun _ => .inr (.inl ⟨g4, x, hxm, g3, hm⟩)⟩)
            | false =>
              rw [if_neg (by decide)]
              exact hsec
          · rw [if_neg (by rw [decide_eq_true_eq]; exact g4)]
            exact hsec
        · rw [if_neg (by rw [decide_eq_true_eq]; exact g3)]
          exact hsec
      · rw [if_neg (by rw [decide_eq_true_eq]; omega)]
        exact .inr (.inl ⟨_, rfl, trivial⟩)) fuel 0 ⟨0, Nat.zero_le _, rfl⟩ (lt_fuel (by show rd.length - 0 ≤ _; omega))
    rw [hv, Option.bind_some]
    cases v with
    | inl r => exact ⟨r, rfl, hr⟩
    | inr u => exact ⟨false, rfl, fun e => by cases e⟩

theorem Inv.keyD {w : WL11} (h : Inv K10 w) {d : GR11Tx} (hd : d ∈ w.did) : d.Keys.length ≤ 10 ∧ ∀ k ∈ d.Keys, k.length ≤ 1000000 := by
  obtain ⟨_, _, _, _, hk⟩ := h.did0 d hd
  exact ⟨hk.2, fun k hk' => by have := (hk.1.each k hk').2; omega⟩

/-- A round: of those that are left, those that wait. -/
theorem round_m {w : WL11} (h : Inv K10 w) (hb : Bd w 60) {left : List GR11Tx} (hs : left.Sublist w.did) (hne : left ≠ []) (n : Int) :
    ∃ next, iterB (m3_l11_SsiOrders_s9 (tup w) (left, n)) fuel (0, ([] : List GR11Tx)) = some next ∧ next.Sublist left ∧ next.length < left.length := by
  have hll : left.length ≤ 60 := Nat.le_trans hs.length_le hb.did
  have hmem : ∀ x ∈ left, x ∈ w.did := fun x hx => hs.subset hx
  have hid : left.Pairwise (fun a b => a.ID ≠ b.ID) := h.didI.sublist hs
  obtain ⟨x0, hx0, hfree⟩ := h.first hmem hne
  obtain ⟨i0, hi0, e0⟩ := List.getElem_of_mem hx0
  have hwait : ∀ (i : Nat) (next : List GR11Tx), i < left.length → ∃ b, iterB (m3_l11_SsiOrders_s13 (tup w) (left, n) ((i : Int), next)) fuel (false, 0) = some b ∧ (i = i0 → b = false) := by
    intro i next hi
    obtain ⟨v, hv, hr⟩ := iterB_inv (f := m3_l11_SsiOrders_s13 (tup w) (left, n) ((i : Int), next)) (P := fun s => ∃ k : Nat, k ≤ left.length ∧ s.2 = (k : Int) ∧ (i = i0 → s.1 = false)) (μ := fun s => left.length - s.2.toNat) (R := fun b => i = i0 → b = false) (by
      rintro ⟨b, _⟩ ⟨k, hk, rfl, hbf⟩
      unfold m3_l11_SsiOrders_s13
      dsimp only
      rcases Nat.lt_or_ge k left.length with hlt | hge
      · rw [if_pos (decide_eq_true (by omega)), wI_id (by omega) (by omega)]
        left
        cases b with
        | true =>
          rw [if_pos rfl]
          exact ⟨_, rfl, ⟨k + 1, hlt, rfl, hbf⟩, by dsimp only; omega⟩
        | false =>
          rw [if_neg (by decide)]
          by_cases hki : k = i
          · rw [if_neg (by rw [hki]; simp)]
            exact ⟨_, rfl, ⟨k + 1, hlt, rfl, fun _ => rfl⟩, by dsimp only; omega⟩
          · rw [if_pos (by rw [decide_eq_false (by omega)]; rfl), idx_nat, idx_nat, List.getElem?_eq_getElem hlt, List.getElem?_eq_getElem hi]
            simp only [Option.bind_some]
            have hkD := h.keyD (hmem _ (List.getElem_mem hlt))
            have hiD := h.keyD (hmem _ (List.getElem_mem hi))
            obtain ⟨v, hv, hA⟩ := ahead_m w.read left[k] left[i] w.c.Txs w.c.Reads.L w.now w.begun w.did (by omega) (by omega) hkD.2 hiD.2 (by have := hb.read; omega)
            rw [show m12_l11_world_aheads1 left[k] left[i] (tup w).1 (tup w).2.1 (tup w).2.2.1 (tup w).2.2.2.1 (tup w).2.2.2.2.1 (tup w).2.2.2.2.2 = some v from hv, Option.bind_some]
            refine ⟨_, rfl, ⟨k + 1, hlt, rfl, fun e => ?_⟩, by dsimp only; omega⟩
            subst e
            cases v with
            | false => rfl
            | true =>
              have hne' : left[k].ID ≠ left[i].ID := by
                rcases Nat.lt_or_gt_of_ne hki with hh | hh
                · exact List.pairwise_iff_getElem.1 hid k i hlt hi hh
                · exact fun e => List.pairwise_iff_getElem.1 hid i k hi hlt hh e.symm
              have := hA rfl
              rw [e0] at this hne'
              exact absurd this (hfree _ (List.getElem_mem hlt) hne')
      · rw [if_neg (by rw [decide_eq_true_eq]; omega)]
        exact .inr ⟨_, rfl, hbf⟩) fuel (false, 0) ⟨0, Nat.zero_le _, rfl, fun _ => rfl⟩ (lt_fuel (by show left.length - 0 ≤ _; omega))
    exact ⟨v, hv, hr⟩
  obtain ⟨v, hv, h1, h2⟩ := iterB_inv (f := m3_l11_SsiOrders_s9 (tup w) (left, n)) (P := fun s => ∃ i : Nat, i ≤ left.length ∧ s.1 = (i : Int) ∧ s.2.Sublist (left.take i) ∧ (i0 < i → s.2.length < i)) (μ := fun s => left.length - s.1.toNat) (R := fun v => v.Sublist left ∧ v.length < left.length) (by
    rintro ⟨_, next⟩ ⟨i, hi, rfl, hsub, hlen⟩
    unfold m3_l11_SsiOrders_s9
    dsimp only at hsub hlen ⊢
    rcases Nat.lt_or_ge i left.length with hlt | hge
    · rw [if_pos (decide_eq_true (by omega))]
      obtain ⟨b, hb', hbi⟩ := hwait i next hlt
      rw [hb', Option.bind_some]
      have hnl : next.length ≤ i := by have := hsub.length_le; rw [List.length_take] at this; omega
      have htk : left.take (i + 1) = left.take i ++ [left[i]] := List.take_succ_eq_append_getElem hlt
      unfold m3_l11_SsiOrders_k10
      dsimp only
      left
      rw [wI_id (by omega) (by omega)]
      cases b with
      | true =>
        rw [if_pos rfl, idx_nat, List.getElem?_eq_getElem hlt, Option.bind_some, if_pos (by rw [List.length_singleton]; omega)]
        refine ⟨_, rfl, ⟨i + 1, hlt, rfl, by rw [htk]; exact hsub.append (List.Sublist.refl _), fun hlt' => ?_⟩, by dsimp only; omega⟩
        dsimp only
        rw [List.length_append, List.length_singleton]
        by_cases he : i = i0
        · have := hbi he; cases this
        · have := hlen (by omega); omega
      | false =>
        rw [if_neg (by decide)]
        refine ⟨_, rfl, ⟨i + 1, hlt, rfl, by rw [htk]; exact hsub.trans (List.sublist_append_left ..), fun _ => ?_⟩, by dsimp only; omega⟩
        dsimp only; omega
    · have e : i = left.length := by omega
      subst e
      rw [if_neg (by rw [decide_eq_true_eq]; omega)]
      rw [List.take_length] at hsub
      exact .inr ⟨_, rfl, hsub, hlen hi0⟩) fuel (0, ([] : List GR11Tx)) ⟨0, Nat.zero_le _, rfl, List.Sublist.refl _, fun e => by omega⟩ (lt_fuel (by show left.length - 0 ≤ _; omega))
  exact ⟨v, hv, h1, h2⟩

theorem ssiOrders_true (a0 : List GL11Act) : m3_l11_SsiOrders a0 = some true := by
  unfold m3_l11_SsiOrders
  rw [awake11, Option.bind_some]
  obtain ⟨v, hv, hs⟩ := small_m a0
  rw [hv, Option.bind_some]
  cases v with
  | false => rfl
  | true =>
  obtain ⟨hl, hk⟩ := hs rfl
  rw [if_neg (by decide)]
  obtain ⟨w, hw, h, hb⟩ := runL hl hk (m3_l11_SsiOrders_s22 a0) (fun i o w v ho hd => by
    have hlt := (List.getElem?_eq_some_iff.1 ho).1
    unfold m3_l11_SsiOrders_s22
    dsimp only
    rw [if_pos (decide_eq_true (by omega)), idx_nat, ho, Option.bind_some, show m11_l11_world_dos (⟨o.What, o.N, o.RO, ⟨o.Rng.Lo, o.Rng.Hi, o.Rng.Open⟩, o.Keys⟩ : GL11Act) (tup w).1 (tup w).2.1 (tup w).2.2.1 (tup w).2.2.2.1 (tup w).2.2.2.2.1 (tup w).2.2.2.2.2 = some (tup v) from hd, Option.bind_some, wI_id (by omega) (by omega)]
    rfl) (fun w => by
    unfold m3_l11_SsiOrders_s22
    dsimp only
    rw [if_neg (by rw [decide_eq_true_eq]; omega)])
  rw [show iterB (m3_l11_SsiOrders_s22 a0) fuel (0, ([] : List GSsiTx), ([] : List GReadsRead), 0, ([] : List Int), ([] : List GR11Tx), ([] : List GR10Read)) = some (tup w) from hw, Option.bind_some]
  unfold m3_l11_SsiOrders_k3
  have hdl := hb.did
  obtain ⟨v, hv, hr⟩ := iter_inv (f := m3_l11_SsiOrders_s6 (tup w)) (P := fun s => ∃ n : Nat, s.2 = (n : Int) ∧ s.1.Sublist w.did ∧ s.1.length + n ≤ w.did.length) (μ := fun s => w.did.length - s.2.toNat) (R := fun v => v = .inr []) (by
    rintro ⟨left, _⟩ ⟨n, rfl, hsub, hln⟩
    dsimp only at hsub hln
    unfold m3_l11_SsiOrders_s6
    dsimp only
    rw [if_pos (decide_eq_true (show (n : Int) ≤ ((tup w).2.2.2.2.1.length : Int) by show (n : Int) ≤ (w.did.length : Int); omega))]
    by_cases h0 : left = []
    · subst h0
      rw [if_neg (by simp)]
      exact .inr (.inl ⟨_, rfl, rfl⟩)
    · have hpos : 0 < left.length := List.length_pos_iff.2 h0
      rw [if_pos (decide_eq_true (by omega))]
      unfold m3_l11_SsiOrders_k7
      obtain ⟨next, hn, h1, h2⟩ := round_m h hb hsub h0 (n : Int)
      rw [hn, Option.bind_some]
      unfold m3_l11_SsiOrders_k8
      dsimp only
      rw [if_neg (by rw [decide_eq_true_eq]; omega), wI_id (by omega) (by omega)]
      exact .inl ⟨_, rfl, ⟨n + 1, rfl, h1.trans hsub, by dsimp only; omega⟩, by dsimp only; omega⟩) fuel (w.did, 0) ⟨0, rfl, List.Sublist.refl _, by dsimp only; omega⟩ (lt_fuel (by show w.did.length - 0 ≤ _; omega))
  rw [show iter (m3_l11_SsiOrders_s6 (tup w)) fuel ((tup w).2.2.2.2.1, 0) = some v from hv, Option.bind_some, hr]
  show m3_l11_SsiOrders_k4 true (tup w) [] = some true
  unfold m3_l11_SsiOrders_k4
  rw [if_pos rfl, if_pos (by rfl), show (⟨(tup w).1, ⟨(tup w).2.1⟩⟩ : GSsiCert) = w.c from rfl, sane_c h.sc]; rfl

theorem ssiPivots_true (a0 : List GL11Act) : m4_l11_SsiPivots a0 = some true := by
  unfold m4_l11_SsiPivots
  rw [awake11, Option.bind_some]
  obtain ⟨v, hv, hs⟩ := small_m a0
  rw [hv, Option.bind_some]
  cases v with
  | false => rfl
  | true =>
  obtain ⟨hl, hk⟩ := hs rfl
  rw [if_neg (by decide)]
  obtain ⟨v, hv, hr⟩ := iter_inv (f := m4_l11_SsiPivots_s21 a0) (P := fun s => ∃ (i : Nat) (w : WL11), i ≤ a0.length ∧ s = ((i : Int), tup w) ∧ Inv K10 w ∧ Bd w i) (μ := fun s => a0.length - s.1.toNat) (R := fun v => ∃ w, v = .inr (tup w) ∧ Inv K10 w ∧ Bd w 60) (by
    rintro _ ⟨i, w, hi, rfl, h, hb⟩
    unfold m4_l11_SsiPivots_s21
    dsimp only
    rcases Nat.lt_or_ge i a0.length with hlt | hge
    · have hx := List.getElem?_eq_getElem hlt
      obtain ⟨w', e, h', hb'⟩ := do_m h hb (by omega) a0[i] (hk _ (List.getElem_mem _))
      rw [if_pos (decide_eq_true (by omega)), idx_nat, hx, Option.bind_some, show m11_l11_world_dos (⟨a0[i].What, a0[i].N, a0[i].RO, ⟨a0[i].Rng.Lo, a0[i].Rng.Hi, a0[i].Rng.Open⟩, a0[i].Keys⟩ : GL11Act) (tup w).1 (tup w).2.1 (tup w).2.2.1 (tup w).2.2.2.1 (tup w).2.2.2.2.1 (tup w).2.2.2.2.2 = some (tup w') from e, Option.bind_some]
      rw [allT w'.c.Txs (m4_l11_SsiPivots_s25 (tup w')) (by have := h'.len; omega) (fun j x hx => by
        have hjl := (List.getElem?_eq_some_iff.1 hx).1
        have := h'.len
        unfold m4_l11_SsiPivots_s25
        show (if (decide ((j : Int) < (w'.c.Txs.length : Int))) then ((idx w'.c.Txs (j : Int)).bind fun u26 => _) else _) = _
        rw [if_pos (decide_eq_true (by omega)), idx_nat, hx, Option.bind_some, wI_id (by omega) (by omega)]
        have hp := h'.piv x (List.mem_of_getElem? hx)
        by_cases hs : x.State = 2
        · rw [if_pos (decide_eq_true hs)]
          by_cases hi : x.In = true
          · rw [if_pos hi, if_neg fun ho => hp hs ⟨hi, ho⟩]; rfl
          · rw [if_neg hi]; rfl
        · rw [if_neg (by rw [decide_eq_true_eq]; exact hs)]; rfl) (by
        unfold m4_l11_SsiPivots_s25
        rw [if_neg (by rw [decide_eq_true_eq]; show ¬ ((w'.c.Txs.length : Int) < w'.c.Txs.length); omega)]), Option.bind_some]
      show (∃ s', m4_l11_SsiPivots_k24 _ _ _ = _ ∧ _) ∨ _
      unfold m4_l11_SsiPivots_k24
      dsimp only
      rw [wI_id (by omega) (by omega)]
      exact .inl ⟨_, rfl, ⟨i + 1, w', hlt, rfl, h', hb'⟩, by dsimp only; omega⟩
    · have e : i = a0.length := by omega
      subst e
      rw [if_neg (by rw [decide_eq_true_eq]; omega)]
      exact .inr (.inl ⟨_, rfl, w, rfl, h, hb.up hl⟩)) fuel (0, tup wN) ⟨0, wN, Nat.zero_le _, rfl, inv_nil, ⟨Int.le_refl _, Nat.le_refl _, Nat.le_refl _, Nat.le_refl _⟩⟩ (lt_fuel (by show a0.length - 0 ≤ _; omega))
  obtain ⟨w, rfl, h, hb⟩ := hr
  rw [show iter (m4_l11_SsiPivots_s21 a0) fuel (0, ([] : List GSsiTx), ([] : List GReadsRead), 0, ([] : List Int), ([] : List GR11Tx), ([] : List GR10Read)) = some (.inr (tup w)) from hv, Option.bind_some]
  show m4_l11_SsiPivots_k3 true (tup w) = some true
  unfold m4_l11_SsiPivots_k3
  have hdl := hb.did
  rw [allT w.did (m4_l11_SsiPivots_s5 (tup w)) (by omega) (fun i b hbx => by
    have hil := (List.getElem?_eq_some_iff.1 hbx).1
    unfold m4_l11_SsiPivots_s5
    rw [if_pos (decide_eq_true (show (i : Int) < ((tup w).2.2.2.2.1.length : Int) by show (i : Int) < (w.did.length : Int); omega))]
    rw [allT (w.did.take i) (m4_l11_SsiPivots_s7 (tup w) (i : Int)) (by rw [List.length_take]; omega) (fun k a hak => by
      have hkl : k < i := by have := (List.getElem?_eq_some_iff.1 hak).1; rw [List.length_take] at this; omega
      have hak' : w.did[k]? = some a := by rw [List.getElem?_take_of_lt hkl] at hak; exact hak
      have haD := List.mem_of_getElem? hak'
      have hbD := List.mem_of_getElem? hbx
      unfold m4_l11_SsiPivots_s7
      show (if (decide ((k : Int) < (i : Int))) then ((idx w.did (k : Int)).bind fun u8 => (idx w.did (i : Int)).bind fun u9 => _) else _) = _
      rw [if_pos (decide_eq_true (by omega)), idx_nat, idx_nat, hak', hbx]
      simp only [Option.bind_some]
      rw [wI_id (by omega) (by omega)]
      by_cases hB : b.Begin < a.End
      · rw [if_pos (decide_eq_true hB)]
        obtain ⟨q1, q2⟩ := h.keyD haD
        obtain ⟨q3, q4⟩ := h.keyD hbD
        rw [meets_m _ _ (by omega) q2, Option.bind_some]
        have hlt : a.End < b.End := by
          obtain ⟨p1, p2⟩ := List.getElem?_eq_some_iff.1 hak'
          obtain ⟨p3, p4⟩ := List.getElem?_eq_some_iff.1 hbx
          have := List.pairwise_iff_getElem.1 h.didE k i p1 p3 hkl
          rw [p2, p4] at this; exact this
        split
        · rw [allT a.Keys (m4_l11_SsiPivots_s12 a b) (by omega) (fun n x hx => by
            have hnl := (List.getElem?_eq_some_iff.1 hx).1
            unfold m4_l11_SsiPivots_s12
            rw [if_pos (decide_eq_true (by omega)), allT b.Keys (m4_l11_SsiPivots_s14 a b (n : Int)) (by omega) (fun m y hy => by
              have hml := (List.getElem?_eq_some_iff.1 hy).1
              unfold m4_l11_SsiPivots_s14
              rw [if_pos (decide_eq_true (by omega)), idx_nat, idx_nat, hx, hy]
              simp only [Option.bind_some]
              rw [if_neg fun e => ?_, wI_id (by omega) (by omega)]
              · rfl
              · have e := eq_of_beq e
                have := h.ww a haD b hbD hlt ⟨x, List.mem_of_getElem? hx, by rw [e]; exact List.mem_of_getElem? hy⟩
                omega) (by
              unfold m4_l11_SsiPivots_s14
              rw [if_neg (by rw [decide_eq_true_eq]; omega)]), Option.bind_some]
            show m4_l11_SsiPivots_k13 _ _ = _
            unfold m4_l11_SsiPivots_k13
            rw [wI_id (by omega) (by omega)]; rfl) (by
            unfold m4_l11_SsiPivots_s12
            rw [if_neg (by rw [decide_eq_true_eq]; omega)]), Option.bind_some]
          show m4_l11_SsiPivots_k11 _ _ = _
          unfold m4_l11_SsiPivots_k11
          rw [wI_id (by omega) (by omega)]; rfl
        · rfl
      · rw [if_neg (by rw [decide_eq_true_eq]; exact hB)]; rfl) (by
      unfold m4_l11_SsiPivots_s7
      rw [if_neg (by rw [decide_eq_true_eq, List.length_take]; omega)]), Option.bind_some]
    show m4_l11_SsiPivots_k6 _ _ = _
    unfold m4_l11_SsiPivots_k6
    rw [wI_id (by omega) (by omega)]; rfl) (by
    unfold m4_l11_SsiPivots_s5
    rw [if_neg (by rw [decide_eq_true_eq]; show ¬ ((w.did.length : Int) < w.did.length); omega)]), Option.bind_some]
  rfl
end Go.Proofs.Ytbmciegldpeaiaa.Abs
