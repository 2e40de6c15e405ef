/-
  The order of transactions.
-/
import Derived.Test.YtoajiidocnoopaaK24c
namespace Go.Proofs.Ytoajiidocnoopaa.Abs

theorem ah_self (l : List GSerialTx) (i : Nat) : ah l i i = false := by
  unfold ah
  cases l[i]? with
  | none => rfl
  | some x => show aheadV x x = false; unfold aheadV; rw [decide_eq_true rfl]; rfl

structure Ordered (l : List GSerialTx) (told left : List Nat) : Prop where
  perm : (told ++ left).Perm (List.range l.length)
  pw : told.Pairwise (fun i j => ah l j i = false)
  cross : ∀ i ∈ told, ∀ j ∈ left, ah l j i = false

theorem range24 {l : List GSerialTx} (hl : l.length ≤ 1000) : iterB (m10_serial_Order_s10 l) fuel (0, ([] : List Int)) = some (nat (List.range l.length)) := by
  obtain ⟨v, hv, hr⟩ := iterB_inv (f := m10_serial_Order_s10 l) (P := fun s => ∃ j : Nat, j ≤ l.length ∧ s = ((j : Int), nat (List.range j))) (μ := fun s => l.length - s.1.toNat)
    (R := fun v => v = nat (List.range l.length)) (by
      rintro _ ⟨j, hj, rfl⟩
      unfold m10_serial_Order_s10
      dsimp only
      rcases Nat.lt_or_ge j l.length with hlt | hge
      · left
        rw [if_pos (decide_eq_true (by omega)), if_pos (by rw [List.length_map, List.length_range, List.length_singleton]; omega), wI_id (by omega) (by omega)]
        refine ⟨_, rfl, ⟨j + 1, hlt, ?_⟩, by dsimp only; omega⟩
        rw [List.range_succ, nat, nat, List.map_append]; rfl
      · right
        have e : j = l.length := by omega
        subst e
        rw [if_neg (by rw [decide_eq_true_eq]; omega)]
        exact ⟨_, rfl, rfl⟩) fuel (0, []) ⟨0, Nat.zero_le _, rfl⟩ (lt_fuel (by show l.length - 0 ≤ _; omega))
  rw [hv, hr]

theorem order24 {l : List GSerialTx} (hL : ∀ x ∈ l, Lim2 x) (hl : l.length ≤ 1000) (hs : m8_serial_Sane l = some true) :
    ∃ told left b, Ordered l told left ∧ m10_serial_Order l = some (nat told, b) ∧ (b = true ↔ left = []) ∧ ∀ i ∈ left, ∃ j ∈ left, ah l j i = true := by
  unfold m10_serial_Order
  rw [hs, Option.bind_some, if_neg (by decide), range24 hl, Option.bind_some]
  unfold m10_serial_Order_k2
  obtain ⟨v, hv, hr⟩ := iter_inv (f := m10_serial_Order_s4 l) (P := fun s => ∃ told left, Ordered l told left ∧ s = (nat left, nat (List.range l.length), nat told)) (μ := fun s => s.1.length)
    (R := fun v => ∃ told left, Ordered l told left ∧ (∀ i ∈ left, ∃ j ∈ left, ah l j i = true) ∧ ((left ≠ [] ∧ v = .inl (nat told, false)) ∨ (left = [] ∧ ∃ a b, v = .inr (a, b, nat told)))) (by
      rintro _ ⟨told, left, ho, rfl⟩
      have hlen : told.length + left.length = l.length := by
        have := ho.perm.length_eq
        rwa [List.length_append, List.length_range] at this
      have hin : ∀ j ∈ left, j < l.length := fun j hj => List.mem_range.1 (ho.perm.mem_iff.1 (List.mem_append_right _ hj))
      unfold m10_serial_Order_s4
      dsimp only
      rcases left with _ | ⟨a, rest⟩
      · right; left
        rw [if_neg (by rw [decide_eq_true_eq]; exact Int.lt_irrefl _)]
        exact ⟨_, rfl, told, [], ho, fun i hi => absurd hi (by simp), .inr ⟨rfl, _, _, rfl⟩⟩
      rw [if_pos (decide_eq_true (by rw [List.length_map, List.length_cons]; omega))]
      rcases m18_m (fun x hx => (hL x hx).l) hin (by omega) with ⟨k, i, hk, hno, e⟩ | ⟨hw, e⟩
      · left
        have hkl := (List.getElem?_eq_some_iff.1 hk).1
        have hkn : (nat (a :: rest))[k]? = some (i : Int) := by rw [List.getElem?_map, hk]; rfl
        rw [e, Option.bind_some, if_neg (by rw [decide_eq_true_eq]; omega), idx_nat, hkn, Option.bind_some, if_pos (by rw [List.length_map, List.length_singleton]; omega), m22_m (by omega) hkl, Option.bind_some]
        refine ⟨_, rfl, ⟨told ++ [i], (a :: rest).eraseIdx k, ⟨?_, ?_, ?_⟩, by simp [nat]⟩, by rw [List.length_map, List.length_map, List.length_eraseIdx_of_lt hkl]; omega⟩
        · have e1 : (i :: (a :: rest).eraseIdx k).Perm (a :: rest) := by
            have h1 : (a :: rest) = (a :: rest).take k ++ i :: (a :: rest).drop (k + 1) := by
              rw [← (List.getElem?_eq_some_iff.1 hk).2, ← List.drop_eq_getElem_cons hkl, List.take_append_drop]
            rw [List.eraseIdx_eq_take_drop_succ]
            exact List.perm_middle.symm.trans (List.Perm.of_eq h1.symm)
          rw [List.append_assoc]
          exact (List.Perm.append_left told e1).trans ho.perm
        · rw [List.pairwise_append]
          refine ⟨ho.pw, List.pairwise_singleton _ _, fun x hx y hy => ?_⟩
          rw [List.mem_singleton.1 hy]
          exact ho.cross x hx i (List.mem_of_getElem? hk)
        · intro x hx j hj
          have hj' := List.mem_of_mem_eraseIdx hj
          rcases List.mem_append.1 hx with hx | hx
          · exact ho.cross x hx j hj'
          · rw [List.mem_singleton.1 hx]; exact hno j hj'
      · right; right
        rw [e, Option.bind_some, if_pos (by decide)]
        exact ⟨_, rfl, told, a :: rest, ho, hw, .inl ⟨by simp, rfl⟩⟩) fuel (nat (List.range l.length), nat (List.range l.length), []) ⟨[], List.range l.length, ⟨by simp, List.Pairwise.nil, fun i hi => absurd hi (by simp)⟩, rfl⟩ (lt_fuel (by dsimp only; rw [List.length_map, List.length_range]; omega))
  rw [hv, Option.bind_some]
  obtain ⟨told, left, ho, hw, ⟨hne, rfl⟩ | ⟨he, a, b, rfl⟩⟩ := hr
  · exact ⟨told, left, false, ho, rfl, ⟨fun h => (by cases h), fun h => absurd h hne⟩, hw⟩
  · exact ⟨told, left, true, ho, rfl, ⟨fun _ => he, fun _ => rfl⟩, hw⟩

/-- Where each stands: 0 for who was not told. -/
def pos (told : List Nat) (m : Nat) : Int := if m ∈ told then ((told.idxOf m : Nat) : Int) + 1 else 0
def posn (n : Nat) (told : List Nat) : List Int := (List.range n).map (pos told)
theorem posn_get {n m : Nat} (told : List Nat) (h : m < n) : (posn n told)[m]? = some (pos told m) := by
  unfold posn
  rw [List.getElem?_map, List.getElem?_range h]; rfl

theorem pos_snoc {told : List Nat} {x m : Nat} (hx : x ∉ told) : pos (told ++ [x]) m = if m = x then (told.length : Int) + 1 else pos told m := by
  unfold pos
  by_cases h : m = x
  · subst h
    rw [if_pos (by simp), if_pos rfl, List.idxOf_append, if_neg hx]
    simp
  · rw [if_neg h]
    by_cases hm : m ∈ told
    · rw [if_pos (by simp [hm]), if_pos hm, List.idxOf_append, if_pos hm]
    · rw [if_neg (by simp [hm, h]), if_neg hm]

theorem posn_set {n x : Nat} {told : List Nat} (hx : x ∉ told) : posn n (told ++ [x]) = (posn n told).set x ((told.length : Int) + 1) := by
  apply List.ext_getElem?
  intro m
  unfold posn
  rw [List.getElem?_set, List.getElem?_map, List.getElem?_map, List.length_map, List.length_range]
  rcases Nat.lt_or_ge m n with hm | hm
  · rw [List.getElem?_range hm, Option.map_some, Option.map_some, pos_snoc hx]
    by_cases h : x = m
    · subst h; rw [if_pos rfl, if_pos rfl, if_pos hm]
    · rw [if_neg h, if_neg (fun e => h e.symm)]
  · have : (List.range n)[m]? = none := by rw [List.getElem?_eq_none_iff, List.length_range]; exact hm
    rw [this]
    by_cases h : x = m
    · subst h; rw [if_pos rfl, if_neg (by omega)]; rfl
    · rw [if_neg h]; rfl

theorem at24 {x : List GSerialTx} {told : List Nat} {b : Bool} (hin : ∀ j ∈ told, j < x.length) (hnd : told.Nodup) (hl : x.length ≤ 1000) (ht : told.length ≤ 1000) :
    iter (m3_l24_SerialOrder_s23 x (nat told, b)) fuel (0, (List.replicate (x.length : Int).toNat (0 : Int))) = some (.inr (posn x.length told)) := by
  obtain ⟨v, hv, hr⟩ := iter_inv (f := m3_l24_SerialOrder_s23 x (nat told, b)) (P := fun s => ∃ j : Nat, j ≤ told.length ∧ s = ((j : Int), posn x.length (told.take j))) (μ := fun s => told.length - s.1.toNat)
    (R := fun v => v = .inr (posn x.length told)) (by
      rintro _ ⟨j, hj, rfl⟩
      unfold m3_l24_SerialOrder_s23
      dsimp only
      rcases Nat.lt_or_ge j told.length with hlt | hge
      · left
        have hx := List.getElem?_eq_getElem hlt
        have hxn : (nat told)[j]? = some ((told[j] : Nat) : Int) := by rw [List.getElem?_map, hx]; rfl
        have hm := hin _ (List.getElem_mem hlt)
        have hnt : told[j] ∉ told.take j := fun h => by
          obtain ⟨i, hi, he⟩ := List.mem_iff_getElem.1 h
          rw [List.length_take] at hi
          rw [List.getElem_take] at he
          exact (List.pairwise_iff_getElem.1 hnd) i j (by omega) hlt (by omega) he
        have hp : pos (told.take j) told[j] = 0 := by unfold pos; rw [if_neg hnt]
        rw [if_pos (decide_eq_true (by rw [List.length_map]; omega)), idx_nat, hxn, Option.bind_some, if_neg (by rw [decide_eq_true_eq]; omega), Option.bind_some, if_neg (by rw [decide_eq_true_eq]; omega), Option.bind_some, idx_nat, posn_get _ hm, Option.bind_some, hp, if_neg (by decide)]
        unfold m3_l24_SerialOrder_k24
        dsimp only
        rw [idx_nat, hxn, Option.bind_some, idx_nat, posn_get _ hm, Option.bind_some, wI_id (by omega) (by omega)]
        refine ⟨_, rfl, ⟨j + 1, hlt, ?_⟩, by dsimp only; omega⟩
        rw [List.take_succ_eq_append_getElem hlt, posn_set hnt, List.length_take, Nat.min_eq_left hj, Int.toNat_natCast]
        rfl
      · right; left
        have e : j = told.length := by omega
        subst e
        rw [if_neg (by rw [decide_eq_true_eq, List.length_map]; omega)]
        exact ⟨_, rfl, by rw [List.take_length]⟩) fuel (0, (List.replicate (x.length : Int).toNat (0 : Int))) ⟨0, Nat.zero_le _, by
          rw [List.take_zero, Int.toNat_natCast]
          congr 1
          unfold posn pos
          apply List.ext_getElem
          · simp
          · intro i h1 h2; simp⟩ (lt_fuel (by show told.length - 0 ≤ _; omega))
  rw [hv, hr]

theorem inner3 {x : List GSerialTx} {told left : List Nat} (hL : ∀ y ∈ x, Lim2 y) (hl : x.length ≤ 1000) (ho : Ordered x told left) {i : Nat} (hi : i < x.length) :
    ∃ w, iter (m3_l24_SerialOrder_s11 x (posn x.length told) (i : Int)) fuel (false, 0) = some (.inr w) ∧ (w = true ↔ ∃ k, k < x.length ∧ ah x k i = true ∧ k ∉ told) := by
  have hnd : (told ++ left).Nodup := ho.perm.nodup_iff.2 List.nodup_range
  have hpos : ∀ m, (pos told m = 0 ↔ m ∉ told) := fun m => by
    unfold pos
    by_cases h : m ∈ told
    · rw [if_pos h]; exact ⟨fun e => by omega, fun e => absurd h e⟩
    · rw [if_neg h]; exact ⟨fun _ => h, fun _ => rfl⟩
  obtain ⟨v, hv, hr⟩ := iter_inv (f := m3_l24_SerialOrder_s11 x (posn x.length told) (i : Int)) (P := fun s => ∃ j : Nat, j ≤ x.length ∧ s.2 = (j : Int) ∧ (s.1 = true ↔ ∃ k, k < j ∧ ah x k i = true ∧ k ∉ told)) (μ := fun s => x.length - s.2.toNat)
    (R := fun v => ∃ w, v = .inr w ∧ (w = true ↔ ∃ k, k < x.length ∧ ah x k i = true ∧ k ∉ told)) (by
      rintro ⟨w, _⟩ ⟨j, hj, rfl, hw⟩
      dsimp only at hw
      unfold m3_l24_SerialOrder_s11
      dsimp only
      rcases Nat.lt_or_ge j x.length with hlt | hge
      · left
        have hx := List.getElem?_eq_getElem hlt
        have hxi := List.getElem?_eq_getElem hi
        have hah : ah x j i = aheadV x[j] x[i] := by unfold ah; rw [hx, hxi]
        rw [if_pos (decide_eq_true (by omega)), idx_nat, hx, Option.bind_some, idx_nat, hxi, Option.bind_some, ahead_m (hL _ (List.getElem_mem hlt)).l (hL _ (List.getElem_mem hi)).l, Option.bind_some, ← hah, idx_nat, posn_get _ hi, Option.bind_some, idx_nat, posn_get _ hlt]
        simp only [Option.bind_some]
        have hk15 : ∃ w', m3_l24_SerialOrder_k15 (posn x.length told) (w, (j : Int)) (ah x j i) () = some (.cont (w', ((j + 1 : Nat) : Int))) ∧ (w' = true ↔ ∃ k, k < j + 1 ∧ ah x k i = true ∧ k ∉ told) := by
          unfold m3_l24_SerialOrder_k15
          dsimp only
          rw [wI_id (by omega) (by omega)]
          cases w with
          | true =>
            rw [if_pos rfl]
            obtain ⟨k, h1, h2⟩ := hw.1 rfl
            exact ⟨true, rfl, fun _ => ⟨k, by omega, h2⟩, fun _ => rfl⟩
          | false =>
            rw [if_neg (by decide)]
            cases ha : ah x j i with
            | true =>
              rw [if_pos rfl, idx_nat, posn_get _ hlt, Option.bind_some]
              refine ⟨_, rfl, ?_⟩
              rw [decide_eq_true_eq, hpos]
              refine ⟨fun h => ⟨j, by omega, ha, h⟩, fun ⟨k, h1, h2, h3⟩ => ?_⟩
              rcases Nat.lt_succ_iff_lt_or_eq.1 h1 with h | rfl
              · exact absurd (hw.2 ⟨k, h, h2, h3⟩) (by decide)
              · exact h3
            | false =>
              rw [if_neg (by decide)]
              refine ⟨false, rfl, fun h => (by cases h), fun ⟨k, h1, h2, h3⟩ => ?_⟩
              rcases Nat.lt_succ_iff_lt_or_eq.1 h1 with h | rfl
              · exact hw.2 ⟨k, h, h2, h3⟩
              · rw [ha] at h2; cases h2
        obtain ⟨w', e, hw'⟩ := hk15
        refine ⟨(w', ((j + 1 : Nat) : Int)), ?_, ⟨j + 1, hlt, rfl, hw'⟩, by simp only [Int.toNat_natCast]; omega⟩
        by_cases hp : 0 < pos told i
        · rw [if_pos (decide_eq_true hp)]
          have hit : i ∈ told := Classical.byContradiction fun h => by have := (hpos i).2 h; omega
          cases ha : ah x j i with
          | false => rw [ha] at e; rw [if_neg (by decide)]; exact e
          | true =>
            rw [ha] at e
            have hjt : j ∈ told := by
              have : j ∈ told ++ left := ho.perm.mem_iff.2 (List.mem_range.2 hlt)
              rcases List.mem_append.1 this with h | h
              · exact h
              · rw [ho.cross i hit j h] at ha; cases ha
            have hpj : pos told j ≠ 0 := fun h => (hpos j).1 h hjt
            rw [if_pos rfl, if_neg (by rw [decide_eq_true_eq]; exact hpj), if_neg]
            · exact e
            · rw [decide_eq_true_eq]
              intro hlt'
              unfold pos at hlt'
              rw [if_pos hit, if_pos hjt] at hlt'
              have h1 := List.idxOf_lt_length_iff.2 hit
              have h2 := List.idxOf_lt_length_iff.2 hjt
              have := (List.pairwise_iff_getElem.1 ho.pw) (told.idxOf i) (told.idxOf j) h1 h2 (by omega)
              rw [List.getElem_idxOf, List.getElem_idxOf, ha] at this
              cases this
        · rw [if_neg (by rw [decide_eq_true_eq]; exact hp)]
          exact e
      · right; left
        have e : j = x.length := by omega
        subst e
        rw [if_neg (by rw [decide_eq_true_eq]; omega)]
        exact ⟨_, rfl, w, rfl, hw⟩) fuel (false, 0) ⟨0, Nat.zero_le _, rfl, fun h => (by cases h), fun ⟨k, h, _⟩ => absurd h (Nat.not_lt_zero _)⟩ (lt_fuel (by show x.length - 0 ≤ _; omega))
  obtain ⟨w, rfl, hw⟩ := hr
  exact ⟨w, hv, hw⟩

theorem outer3 {x : List GSerialTx} {told left : List Nat} (hL : ∀ y ∈ x, Lim2 y) (hl : x.length ≤ 1000) (ho : Ordered x told left) (hw : ∀ i ∈ left, ∃ j ∈ left, ah x j i = true) :
    iter (m3_l24_SerialOrder_s8 x (posn x.length told)) fuel 0 = some (.inr ()) := by
  have hnd : (told ++ left).Nodup := ho.perm.nodup_iff.2 List.nodup_range
  obtain ⟨v, hv, hr⟩ := iter_inv (f := m3_l24_SerialOrder_s8 x (posn x.length told)) (P := fun s => ∃ j : Nat, j ≤ x.length ∧ s = (j : Int)) (μ := fun s => x.length - s.toNat)
    (R := fun v => v = .inr ()) (by
      rintro _ ⟨j, hj, rfl⟩
      unfold m3_l24_SerialOrder_s8
      rcases Nat.lt_or_ge j x.length with hlt | hge
      · left
        obtain ⟨w, e, hww⟩ := inner3 hL hl ho hlt
        rw [if_pos (decide_eq_true (by omega)), e]
        refine ⟨((j + 1 : Nat) : Int), ?_, ⟨j + 1, hlt, rfl⟩, by simp only [Int.toNat_natCast]; omega⟩
        show m3_l24_SerialOrder_k9 (posn x.length told) (j : Int) w = _
        unfold m3_l24_SerialOrder_k9
        rw [idx_nat, posn_get _ hlt, Option.bind_some, wI_id (by omega) (by omega)]
        by_cases hp : pos told j = 0
        · rw [if_pos (decide_eq_true hp)]
          have hjt : j ∉ told := fun h => by unfold pos at hp; rw [if_pos h] at hp; omega
          have hjl : j ∈ left := by
            have : j ∈ told ++ left := ho.perm.mem_iff.2 (List.mem_range.2 hlt)
            rcases List.mem_append.1 this with h | h
            · exact absurd h hjt
            · exact h
          obtain ⟨k, hk, ha⟩ := hw j hjl
          have hwt : w = true := hww.2 ⟨k, List.mem_range.1 (ho.perm.mem_iff.1 (List.mem_append_right _ hk)), ha, fun h => (List.nodup_append.1 hnd).2.2 k h k hk rfl⟩
          rw [hwt]; rfl
        · rw [if_neg (by rw [decide_eq_true_eq]; exact hp)]; rfl
      · right; left
        rw [if_neg (by rw [decide_eq_true_eq]; omega)]
        exact ⟨_, rfl, rfl⟩) fuel 0 ⟨0, Nat.zero_le _, rfl⟩ (lt_fuel (by show x.length - 0 ≤ _; omega))
  rw [hv, hr]

theorem lim24 {l : List GR24Tx} (h : ∀ x ∈ l, x.Reads.length ≤ 20 ∧ x.Writes.length ≤ 20) : ∀ y ∈ l.map toS, Lim2 y := fun y hy => by
  obtain ⟨x, hx, rfl⟩ := List.mem_map.1 hy
  exact ⟨(h x hx).1, (h x hx).2⟩

theorem serialOrder_true (a0 : List GR24Tx) : m3_l24_SerialOrder a0 = some true := by
  unfold m3_l24_SerialOrder
  obtain ⟨b, hb, hb2⟩ := few24 a0
  rw [awake24, Option.bind_some, hb, Option.bind_some]
  cases b with
  | false => rfl
  | true =>
  obtain ⟨hlen, hl⟩ := hb2 rfl
  have hL := lim24 hl
  have hn : (a0.map toS).length ≤ 1000 := by rw [List.length_map]; omega
  obtain ⟨s, hs, _⟩ := sane24 hL hn
  rw [if_neg (by decide), ours24 _ hlen, Option.bind_some, hs, Option.bind_some]
  cases s with
  | false => rfl
  | true =>
  rw [if_neg (by decide)]
  unfold m3_l24_SerialOrder_k2
  obtain ⟨told, left, b, ho, e, hb', hw⟩ := order24 hL hn hs
  have hnd : (told ++ left).Nodup := ho.perm.nodup_iff.2 List.nodup_range
  have hlen' : told.length + left.length = (a0.map toS).length := by
    have := ho.perm.length_eq
    rwa [List.length_append, List.length_range] at this
  rw [ours24 _ hlen, Option.bind_some, e, Option.bind_some, if_pos ⟨by omega, Int.le_refl _, by omega⟩]
  rw [at24 (fun j hj => List.mem_range.1 (ho.perm.mem_iff.1 (List.mem_append_left _ hj))) (List.nodup_append.1 hnd).1 hn (by omega)]
  show m3_l24_SerialOrder_k6 true (a0.map toS) (nat told, b) (posn (a0.map toS).length told) = _
  unfold m3_l24_SerialOrder_k6
  rw [outer3 hL hn ho hw]
  show m3_l24_SerialOrder_k7 true (a0.map toS) (nat told, b) () = _
  unfold m3_l24_SerialOrder_k7
  dsimp only
  rw [if_pos rfl, Option.some.injEq, beq_iff_eq, Bool.eq_iff_iff, hb', decide_eq_true_eq, List.length_map]
  rw [← List.length_eq_zero_iff]
  omega
end Go.Proofs.Ytoajiidocnoopaa.Abs
