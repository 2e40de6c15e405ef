/-
  SerialBegins.
-/
import Derived.Test.YtoajiidocnoopaaOrder24
namespace Go.Proofs.Ytoajiidocnoopaa.Abs

theorem m18_head {l : List GSerialTx} (hL : ∀ x ∈ l, Lim x) {a : Nat} {rest : List Nat} (hl : ∀ j ∈ a :: rest, j < l.length) (hn : (a :: rest).length ≤ 1000)
    (h : ∀ j ∈ a :: rest, ah l j a = false) : m18_serial_rows (nat (a :: rest)) (nat (a :: rest)) l = some 0 := by
  have hp0 : (!((a :: rest).any fun j => ah l j a)) = true := by
    rw [Bool.not_eq_true']
    exact List.any_eq_false.2 fun j hj => by rw [h j hj]; decide
  unfold m18_serial_rows m30_slices_IndexFuncs
  rcases first_m (a :: rest) (fun i => !((a :: rest).any fun j => ah l j i)) (m30_slices_IndexFuncs_s2 (nat (a :: rest)) (nat (a :: rest)) l) (by omega) (fun k i hk => by
    have hlt := (List.getElem?_eq_some_iff.1 hk).1
    have hkn : (nat (a :: rest))[k]? = some (i : Int) := by rw [List.getElem?_map, hk]; rfl
    unfold m30_slices_IndexFuncs_s2 m19_serial_Order_1s
    rw [if_pos (decide_eq_true (by rw [List.length_map]; omega)), idx_nat, hkn, Option.bind_some, m20_m hL hl hn (hl i (List.mem_of_getElem? hk)), Option.bind_some, Option.bind_some, wI_id (by omega) (by omega)]
    cases ((a :: rest).any fun j => ah l j i) <;> rfl) (by
    unfold m30_slices_IndexFuncs_s2
    rw [if_neg (by rw [decide_eq_true_eq, List.length_map]; omega)]) with ⟨k, hk, e, _, hf⟩ | ⟨hp, e⟩
  · rcases Nat.eq_zero_or_pos k with h0 | h0
    · subst h0; rw [e]; rfl
    · have := hf 0 a h0 rfl
      rw [hp0] at this; cases this
  · have := hp a (List.mem_cons_self ..)
    rw [hp0] at this; cases this

/-- What stands in order already stays so. -/
theorem order_same {l : List GSerialTx} (hL : ∀ x ∈ l, Lim2 x) (hl : l.length ≤ 1000) (hs : m8_serial_Sane l = some true) (ho : ∀ i j, i < j → j < l.length → ah l j i = false) :
    m10_serial_Order l = some (nat (List.range l.length), true) := by
  unfold m10_serial_Order
  rw [hs, Option.bind_some, if_neg (by decide), range24 hl, Option.bind_some]
  unfold m10_serial_Order_k2
  obtain ⟨v, hv, hr⟩ := iter_inv (f := m10_serial_Order_s4 l) (P := fun s => ∃ k, k ≤ l.length ∧ s = (nat (List.range' k (l.length - k)), nat (List.range l.length), nat (List.range k))) (μ := fun s => s.1.length)
    (R := fun v => ∃ a b, v = .inr (a, b, nat (List.range l.length))) (by
      rintro _ ⟨k, hk, rfl⟩
      unfold m10_serial_Order_s4
      dsimp only
      rcases Nat.lt_or_ge k l.length with hlt | hge
      · left
        obtain ⟨m, hm⟩ : ∃ m, l.length - k = m + 1 := ⟨l.length - k - 1, by omega⟩
        have hin : ∀ j ∈ k :: List.range' (k + 1) m, k ≤ j ∧ j < l.length := fun j hj => by
          rw [← List.range'_succ] at hj
          have := List.mem_range'_1.1 hj
          omega
        rw [hm, List.range'_succ, if_pos (decide_eq_true (by rw [List.length_map, List.length_cons]; omega)), m18_head (fun x hx => (hL x hx).l) (fun j hj => (hin j hj).2) (by rw [List.length_cons, List.length_range']; omega) (fun j hj => by
          rcases Nat.lt_or_ge k j with h | h
          · exact ho k j h (hin j hj).2
          · have : j = k := by have := (hin j hj).1; omega
            subst this; exact ah_self l j), Option.bind_some, if_neg (by decide)]
        have hg : idx (nat (k :: List.range' (k + 1) m)) 0 = some (k : Int) := rfl
        rw [hg, Option.bind_some, if_pos (by rw [List.length_map, List.length_range, List.length_singleton]; omega)]
        have he := m22_m (left := k :: List.range' (k + 1) m) (k := 0) (by rw [List.length_cons, List.length_range']; omega) (by rw [List.length_cons]; omega)
        have he' : m22_serial_row (nat (k :: List.range' (k + 1) m)) 0 = some (nat (List.range' (k + 1) m)) := he
        rw [he', Option.bind_some]
        refine ⟨_, rfl, ⟨k + 1, hlt, ?_⟩, by simp [nat]⟩
        rw [show l.length - (k + 1) = m by omega, List.range_succ, nat, nat, nat, nat, List.map_append]; rfl
      · right; left
        have e : k = l.length := by omega
        subst e
        rw [Nat.sub_self, if_neg (by rw [decide_eq_true_eq]; exact Int.lt_irrefl _)]
        exact ⟨_, rfl, _, _, rfl⟩) fuel (nat (List.range l.length), nat (List.range l.length), []) ⟨0, Nat.zero_le _, by rw [Nat.sub_zero, ← List.range_eq_range']; rfl⟩ (lt_fuel (by dsimp only; rw [List.length_map, List.length_range]; omega))
  obtain ⟨a, b, rfl⟩ := hr
  rw [hv]
  rfl

theorem part5 {x : List GSerialTx} {told : List Nat} {b : Bool} (hin : ∀ j ∈ told, j < x.length) (hl : x.length ≤ 1000) (ht : told.length ≤ 1000) {k : Nat} (hk : k ≤ told.length) :
    iter (m5_l24_SerialBegins_s13 x (nat told, b) (k : Int)) fuel (0, ([] : List GSerialTx)) = some (.inr ((told.take k).filterMap (x[·]?))) := by
  obtain ⟨v, hv, hr⟩ := iter_inv (f := m5_l24_SerialBegins_s13 x (nat told, b) (k : Int)) (P := fun s => ∃ j : Nat, j ≤ k ∧ s = ((j : Int), (told.take j).filterMap (x[·]?))) (μ := fun s => k - s.1.toNat)
    (R := fun v => v = .inr ((told.take k).filterMap (x[·]?))) (by
      rintro _ ⟨j, hj, rfl⟩
      unfold m5_l24_SerialBegins_s13
      dsimp only
      rcases Nat.lt_or_ge j k with hlt | hge
      · left
        have hlt' : j < told.length := by omega
        have hx := List.getElem?_eq_getElem hlt'
        have hxn : (nat told)[j]? = some ((told[j] : Nat) : Int) := by rw [List.getElem?_map, hx]; rfl
        have hm := hin _ (List.getElem_mem hlt')
        have hln : ((told.take j).filterMap (x[·]?)).length ≤ 1000 := Nat.le_trans (List.length_filterMap_le ..) (by rw [List.length_take]; omega)
        rw [if_pos (decide_eq_true (by omega)), idx_nat, hxn, Option.bind_some, if_neg (by rw [decide_eq_true_eq]; omega), Option.bind_some, if_neg (by rw [decide_eq_true_eq]; omega)]
        unfold m5_l24_SerialBegins_k14
        dsimp only
        rw [idx_nat, hxn, Option.bind_some, idx_nat, List.getElem?_eq_getElem hm, Option.bind_some, if_pos (by rw [List.length_singleton]; omega), wI_id (by omega) (by omega)]
        refine ⟨_, rfl, ⟨j + 1, hlt, ?_⟩, by dsimp only; omega⟩
        rw [List.take_succ_eq_append_getElem hlt', List.filterMap_append]
        simp only [List.filterMap_cons, List.filterMap_nil, List.getElem?_eq_getElem hm]
        rfl
      · right; left
        have e : j = k := by omega
        subst e
        rw [if_neg (by rw [decide_eq_true_eq]; omega)]
        exact ⟨_, rfl, rfl⟩) fuel (0, []) ⟨0, Nat.zero_le _, by simp⟩ (lt_fuel (by show k - 0 ≤ _; omega))
  rw [hv, hr]

theorem fm_eq {x : List GSerialTx} : ∀ {js : List Nat} (h : ∀ j ∈ js, j < x.length), (js.filterMap (x[·]?)).length = js.length ∧ ∀ i (hi : i < js.length), (js.filterMap (x[·]?))[i]? = x[js[i]]?
  | [], _ => ⟨rfl, fun i hi => absurd hi (Nat.not_lt_zero _)⟩
  | j :: js, h => by
    obtain ⟨h1, h2⟩ := fm_eq (js := js) (fun k hk => h k (List.mem_cons_of_mem _ hk))
    have hj := List.getElem?_eq_getElem (h j (List.mem_cons_self ..))
    have e : (j :: js).filterMap (x[·]?) = x[j]'(h j (List.mem_cons_self ..)) :: js.filterMap (x[·]?) := by
      rw [List.filterMap_cons, hj]
    refine ⟨by rw [e, List.length_cons, List.length_cons, h1], fun i hi => ?_⟩
    cases i with
    | zero => rw [e, List.getElem_cons_zero, hj]; rfl
    | succ i => rw [e, List.getElem?_cons_succ, List.getElem_cons_succ]; exact h2 i (by rw [List.length_cons] at hi; omega)

theorem same5 {k : Nat} (hk : k ≤ 1000) (b : Bool) : iter (m5_l24_SerialBegins_s10 (nat (List.range k), b)) fuel 0 = some (.inr ()) := by
  obtain ⟨v, hv, hr⟩ := iter_inv (f := m5_l24_SerialBegins_s10 (nat (List.range k), b)) (P := fun s => ∃ j : Nat, j ≤ k ∧ s = (j : Int)) (μ := fun s => k - s.toNat)
    (R := fun v => v = .inr ()) (by
      rintro _ ⟨j, hj, rfl⟩
      unfold m5_l24_SerialBegins_s10
      dsimp only
      rcases Nat.lt_or_ge j k with hlt | hge
      · left
        have hxn : (nat (List.range k))[j]? = some (j : Int) := by rw [List.getElem?_map, List.getElem?_range hlt]; rfl
        rw [if_pos (decide_eq_true (by rw [List.length_map, List.length_range]; omega)), idx_nat, hxn, Option.bind_some, decide_eq_true rfl, if_neg (by decide), wI_id (by omega) (by omega)]
        exact ⟨_, rfl, ⟨j + 1, hlt, rfl⟩, by omega⟩
      · right; left
        rw [if_neg (by rw [decide_eq_true_eq, List.length_map, List.length_range]; omega)]
        exact ⟨_, rfl, rfl⟩) fuel 0 ⟨0, Nat.zero_le _, rfl⟩ (lt_fuel (by show k - 0 ≤ _; omega))
  rw [hv, hr]

theorem begins6 {x : List GSerialTx} {told : List Nat} {b : Bool} (hL : ∀ y ∈ x, Lim2 y) (hn : x.length ≤ 1000) (hs : m8_serial_Sane x = some true) (ho : Ordered x told []) {k : Nat} (hk : k ≤ told.length) :
    m5_l24_SerialBegins_k6 true x (nat told, b) (k : Int) = some true := by
  have hperm : told.Perm (List.range x.length) := by have := ho.perm; rwa [List.append_nil] at this
  have hnd : told.Nodup := hperm.nodup_iff.2 List.nodup_range
  have hin : ∀ j ∈ told, j < x.length := fun j hj => List.mem_range.1 (hperm.mem_iff.1 hj)
  have hlen : told.length = x.length := by rw [hperm.length_eq, List.length_range]
  have hin' : ∀ j ∈ told.take k, j < x.length := fun j hj => hin j (List.mem_of_mem_take hj)
  unfold m5_l24_SerialBegins_k6
  rw [part5 hin hn (by omega) hk]
  obtain ⟨h1, h2⟩ := fm_eq hin'
  have hpl : ((told.take k).filterMap (x[·]?)).length = k := by rw [h1, List.length_take]; omega
  have hg : ∀ i (hi : i < k), ((told.take k).filterMap (x[·]?))[i]? = x[told[i]'(Nat.lt_of_lt_of_le hi hk)]? := fun i hi => by
    rw [h2 i (by rw [List.length_take]; omega)]
    congr 1
    rw [List.getElem_take]
  clear h1 h2
  generalize hpp : (told.take k).filterMap (x[·]?) = p at *
  have hmem : ∀ y ∈ p, y ∈ x := fun y hy => by
    rw [← hpp] at hy
    obtain ⟨j, _, hj⟩ := List.mem_filterMap.1 hy
    exact List.mem_of_getElem? hj
  have hLp : ∀ y ∈ p, Lim2 y := fun y hy => hL y (hmem y hy)
  obtain ⟨sb, hsb, hsp⟩ := sane24 hL hn
  rw [hs] at hsb
  obtain rfl := Option.some.inj hsb
  obtain ⟨g1, g2, g3⟩ := hsp.1 rfl
  have hcl : ∀ a b : Nat, a ≠ b → ∀ (ha : a < x.length) (hb : b < x.length), ¬ clash x[a] x[b] := fun a b hab ha hb hc => by
    rcases Nat.lt_or_gt_of_ne hab with h | h
    · exact (List.pairwise_iff_getElem.1 g2) a b ha hb h hc
    · exact (List.pairwise_iff_getElem.1 g2) b a hb ha h (by rcases hc with hc | hc; exact .inl hc.symm; exact .inr hc.symm)
  have hsane : m8_serial_Sane p = some true := by
    obtain ⟨sb, hsb, hsp'⟩ := sane24 hLp (by omega)
    rw [hsb, hsp'.2 ⟨fun y hy => g1 y (hmem y hy), List.pairwise_iff_getElem.2 fun i j hi hj hij => ?_, by omega⟩]
    have ei := hg i (by omega)
    have ej := hg j (by omega)
    have ti := hin _ (List.getElem_mem (show i < told.length by omega))
    have tj := hin _ (List.getElem_mem (show j < told.length by omega))
    rw [List.getElem?_eq_getElem hi, List.getElem?_eq_getElem ti] at ei
    rw [List.getElem?_eq_getElem hj, List.getElem?_eq_getElem tj] at ej
    rw [Option.some.inj ei, Option.some.inj ej]
    exact hcl _ _ ((List.pairwise_iff_getElem.1 hnd) i j _ _ hij) ti tj
  have hord : ∀ i j, i < j → j < p.length → ah p j i = false := fun i j hij hj => by
    have := (List.pairwise_iff_getElem.1 ho.pw) i j (by omega) (by omega) hij
    unfold ah at this ⊢
    rw [hg i (by omega), hg j (by omega)]
    exact this
  show m5_l24_SerialBegins_k7 true (k : Int) p = _
  unfold m5_l24_SerialBegins_k7
  rw [order_same hLp (by omega) hsane hord, Option.bind_some, hpl, same5 (by omega)]
  show m5_l24_SerialBegins_k9 true (k : Int) (nat (List.range k), true) () = _
  unfold m5_l24_SerialBegins_k9
  rw [if_pos rfl, if_pos rfl, List.length_map, List.length_range, decide_eq_true rfl]

theorem serialBegins_true (a0 : List GR24Tx) (a1 : Int) : m5_l24_SerialBegins a0 a1 = some true := by
  unfold m5_l24_SerialBegins
  obtain ⟨b, hb, hb2⟩ := few24 a0
  rw [awake24, Option.bind_some, hb, Option.bind_some]
  cases b with
  | false => rfl
  | true =>
  obtain ⟨hlen, hl⟩ := hb2 rfl
  have hL := lim24 hl
  have hn : (a0.map toS).length ≤ 1000 := by rw [List.length_map]; omega
  obtain ⟨s, hs, _⟩ := sane24 hL hn
  rw [if_neg (by decide), ours24 _ hlen, Option.bind_some]
  cases s with
  | false =>
    have : m10_serial_Order (a0.map toS) = some ([], false) := by
      unfold m10_serial_Order; rw [hs]; rfl
    rw [this]; rfl
  | true =>
  obtain ⟨told, left, b, ho, e, hb', hw⟩ := order24 hL hn hs
  rw [e, Option.bind_some]
  cases b with
  | false => rfl
  | true =>
  obtain rfl := hb'.1 rfl
  have hperm : told.Perm (List.range (a0.map toS).length) := by have := ho.perm; rwa [List.append_nil] at this
  have hlen' : told.length = (a0.map toS).length := by rw [hperm.length_eq, List.length_range]
  have h9 : decide (((nat told).length : Int) = ((a0.map toS).length : Int)) = true := decide_eq_true (by rw [List.length_map]; omega)
  dsimp only
  rw [if_neg (by decide), h9, if_neg (by decide)]
  unfold m5_l24_SerialBegins_k5
  dsimp only
  by_cases h0 : 0 < ((nat told).length : Int)
  · rw [if_pos (decide_eq_true h0), if_pos (by omega)]
    have hb : (BitVec.ofInt 64 a1 &&& BitVec.ofInt 64 255).toNat ≤ 255 := by
      rw [BitVec.toNat_and]
      exact Nat.and_le_right
    rw [wI_id (by omega) (by omega)]
    have hm : ((BitVec.ofInt 64 a1 &&& BitVec.ofInt 64 255).toNat : Int).tmod ((nat told).length : Int) = (((BitVec.ofInt 64 a1 &&& BitVec.ofInt 64 255).toNat % told.length : Nat) : Int) := by
      rw [List.length_map]; rfl
    rw [hm]
    rw [List.length_map] at h0
    exact begins6 hL hn hs ho (Nat.le_of_lt (Nat.mod_lt _ (by omega)))
  · rw [if_neg (by rw [decide_eq_true_eq]; exact h0)]
    exact begins6 (k := 0) hL hn hs ho (Nat.zero_le _)
end Go.Proofs.Ytoajiidocnoopaa.Abs
