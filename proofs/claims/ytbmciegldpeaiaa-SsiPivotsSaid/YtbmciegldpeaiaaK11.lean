/-
  What the calls of ssi compute.
-/
import Derived.Test.YtbmciegldpeaiaaM11
namespace Go.Proofs.Ytbmciegldpeaiaa.Abs


theorem ids_m (l : List GSsiTx) (h : l.length ≤ 1000000) : m33_ssi_ids l = some (l.map (·.ID)) := by
  unfold m33_ssi_ids
  rw [collB l (fun x => [x.ID]) (m33_ssi_ids_s2 l) 1 (fun x => by simp) (by omega) (fun i x acc hx ha => by
    have hlt := (List.getElem?_eq_some_iff.1 hx).1
    unfold m33_ssi_ids_s2
    dsimp only
    rw [if_pos (decide_eq_true (by omega)), idx_nat, hx, Option.bind_some, if_pos (by rw [List.length_singleton]; omega), wI_id (by omega) (by omega)]
    rfl) (fun acc => by
    unfold m33_ssi_ids_s2
    dsimp only
    rw [if_neg (by rw [decide_eq_true_eq]; omega)]), Option.bind_some, flat_one]
  rfl

theorem sorted_pw {xs : Keys} (hn : xs.length ≤ 1000000000000000000) (h : m72_keys_Sorted xs = some true) : PW xs := by
  obtain ⟨v, hv, hr⟩ := iter_inv (f := m72_keys_Sorted_s2 xs) (P := fun s => ∃ i : Nat, s = (i : Int) ∧ 1 ≤ i ∧ ∀ j a b, j + 1 < i → xs[j]? = some a → xs[j + 1]? = some b → cmpL a b < 0) (μ := fun s => xs.length - s.toNat)
    (R := fun v => match v with | .inl r => r = false | .inr _ => ∀ j a b, xs[j]? = some a → xs[j + 1]? = some b → cmpL a b < 0) (by
    rintro _ ⟨i, rfl, h1, h2⟩
    unfold m72_keys_Sorted_s2
    by_cases hi : i < xs.length
    · have e1 := List.getElem?_eq_getElem hi
      have e2 := List.getElem?_eq_getElem (show i - 1 < xs.length by omega)
      rw [if_pos (decide_eq_true (by omega)), wI_id (by omega) (by omega), show (i : Int) - 1 = ((i - 1 : Nat) : Int) from by omega, idx_nat, idx_nat, e1, e2]
      simp only [Option.bind_some, cmp_m]
      by_cases hc : 0 ≤ cmpL xs[i - 1] xs[i]
      · right; right
        rw [if_pos (decide_eq_true hc)]
        exact ⟨_, rfl, rfl⟩
      · left
        rw [if_neg (by rw [decide_eq_true_eq]; omega)]
        refine ⟨_, rfl, ⟨i + 1, by rw [wI_id (by omega) (by omega)]; rfl, by omega, fun j a b hj ha hb => ?_⟩, by rw [wI_id (by omega) (by omega)]; omega⟩
        rcases Nat.lt_or_ge (j + 1) i with hlt | hge
        · exact h2 j a b hlt ha hb
        · have : j = i - 1 := by omega
          subst this
          rw [show i - 1 + 1 = i from by omega] at hb
          rw [e2] at ha; rw [e1] at hb
          rw [← Option.some.inj ha, ← Option.some.inj hb]; omega
    · right; left
      rw [if_neg (by rw [decide_eq_true_eq]; omega)]
      refine ⟨_, rfl, fun j a b ha hb => h2 j a b ?_ ha hb⟩
      have := (List.getElem?_eq_some_iff.1 hb).1
      omega) fuel 1 ⟨1, rfl, Nat.le_refl _, fun j _ _ hj => by omega⟩ (lt_fuel (by show xs.length - 1 ≤ _; omega))
  unfold m72_keys_Sorted at h
  rw [hv] at h
  cases v with
  | inl r =>
    have hr : r = false := hr
    rw [hr] at h; cases h
  | inr u =>
    have key : ∀ d i a b, xs[i]? = some a → xs[i + (d + 1)]? = some b → cmpL a b < 0 := fun d => by
      induction d with
      | zero => exact hr
      | succ d ih =>
        intro i a b ha hb
        have hlt := (List.getElem?_eq_some_iff.1 hb).1
        have hm := List.getElem?_eq_getElem (show i + (d + 1) < xs.length by omega)
        have h1 := ih i a _ ha hm
        have h2 := hr _ _ _ hm (by rw [show i + (d + 1) + 1 = i + (d + 1 + 1) from by omega]; exact hb)
        exact (cmpL_trans (Int.le_of_lt h1) (Int.le_of_lt h2)).2 (.inl h1)
    refine List.pairwise_iff_getElem.2 fun i j hi hj hij => ?_
    refine key (j - i - 1) i _ _ (List.getElem?_eq_getElem hi) ?_
    rw [show i + (j - i - 1 + 1) = j from by omega]
    exact List.getElem?_eq_getElem hj

/-- Keys that may be. -/
structure KS (K : Keys) : Prop where
  each : ∀ k ∈ K, 1 ≤ k.length ∧ k.length ≤ 16
  pw : PW K
theorem saneKey_m (k : List UInt8) : m71_keys_Sane k = some (decide (1 ≤ k.length ∧ k.length ≤ 16)) := by
  unfold m71_keys_Sane
  by_cases h1 : (1 : Int) ≤ k.length
  · rw [if_pos (decide_eq_true h1)]
    congr 1
    rw [decide_eq_decide]; omega
  · rw [if_neg (by rw [decide_eq_true_eq]; exact h1), decide_eq_false (by omega)]
theorem saneKeys_m (K : Keys) (hn : K.length ≤ 1000000000000000000) : ∃ b, m54_ssi_saneKeys K = some b ∧ (b = true ↔ KS K) := by
  unfold m54_ssi_saneKeys
  rw [allR K (fun k => decide (1 ≤ k.length ∧ k.length ≤ 16)) false (m54_ssi_saneKeys_s3 K) hn (fun i x hx => by
    have hlt := (List.getElem?_eq_some_iff.1 hx).1
    unfold m54_ssi_saneKeys_s3
    rw [if_pos (decide_eq_true (by omega)), idx_nat, hx, Option.bind_some, saneKey_m, Option.bind_some, wI_id (by omega) (by omega)]
    cases decide (1 ≤ x.length ∧ x.length ≤ 16) <;> rfl) (by
    unfold m54_ssi_saneKeys_s3
    rw [if_neg (by rw [decide_eq_true_eq]; omega)])]
  cases ha : K.all (fun k => decide (1 ≤ k.length ∧ k.length ≤ 16)) with
  | false =>
    refine ⟨false, rfl, (fun h => by cases h), fun h => ?_⟩
    rw [List.all_eq_true.2 fun k hk => decide_eq_true (h.each k hk)] at ha; cases ha
  | true =>
    show ∃ b, m54_ssi_saneKeys_k1 K () = some b ∧ _
    unfold m54_ssi_saneKeys_k1
    obtain ⟨v, hv⟩ := sorted_some K hn
    rw [hv]
    refine ⟨v, rfl, ?_⟩
    constructor
    · intro h
      rw [h] at hv
      exact ⟨fun k hk => of_decide_eq_true (List.all_eq_true.1 ha k hk), sorted_pw hn hv⟩
    · intro h
      rw [sorted_m h.pw hn] at hv
      exact (Option.some.inj hv).symm
theorem KS.nil : KS [] := ⟨fun k h => by simp at h, List.Pairwise.nil⟩

theorem saneTx_t {x : GSsiTx} (h : SaneT x KS) (hn : x.Keys.length ≤ 1000000000000000000) : m30_ssi_saneTx x = some true := by
  unfold m30_ssi_saneTx
  have h1 := h.id
  have h2 := h.beg
  have h2' : x.Begin ≤ 1099511627776 := h2.2
  rw [if_neg (by rw [decide_eq_true_eq]; omega), if_neg (by rw [decide_eq_true_eq]; omega), if_neg (by rw [decide_eq_true_eq]; omega)]
  unfold m30_ssi_saneTx_k1
  rcases h.st with ⟨a, b, c⟩ | ⟨a, b, c, d, e⟩
  · rw [if_pos (decide_eq_true a), if_pos (decide_eq_true b), c]; rfl
  · have c' : x.End ≤ 1099511627776 := c
    rw [if_neg (by rw [decide_eq_true_eq]; omega), if_pos (decide_eq_true a), if_pos (decide_eq_true b), if_pos (decide_eq_true c')]
    obtain ⟨v, hv, hi⟩ := saneKeys_m x.Keys hn
    rw [hv, Option.bind_some, hi.2 d, if_pos rfl]
    cases hro : x.RO with
    | false => rfl
    | true =>
      have : x.Keys = [] := by
        rcases List.eq_nil_or_concat x.Keys with h | h
        · exact h
        · exact absurd ⟨hro, by rw [show x.Keys = _ from h.choose_spec.choose_spec]; simp⟩ e
      rw [if_pos rfl, this]; rfl

/-- A certificate that may be. -/
structure SC (c : GSsiCert) : Prop where
  gr : Good c.Reads.L
  ri : ∀ r ∈ c.Reads.L, ∃ x ∈ c.Txs, x.ID = r.Tx
  len : c.Txs.length ≤ 64
  each : ∀ x ∈ c.Txs, SaneT x KS
  ids : c.Txs.Pairwise (fun x y => x.ID ≠ y.ID)
  ends : ∀ x ∈ c.Txs, ∀ y ∈ c.Txs, x.State = 2 → y.State = 2 → x.End = y.End → x.ID = y.ID
  keys : ∀ x ∈ c.Txs, x.Keys.length ≤ 10
theorem SC.one {c : GSsiCert} (h : SC c) {x y : GSsiTx} (hx : x ∈ c.Txs) (hy : y ∈ c.Txs) (e : x.ID = y.ID) : x = y := pw_eq h.ids hx hy (fun n => n e) (fun n => n e.symm)
theorem SC.st {c : GSsiCert} (h : SC c) {x : GSsiTx} (hx : x ∈ c.Txs) : x.State = 1 ∨ x.State = 2 := by
  rcases (h.each x hx).st with h | h
  · exact .inl h.1
  · exact .inr h.1

theorem clash_m (a b : GSsiTx) (h1 : a.ID ≠ b.ID) (h2 : ¬ (a.State = 2 ∧ b.State = 2 ∧ a.End = b.End)) : m31_ssi_clash a b = some false := by
  have key : ∀ w, m31_ssi_clash_k1 a b w = some false := fun w => by
    unfold m31_ssi_clash_k1
    rw [if_neg (by rw [decide_eq_true_eq]; exact h1)]
    by_cases c1 : a.State = 2
    · rw [if_pos (decide_eq_true c1)]
      by_cases c2 : b.State = 2
      · rw [if_pos (decide_eq_true c2), if_neg (by rw [decide_eq_true_eq]; exact fun c3 => h2 ⟨c1, c2, c3⟩)]
      · rw [if_neg (by rw [decide_eq_true_eq]; exact c2)]
    · rw [if_neg (by rw [decide_eq_true_eq]; exact c1)]
  unfold m31_ssi_clash
  rw [key, key]
  split <;> rfl

theorem eta_c (c : GSsiCert) : (⟨c.Txs, ⟨c.Reads.L⟩⟩ : GSsiCert) = c := rfl
theorem sane_c {c : GSsiCert} (h : SC c) : m13_ssi_Sane c = some true := by
  unfold m13_ssi_Sane
  have hl := h.len
  rw [if_neg (by rw [decide_eq_true_eq]; omega), show (⟨c.Reads.L⟩ : GReadsTable) = ⟨c.Reads.L⟩ from rfl, sane_t h.gr, Option.bind_some, if_neg (nn (by rfl))]
  unfold m13_ssi_Sane_k1
  rw [allT c.Txs (m13_ssi_Sane_s5 c) (by omega) (fun i x hx => by
    have hlt := (List.getElem?_eq_some_iff.1 hx).1
    have hxm := List.mem_of_getElem? hx
    unfold m13_ssi_Sane_s5
    rw [if_pos (decide_eq_true (by omega)), idx_nat, hx, Option.bind_some, saneTx_t (h.each x hxm) (by have := h.keys x hxm; omega), Option.bind_some, if_neg (nn (by rfl)), cut_of (Int.le_refl _) (Int.natCast_nonneg _) (by omega), Option.bind_some]
    rw [show (c.Txs.drop (0 : Int).toNat).take ((i : Int).toNat - (0 : Int).toNat) = c.Txs.take i from rfl]
    rw [allT (c.Txs.take i) (m13_ssi_Sane_s10 x (c.Txs.take i)) (by rw [List.length_take]; omega) (fun j y hy => by
      have hj := (List.getElem?_eq_some_iff.1 hy).1
      have hjl : j < i := by rw [List.length_take] at hj; omega
      have hy' : c.Txs[j]? = some y := by rw [List.getElem?_take_of_lt hjl] at hy; exact hy
      have hne : x.ID ≠ y.ID := by
        obtain ⟨p1, p2⟩ := List.getElem?_eq_some_iff.1 hy'
        obtain ⟨q1, q2⟩ := List.getElem?_eq_some_iff.1 hx
        have := List.pairwise_iff_getElem.1 h.ids j i p1 q1 hjl
        rw [p2, q2] at this
        exact fun e => this e.symm
      unfold m13_ssi_Sane_s10
      rw [if_pos (decide_eq_true (by omega)), idx_nat, hy, Option.bind_some, clash_m _ _ hne (fun hc => hne (h.ends x hxm y (List.mem_of_getElem? hy') hc.1 hc.2.1 hc.2.2)), Option.bind_some, if_neg (nn (by rfl)), wI_id (by omega) (by omega)]
      rfl) (by
      unfold m13_ssi_Sane_s10
      rw [if_neg (by rw [decide_eq_true_eq]; omega)]), Option.bind_some]
    show m13_ssi_Sane_k9 _ _ = _
    unfold m13_ssi_Sane_k9
    rw [wI_id (by omega) (by omega)]; rfl) (by
    unfold m13_ssi_Sane_s5
    rw [if_neg (by rw [decide_eq_true_eq]; omega)]), Option.bind_some]
  show m13_ssi_Sane_k2 _ _ = _
  unfold m13_ssi_Sane_k2
  rw [ids_m _ (by omega), Option.bind_some, drop_m (by have := h.gr.len; omega) _ (by rw [List.length_map]; omega), Option.bind_some]
  have : onlyV c.Reads.L (c.Txs.map (·.ID)) false = [] := by
    unfold onlyV
    refine List.filter_eq_nil_iff.2 fun r hr => ?_
    obtain ⟨x, hx, e⟩ := h.ri r hr
    rw [decide_eq_true (List.mem_map.2 ⟨x, hx, e⟩)]; decide
  rw [this]; rfl

theorem index_m (xs : List Int) (t : Int) (hl : xs.length ≤ 1000000) : (t ∉ xs ∧ m58_slices_Index xs t = some (-1)) ∨ ∃ i : Nat, xs[i]? = some t ∧ m58_slices_Index xs t = some (i : Int) := by
  unfold m58_slices_Index
  obtain ⟨v, hv, hr⟩ := iter_inv (f := m58_slices_Index_s2 xs t) (P := fun s => ∃ i : Nat, i ≤ xs.length ∧ s = (i : Int) ∧ t ∉ xs.take i) (μ := fun s => xs.length - s.toNat)
    (R := fun x => match x with | .inl r => ∃ i : Nat, xs[i]? = some t ∧ r = (i : Int) | .inr _ => t ∉ xs) (by
      rintro _ ⟨i, hi, rfl, hp⟩
      unfold m58_slices_Index_s2
      rcases Nat.lt_or_ge i xs.length with hlt | hge
      · have hx := List.getElem?_eq_getElem hlt
        rw [if_pos (decide_eq_true (by omega)), idx_nat, hx, Option.bind_some, wI_id (by omega) (by omega)]
        by_cases he : t = xs[i]
        · rw [if_pos (decide_eq_true he)]
          exact .inr (.inr ⟨_, rfl, i, by rw [hx, ← he], rfl⟩)
        · rw [if_neg (by rw [decide_eq_true_eq]; exact he)]
          refine .inl ⟨_, rfl, ⟨i + 1, hlt, rfl, ?_⟩, by simp only [Int.toNat_natCast]; omega⟩
          rw [List.take_succ_eq_append_getElem hlt, List.mem_append, List.mem_singleton]
          rintro (h | h)
          · exact hp h
          · exact he h
      · have e : i = xs.length := by omega
        subst e
        rw [if_neg (by rw [decide_eq_true_eq]; omega)]
        rw [List.take_length] at hp
        exact .inr (.inl ⟨_, rfl, hp⟩)) fuel 0 ⟨0, Nat.zero_le _, rfl, by simp⟩ (lt_fuel (by show xs.length - 0 ≤ _; omega))
  rw [hv]
  cases v with
  | inl r =>
    obtain ⟨i, h1, h2⟩ := hr
    refine .inr ⟨i, h1, ?_⟩
    rw [h2]; rfl
  | inr u => exact .inl ⟨hr, rfl⟩
theorem place_m (c : GSsiCert) (id : Int) (hl : c.Txs.length ≤ 1000000) : ((∀ x ∈ c.Txs, x.ID ≠ id) ∧ m37_ssi_place c id = some (-1)) ∨ ∃ (i : Nat) (x : GSsiTx), c.Txs[i]? = some x ∧ x.ID = id ∧ m37_ssi_place c id = some (i : Int) := by
  unfold m37_ssi_place
  rw [ids_m _ hl, Option.bind_some]
  rcases index_m (c.Txs.map (·.ID)) id (by rw [List.length_map]; exact hl) with ⟨h, e⟩ | ⟨i, h, e⟩
  · left
    rw [e]
    exact ⟨fun x hx e' => h (List.mem_map.2 ⟨x, hx, e'⟩), rfl⟩
  · right
    rw [List.getElem?_map] at h
    cases hx : c.Txs[i]? with
    | none => rw [hx] at h; cases h
    | some x =>
      rw [hx] at h
      refine ⟨i, x, hx, Option.some.inj h, ?_⟩
      rw [e]; rfl
theorem active_m {c : GSsiCert} (h : SC c) (id : Int) : ((∀ x ∈ c.Txs, x.ID = id → x.State ≠ 1) ∧ m35_ssi_active c id = some (-1)) ∨ ∃ (i : Nat) (x : GSsiTx), c.Txs[i]? = some x ∧ x.ID = id ∧ x.State = 1 ∧ m35_ssi_active c id = some (i : Int) := by
  unfold m35_ssi_active
  rw [show (⟨c.Txs, ⟨c.Reads.L⟩⟩ : GSsiCert) = c from rfl]
  rcases place_m c id (by have := h.len; omega) with ⟨h1, e⟩ | ⟨i, x, hx, e1, e⟩
  · rw [e, Option.bind_some]
    exact .inl ⟨fun x hx e => absurd e (h1 x hx), rfl⟩
  · rw [e, Option.bind_some, if_neg (by rw [decide_eq_true_eq]; omega), idx_nat, hx, Option.bind_some]
    by_cases hs : x.State = 1
    · rw [decide_eq_true hs]
      exact .inr ⟨i, x, hx, e1, hs, rfl⟩
    · rw [decide_eq_false hs]
      refine .inl ⟨fun y hy ey => ?_, rfl⟩
      rw [h.one hy (List.mem_of_getElem? hx) (ey.trans e1.symm)]
      exact hs

abbrev cN : GSsiCert := ⟨[], ⟨[]⟩⟩
theorem begin_m {c : GSsiCert} (h : SC c) (id snap : Int) (ro : Bool) (h0 : 0 ≤ id) (h1 : 0 ≤ snap) (h2 : snap ≤ maxTs) :
    ((∃ x ∈ c.Txs, x.ID = id) ∧ m17_ssi_Begin c id snap ro = some (cN, 7)) ∨ ((∀ x ∈ c.Txs, x.ID ≠ id) ∧ (64 ≤ c.Txs.length ∧ m17_ssi_Begin c id snap ro = some (cN, 8) ∨ c.Txs.length < 64 ∧ m17_ssi_Begin c id snap ro = some (⟨c.Txs ++ [⟨id, snap, 0, 1, false, false, ro, []⟩], c.Reads⟩, 0))) := by
  unfold m17_ssi_Begin
  have hl := h.len
  rw [show (⟨c.Txs, ⟨c.Reads.L⟩⟩ : GSsiCert) = c from rfl, sane_c h, Option.bind_some, if_neg (nn (by rfl)), saneTx_t ⟨h0, ⟨h1, h2⟩, .inl ⟨rfl, rfl, rfl⟩⟩ (by simp), Option.bind_some, if_neg (nn (by rfl))]
  rcases place_m c id (by omega) with ⟨h1, e⟩ | ⟨i, x, hx, e1, e⟩
  · right
    refine ⟨h1, ?_⟩
    rw [e, Option.bind_some, if_neg (by decide)]
    by_cases h64 : 64 ≤ c.Txs.length
    · rw [if_pos (decide_eq_true (by omega))]
      exact .inl ⟨h64, rfl⟩
    · rw [if_neg (by rw [decide_eq_true_eq]; omega), m38_slices_Concat_m _ (by simp; omega) (by simp)]
      refine .inr ⟨by omega, ?_⟩
      simp
  · left
    refine ⟨⟨x, List.mem_of_getElem? hx, e1⟩, ?_⟩
    rw [e, Option.bind_some, if_pos (decide_eq_true (by omega))]

theorem wroteIn_m (x : GSsiTx) (r : GApiRange) (hl : x.Keys.length ≤ 1000000) : m42_ssi_wroteIn x r = some (metV r x.Keys) := by
  unfold m42_ssi_wroteIn
  rw [scanR x.Keys (hasV r) (fun _ => true) (m42_ssi_wroteIn_s2 x r) (by omega) (fun i k hk => by
    have hlt := (List.getElem?_eq_some_iff.1 hk).1
    unfold m42_ssi_wroteIn_s2
    rw [if_pos (decide_eq_true (by omega)), idx_nat, hk, Option.bind_some, show (⟨r.Lo, r.Hi, r.Open⟩ : GApiRange) = r from rfl, has_m, Option.bind_some, wI_id (by omega) (by omega)]
    cases hasV r k <;> rfl) (by
    unfold m42_ssi_wroteIn_s2
    rw [if_neg (by rw [decide_eq_true_eq]; omega)]), Option.bind_some]
  unfold metV
  cases hf : x.Keys.find? (hasV r) with
  | none =>
    rw [show x.Keys.any (hasV r) = false from List.any_eq_false.2 fun k hk => by have := List.find?_eq_none.1 hf k hk; simpa using this]; rfl
  | some k => rw [List.any_eq_true.2 ⟨k, List.mem_of_find?_eq_some hf, by have := List.find?_some hf; exact this⟩]
theorem beside_a (x a : GSsiTx) (ha : a.State = 1) : m41_ssi_beside x a = some (!(decide (x.State = 2) && decide (x.End ≤ a.Begin))) := by
  unfold m41_ssi_beside m62_ssi_ended
  rw [if_neg (show ¬ decide (a.State = 2) = true by rw [ha]; decide)]
  by_cases hs : x.State = 2
  · rw [if_pos (decide_eq_true hs), decide_eq_true hs, Bool.true_and, Option.bind_some]
    cases decide (x.End ≤ a.Begin) <;> rfl
  · rw [if_neg (by rw [decide_eq_true_eq]; exact hs), decide_eq_false hs]; rfl
theorem beside_b (x a : GSsiTx) (ha : a.State = 1) : m41_ssi_beside a x = some (!(decide (x.State = 2) && decide (x.End ≤ a.Begin))) := by
  unfold m41_ssi_beside m62_ssi_ended
  rw [if_neg (show ¬ decide (a.State = 2) = true by rw [ha]; decide)]
  by_cases hs : x.State = 2
  · rw [if_pos (decide_eq_true hs), decide_eq_true hs, Bool.true_and, Option.bind_some]
    cases decide (x.End ≤ a.Begin) <;> rfl
  · rw [if_neg (by rw [decide_eq_true_eq]; exact hs), decide_eq_false hs]; rfl
end Go.Proofs.Ytbmciegldpeaiaa.Abs
