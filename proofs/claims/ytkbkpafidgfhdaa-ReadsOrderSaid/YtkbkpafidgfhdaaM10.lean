/-
  A hundred and twenty-eight reads; whatever their order; and what the document says of them.
-/
import Derived.Test.YtkbkpafidgfhdaaL10
namespace Go.Proofs.Ytkbkpafidgfhdaa.Abs

theorem riseV_self {l : List Int} (h : RiseI l) : riseV l = l := riseI_ext (riseV_rise l) h fun _ => riseV_mem

def oneR (k : List UInt8) : GApiRange := ⟨k, k ++ [0], false⟩
theorem one_m {k : List UInt8} (h : k.length ≤ 1000) : m31_r06_One k = some (oneR k) := by
  unfold m31_r06_One
  rw [if_pos (by rw [List.length_nil]; omega), if_pos (by rw [List.nil_append, List.length_singleton]; omega)]
  rfl
theorem oneR_has (k : List UInt8) : hasV (oneR k) k = true := by
  unfold hasV oneR
  dsimp only
  rw [cmpL_self, cmpL_app0]
  decide
theorem oneR_sane {k : List UInt8} (h1 : 1 ≤ k.length) (h16 : k.length ≤ 16) (t : Nat) : srV ⟨(t : Int), oneR k⟩ = true := by
  have : m32_reads_saneRead ⟨(t : Int), oneR k⟩ = some true := by
    unfold m32_reads_saneRead m45_keys_SaneRange m46_keys_Empty m46_keys_Empty_k1 oneR
    dsimp only
    have hc : cmpL (k ++ [0]) k = 1 := by rw [cmpL_swap, cmpL_app0]; rfl
    rw [if_pos (decide_eq_true (by omega)), if_pos (decide_eq_true (by omega)), if_pos (decide_eq_true (by rw [List.length_append, List.length_singleton]; omega)), if_neg (by decide), Option.bind_some, if_pos rfl, if_neg (by decide), if_neg (by rw [decide_eq_true_eq]; omega), if_neg (by decide), cmp_m, hc]
    rfl
  unfold srV
  rw [this]; rfl

def full128 (k : List UInt8) (n : Nat) : List GReadsRead := (List.range n).map fun (i : Nat) => ⟨(i : Int), oneR k⟩
theorem full_len (k : List UInt8) (n : Nat) : (full128 k n).length = n := by unfold full128; simp
theorem full_mem {k : List UInt8} {n : Nat} {x : GReadsRead} : x ∈ full128 k n ↔ ∃ i : Nat, i < n ∧ x = ⟨(i : Int), oneR k⟩ := by
  unfold full128
  rw [List.mem_map]
  constructor
  · rintro ⟨i, hi, rfl⟩; exact ⟨i, List.mem_range.1 hi, rfl⟩
  · rintro ⟨i, hi, rfl⟩; exact ⟨i, List.mem_range.2 hi, rfl⟩
theorem full_tx (k : List UInt8) (n : Nat) : RiseI ((full128 k n).map (·.Tx)) := by
  unfold full128
  rw [List.map_map]
  refine List.pairwise_map.2 ((List.pairwise_lt_range (n := n)).imp fun h => ?_)
  show ((_ : Nat) : Int) < ((_ : Nat) : Int)
  exact Int.ofNat_lt.2 h
theorem full_hits {k : List UInt8} {l : List GReadsRead} (hl : ∀ x ∈ l, x.Rng = oneR k) : hitTx l k = l.map (·.Tx) := by
  unfold hitTx
  rw [List.filter_eq_self.2 fun x hx => by rw [hl x hx, oneR_has]]

theorem and127 (a0 : Int) : ∃ n : Nat, n < 128 ∧ ((BitVec.ofInt 64 a0 &&& BitVec.ofInt 64 127).toNat : Int) = (n : Int) := by
  refine ⟨(BitVec.ofInt 64 a0 &&& BitVec.ofInt 64 127).toNat, ?_, rfl⟩
  rw [BitVec.toNat_and]
  exact Nat.lt_of_le_of_lt Nat.and_le_right (by decide)

theorem readsFull_true (a0 : Int) (a1 : List UInt8) : m6_l10_ReadsFull a0 a1 = some true := by
  unfold m6_l10_ReadsFull
  rw [awake10, Option.bind_some]
  by_cases h1 : ((a1.length : Int) < 1)
  · rw [if_pos (decide_eq_true h1)]
  rw [if_neg (by rw [decide_eq_true_eq]; exact h1)]
  by_cases h16 : (16 : Int) < a1.length
  · rw [if_pos (decide_eq_true h16)]
  rw [if_neg (by rw [decide_eq_true_eq]; exact h16)]
  unfold m6_l10_ReadsFull_k2
  have hs : ∀ t : Nat, srV ⟨(t : Int), oneR a1⟩ = true := fun t => oneR_sane (by omega) (by omega) t
  have hnotin : ∀ n t : Nat, n ≤ t → (⟨(t : Int), oneR a1⟩ : GReadsRead) ∉ full128 a1 n := fun n t h hm => by
    obtain ⟨i, hi, he⟩ := full_mem.1 hm
    have : (t : Int) = (i : Int) := congrArg GReadsRead.Tx he
    omega
  obtain ⟨v, hv, hg, rfl⟩ := iter_inv (f := m6_l10_ReadsFull_s13 a1) (P := fun s => ∃ i : Nat, i ≤ 128 ∧ s = ((i : Int), full128 a1 i) ∧ Good (full128 a1 i)) (μ := fun s => 128 - s.1.toNat) (R := fun x => Good (full128 a1 128) ∧ x = .inr (full128 a1 128)) (by
    rintro _ ⟨i, hi, rfl, hg⟩
    unfold m6_l10_ReadsFull_s13
    dsimp only
    rcases Nat.lt_or_ge i 128 with hlt | hge
    · rw [if_pos (decide_eq_true (by omega)), one_m (by omega), Option.bind_some, wI_id (by omega) (by omega)]
      have hfl := full_len a1 i
      rcases add_m (l := full128 a1 i) (by omega) (i : Int) (oneR a1) with ⟨_, _, ⟨hin, _⟩ | ⟨_, ⟨h8, _⟩ | ⟨_, he, hg'⟩⟩⟩ | ⟨hno, _⟩
      · exact absurd hin (hnotin i i (Nat.le_refl _))
      · omega
      · have e : full128 a1 i ++ [⟨(i : Int), oneR a1⟩] = full128 a1 (i + 1) := by unfold full128; rw [List.range_succ, List.map_append]; rfl
        rw [e] at he hg'
        rw [he, Option.bind_some]
        dsimp only
        rw [if_neg (nn (by rfl))]
        exact .inl ⟨_, rfl, ⟨i + 1, by omega, rfl, hg'⟩, by dsimp only; omega⟩
      · exact absurd ⟨hg, hs i⟩ hno
    · have e : i = 128 := by omega
      subst e
      rw [if_neg (by rw [decide_eq_true_eq]; omega)]
      exact .inr (.inl ⟨_, rfl, hg, rfl⟩)) fuel (0, []) ⟨0, by decide, rfl, Good.nil⟩ (lt_fuel (by show 128 - 0 ≤ _; omega))
  rw [hv, Option.bind_some]
  dsimp only
  unfold m6_l10_ReadsFull_k3
  obtain ⟨n, hn, e⟩ := and127 a0
  rw [e, wI_id (n := (n : Int)) (by omega) (by omega), one_m (by omega), Option.bind_some]
  have hfl := full_len a1 128
  have hA1 : m12_reads_Add ⟨full128 a1 128⟩ 500 (oneR a1) = some (⟨[]⟩, 8) := by
    rcases add_m (l := full128 a1 128) (by omega) 500 (oneR a1) with ⟨_, _, ⟨hin, _⟩ | ⟨_, ⟨_, he⟩ | ⟨h8, _, _⟩⟩⟩ | ⟨hno, _⟩
    · exact absurd hin (hnotin 128 500 (by decide))
    · exact he
    · omega
    · exact absurd ⟨hg, hs 500⟩ hno
  have hA2 : m12_reads_Add ⟨full128 a1 128⟩ (n : Int) (oneR a1) = some (⟨full128 a1 128⟩, 0) := by
    rcases add_m (l := full128 a1 128) (by omega) (n : Int) (oneR a1) with ⟨_, _, ⟨_, he⟩ | ⟨hin, _⟩⟩ | ⟨hno, _⟩
    · exact he
    · exact absurd (full_mem.2 ⟨n, hn, rfl⟩) hin
    · exact absurd ⟨hg, hs n⟩ hno
  have hdm : ∀ x, x ∈ onlyV (full128 a1 128) [(n : Int)] false ↔ ∃ i : Nat, i < 128 ∧ i ≠ n ∧ x = ⟨(i : Int), oneR a1⟩ := fun x => by
    rw [onlyV_mem, full_mem]
    constructor
    · rintro ⟨⟨i, hi, rfl⟩, hx⟩
      refine ⟨i, hi, fun he => ?_, rfl⟩
      subst he
      simp at hx
    · rintro ⟨i, hi, hne, rfl⟩
      refine ⟨⟨i, hi, rfl⟩, decide_eq_false ?_⟩
      show ¬ ((i : Int) ∈ [(n : Int)])
      rw [List.mem_singleton]; omega
  have hdl : (onlyV (full128 a1 128) [(n : Int)] false).length = 127 := by
    have hp := filter_parts (fun x : GReadsRead => decide (x.Tx ∈ [(n : Int)]) == false) (full128 a1 128)
    have h1 : (full128 a1 128).filter (fun x => !(decide (x.Tx ∈ [(n : Int)]) == false)) = [⟨(n : Int), oneR a1⟩] := by
      unfold full128
      rw [List.filter_map]
      have : (List.range 128).filter ((fun x : GReadsRead => !(decide (x.Tx ∈ [(n : Int)]) == false)) ∘ fun (i : Nat) => (⟨(i : Int), oneR a1⟩ : GReadsRead)) = (List.range 128).filter (fun i => decide (i = n)) := List.filter_congr fun i _ => by
        simp only [Function.comp, List.mem_singleton]
        by_cases hin : i = n
        · subst hin; simp
        · rw [decide_eq_false hin, decide_eq_false (by omega)]; rfl
      rw [this]
      have key : ∀ n : Fin 128, (List.range 128).filter (fun i => decide (i = n.val)) = [n.val] := by decide +kernel
      rw [key ⟨n, hn⟩]
      rfl
    rw [h1] at hp
    unfold onlyV
    simp only [List.length_singleton] at hp
    omega
  have hA3 : m12_reads_Add ⟨onlyV (full128 a1 128) [(n : Int)] false⟩ 500 (oneR a1) = some (⟨onlyV (full128 a1 128) [(n : Int)] false ++ [⟨500, oneR a1⟩]⟩, 0) := by
    rcases add_m (l := onlyV (full128 a1 128) [(n : Int)] false) (by omega) 500 (oneR a1) with ⟨_, _, ⟨hin, _⟩ | ⟨_, ⟨h8, he⟩ | ⟨_, he, _⟩⟩⟩ | ⟨hno, _⟩
    · exact absurd (onlyV_mem.1 hin).1 (hnotin 128 500 (by decide))
    · omega
    · exact he
    · exact absurd ⟨onlyV_good hg _ _, hs 500⟩ hno
  rw [hA1, Option.bind_some, Option.bind_some, hA2, Option.bind_some, drop_m (by omega) _ (by simp), Option.bind_some, Option.bind_some, hA3, Option.bind_some, if_pos rfl]
  have hh1 : (riseV (hitTx (full128 a1 128) a1)).length = 128 := by
    rw [full_hits fun x hx => by obtain ⟨i, _, rfl⟩ := full_mem.1 hx; rfl, riseV_self (full_tx a1 128), List.length_map, hfl]
  have hh2 : (riseV (hitTx (onlyV (full128 a1 128) [(n : Int)] false ++ [⟨500, oneR a1⟩]) a1)).length = 128 := by
    rw [full_hits fun x hx => by
      rcases List.mem_append.1 hx with hx | hx
      · obtain ⟨i, _, _, rfl⟩ := (hdm _).1 hx; rfl
      · rw [List.mem_singleton.1 hx], riseV_self, List.length_map, List.length_append, List.length_singleton, hdl]
    rw [List.map_append]
    refine List.pairwise_append.2 ⟨?_, List.pairwise_singleton _ _, fun a ha b hb => ?_⟩
    · unfold onlyV
      exact (full_tx a1 128).sublist ((List.filter_sublist ..).map _)
    · obtain ⟨x, hx, rfl⟩ := List.mem_map.1 ha
      obtain ⟨i, hi, _, rfl⟩ := (hdm _).1 hx
      rw [List.mem_singleton.1 hb]
      show (i : Int) < 500
      omega
  dsimp only
  rw [if_pos (by rfl), if_pos (by rfl), if_pos (decide_eq_true (by omega)), if_pos (by rfl), if_pos (decide_eq_true (by rw [List.length_append, List.length_singleton]; omega)), hits_m (by omega), Option.bind_some, if_pos (decide_eq_true (by omega)), hits_m (by rw [List.length_append, List.length_singleton]; omega), Option.bind_some, decide_eq_true (by omega)]

theorem readsOrder_true (a0 : List GR10Read) (a1 : List UInt8) : m7_l10_ReadsOrder a0 a1 = some true := by
  unfold m7_l10_ReadsOrder
  rw [awake10, Option.bind_some]
  obtain ⟨b, hb, -⟩ := fewT_m a0
  rw [hb, Option.bind_some]
  cases b with
  | false => rfl
  | true =>
  rw [if_neg (nn (by rfl))]
  by_cases h100 : (100 : Int) < a0.length
  · rw [if_pos (decide_eq_true h100)]
  rw [if_neg (by rw [decide_eq_true_eq]; exact h100)]
  by_cases h50 : (50 : Int) < a1.length
  · rw [if_pos (decide_eq_true h50)]
  rw [if_neg (by rw [decide_eq_true_eq]; exact h50)]
  unfold m7_l10_ReadsOrder_k2
  obtain ⟨v, hv, rfl⟩ := iterB_inv (f := m7_l10_ReadsOrder_s9 a0) (P := fun s => ∃ i : Nat, i ≤ a0.length ∧ s = ((i : Int) - 1, (a0.drop i).reverse)) (μ := fun s => (s.1 + 1).toNat) (R := fun v => v = a0.reverse) (by
    rintro _ ⟨i, hi, rfl⟩
    unfold m7_l10_ReadsOrder_s9
    dsimp only
    rcases Nat.eq_zero_or_pos i with h0 | h0
    · subst h0
      rw [if_neg (by rw [decide_eq_true_eq]; omega)]
      exact .inr ⟨_, rfl, by rw [List.drop_zero]⟩
    · have hlt : i - 1 < a0.length := by omega
      rw [if_pos (decide_eq_true (by omega)), show (i : Int) - 1 = ((i - 1 : Nat) : Int) by omega, idx_nat, List.getElem?_eq_getElem hlt, Option.bind_some, if_pos (by rw [List.length_singleton, List.length_reverse, List.length_drop]; omega), wI_id (by omega) (by omega)]
      refine .inl ⟨_, rfl, ⟨i - 1, by omega, ?_⟩, by dsimp only; omega⟩
      rw [List.drop_eq_getElem_cons hlt, List.reverse_cons, show i - 1 + 1 = i by omega]) fuel (wI ((a0.length : Int) - 1), []) ⟨a0.length, Nat.le_refl _, by rw [wI_id (by omega) (by omega), List.drop_length]; rfl⟩ (lt_fuel (by rw [wI_id (by omega) (by omega)]; dsimp only; omega))
  rw [hv, Option.bind_some]
  unfold m7_l10_ReadsOrder_k3
  obtain ⟨b, hb, hg, hm⟩ := grown_m (l := a0) (by omega)
  obtain ⟨c, hc, hgc, hmc⟩ := grown_m (l := a0.reverse) (by rw [List.length_reverse]; omega)
  have hm := hm (by omega)
  have hmc := hmc (by rw [List.length_reverse]; omega)
  have hbl := hg.len
  have hcl := hgc.len
  have hmem : ∀ x, x ∈ b ↔ x ∈ c := fun x => by rw [hm, hmc, List.map_reverse, List.mem_reverse]
  have hh : riseV (hitTx b a1) = riseV (hitTx c a1) := riseI_ext (riseV_rise _) (riseV_rise _) fun t => by
    rw [hitT_mem, hitT_mem]
    constructor <;> rintro ⟨x, hx, h⟩
    · exact ⟨x, (hmem x).1 hx, h⟩
    · exact ⟨x, (hmem x).2 hx, h⟩
  have hll : b.length = c.length := ((List.perm_ext_iff_of_nodup hg.nd hgc.nd).2 hmem).length_eq
  have hH := hitLen c a1
  rw [hb, Option.bind_some, hc, Option.bind_some, if_pos rfl, hits_m (by omega), Option.bind_some, hits_m (by omega), Option.bind_some, hh, ints_m (by omega), Option.bind_some, if_pos rfl, decide_eq_true (by rw [hll])]

/-! What the document says -/
theorem ours_m {l : List GR10Read} (hl : l.length ≤ 1000000) : m11_l10_ours ⟨l⟩ = some ⟨l.map oR⟩ := by
  unfold m11_l10_ours
  rw [collB l (fun x => [oR x]) (m11_l10_ours_s2 ⟨l⟩) 1 (fun x => by simp) (by omega) (fun i x acc hx ha => by
    have hlt := (List.getElem?_eq_some_iff.1 hx).1
    unfold m11_l10_ours_s2
    dsimp only
    rw [if_pos (decide_eq_true (by omega)), idx_nat, hx, Option.bind_some, Option.bind_some, wI_id (by omega) (by omega), if_pos (by rw [List.length_singleton]; omega)]
    rfl) (fun acc => by
    unfold m11_l10_ours_s2
    dsimp only
    rw [if_neg (by rw [decide_eq_true_eq]; omega)]), Option.bind_some, flat_one]
  rfl
theorem theirs_m {l : List GReadsRead} (hl : l.length ≤ 1000000) : m15_l10_theirs ⟨l⟩ = some ⟨l.map tR⟩ := by
  unfold m15_l10_theirs
  rw [collB l (fun x => [tR x]) (m15_l10_theirs_s2 ⟨l⟩) 1 (fun x => by simp) (by omega) (fun i x acc hx ha => by
    have hlt := (List.getElem?_eq_some_iff.1 hx).1
    unfold m15_l10_theirs_s2
    dsimp only
    rw [if_pos (decide_eq_true (by omega)), idx_nat, hx, Option.bind_some, Option.bind_some, wI_id (by omega) (by omega), if_pos (by rw [List.length_singleton]; omega)]
    rfl) (fun acc => by
    unfold m15_l10_theirs_s2
    dsimp only
    rw [if_neg (by rw [decide_eq_true_eq]; omega)]), Option.bind_some, flat_one]
  rfl
instance : DecidableEq GApiRange := fun a b => decidable_of_iff (a.Lo = b.Lo ∧ a.Hi = b.Hi ∧ a.Open = b.Open) (by cases a; cases b; simp)
instance : DecidableEq GR10Read := fun a b => decidable_of_iff (a.Tx = b.Tx ∧ a.Rng = b.Rng) (by cases a; cases b; simp)
theorem same10_m (a b : GR10Read) : m37_r10_same a b = some (decide (a = b)) := by
  unfold m37_r10_same m43_r06_SameRange
  cases a with | mk t r => cases r with | mk lo hi op => cases b with | mk t' r' => cases r' with | mk lo' hi' op' =>
  simp only [beqD]
  by_cases h1 : t = t' <;> by_cases h2 : lo = lo' <;> by_cases h3 : hi = hi' <;> by_cases h4 : op = op' <;> simp [h1, h2, h3, h4]
theorem sameT_m {l : List GR10Read} (hl : l.length ≤ 1000000) : m14_r10_Same ⟨l⟩ ⟨l⟩ = some true := by
  unfold m14_r10_Same
  dsimp only
  rw [decide_eq_true rfl, if_neg (by decide), allT l (m14_r10_Same_s2 ⟨l⟩ ⟨l⟩) (by omega) (fun i x hx => by
    have hlt := (List.getElem?_eq_some_iff.1 hx).1
    unfold m14_r10_Same_s2
    dsimp only
    rw [if_pos (decide_eq_true (by omega)), idx_nat, hx, Option.bind_some, Option.bind_some, same10_m, decide_eq_true rfl, Option.bind_some, wI_id (by omega) (by omega), if_neg (nn (by rfl))]
    rfl) (by
    unfold m14_r10_Same_s2
    dsimp only
    rw [if_neg (by rw [decide_eq_true_eq]; omega)])]
  rfl
theorem saneRange_both (r : GApiRange) : m48_r06_SaneRange r = m45_keys_SaneRange r := by
  unfold m48_r06_SaneRange m45_keys_SaneRange
  obtain ⟨lo, hi, op⟩ := r
  dsimp only
  cases op with
  | false => rfl
  | true =>
    cases hi with
    | nil => rfl
    | cons c hi =>
      rw [decide_eq_false (show ¬ (((c :: hi).length : Nat) : Int) = 0 by rw [List.length_cons]; omega), decide_eq_true (show (0 : Int) < (((c :: hi).length : Nat) : Int) by rw [List.length_cons]; omega)]
      rfl
theorem one10_m (x : GR10Read) : m36_r10_one x = some (srV (oR x)) := by
  have h1 := sr_m (oR x)
  rw [← h1]
  unfold m36_r10_one m32_reads_saneRead oR
  dsimp only
  rw [saneRange_both]
  cases hd : decide (0 ≤ x.Tx) with
  | false => rw [if_neg (nn (by rfl)), if_neg (nn (by rfl))]
  | true =>
  rw [if_pos rfl, if_pos rfl]
  obtain ⟨b, hb, hbl⟩ : ∃ b, m45_keys_SaneRange ⟨x.Rng.Lo, x.Rng.Hi, x.Rng.Open⟩ = some b ∧ (b = true → x.Rng.Hi.length ≤ 17) := by
    unfold m45_keys_SaneRange
    dsimp only
    by_cases h1 : (x.Rng.Lo.length : Int) ≤ 17
    · rw [if_pos (decide_eq_true h1)]
      by_cases h2 : (x.Rng.Hi.length : Int) ≤ 17
      · rw [if_pos (decide_eq_true h2)]
        split
        · exact ⟨_, rfl, fun _ => by omega⟩
        · exact ⟨_, rfl, fun _ => by omega⟩
      · rw [if_neg (by rw [decide_eq_true_eq]; exact h2)]; exact ⟨_, rfl, fun h => (by cases h)⟩
    · rw [if_neg (by rw [decide_eq_true_eq]; exact h1)]; exact ⟨_, rfl, fun h => (by cases h)⟩
  rw [hb, Option.bind_some, Option.bind_some]
  cases b with
  | false => rfl
  | true => rw [if_pos rfl, if_pos rfl, rempty_m _ (by have := hbl rfl; show x.Rng.Hi.length ≤ _; omega), empty_m]

theorem rsane_m {l : List GR10Read} (hl : l.length ≤ 1000000) : ∃ b, m17_r10_Sane ⟨l⟩ = some b ∧ (b = true ↔ Good (l.map oR)) := by
  unfold m17_r10_Sane
  obtain ⟨v, hv, hr⟩ := iter_inv (f := m17_r10_Sane_s2 ⟨l⟩) (P := fun s => ∃ i : Nat, i ≤ l.length ∧ s = (i : Int) ∧ (∀ x ∈ l.take i, srV (oR x) = true) ∧ (l.take i).Nodup) (μ := fun s => l.length - s.toNat) (R := fun r => match r with | .inl b => b = false ∧ ¬ Good (l.map oR) | .inr _ => (∀ x ∈ l, srV (oR x) = true) ∧ l.Nodup) (by
    rintro _ ⟨i, hi, rfl, hs, hnd⟩
    unfold m17_r10_Sane_s2
    dsimp only
    rcases Nat.lt_or_ge i l.length with hlt | hge
    · rw [if_pos (decide_eq_true (by omega)), idx_nat, List.getElem?_eq_getElem hlt, Option.bind_some, show (⟨l[i].Tx, ⟨l[i].Rng.Lo, l[i].Rng.Hi, l[i].Rng.Open⟩⟩ : GR10Read) = l[i] from rfl, one10_m, Option.bind_some]
      cases hsr : srV (oR l[i]) with
      | false =>
        rw [if_pos (by rfl)]
        refine .inr (.inr ⟨_, rfl, rfl, fun h => ?_⟩)
        have := h.sr (oR l[i]) (List.mem_map.2 ⟨l[i], List.getElem_mem _, rfl⟩)
        rw [hsr] at this; cases this
      | true =>
        rw [if_neg (nn (by rfl))]
        have hin := scanR (ρ := Bool) (l.take i) (fun y => decide (y = l[i])) (fun _ => false) (m17_r10_Sane_s6 ⟨l⟩ (i : Int)) (by rw [List.length_take]; omega) (fun j y hy => by
          have hjl := (List.getElem?_eq_some_iff.1 hy).1
          rw [List.length_take] at hjl
          rw [List.getElem?_take, if_pos (by omega)] at hy
          unfold m17_r10_Sane_s6
          dsimp only
          rw [if_pos (decide_eq_true (by omega)), idx_nat, idx_nat, hy, List.getElem?_eq_getElem hlt, Option.bind_some, Option.bind_some, same10_m, Option.bind_some, wI_id (by omega) (by omega)]
          cases decide (y = l[i]) <;> rfl) (by
          unfold m17_r10_Sane_s6
          dsimp only
          rw [if_neg (by rw [decide_eq_true_eq, List.length_take]; omega)])
        rw [hin, Option.bind_some]
        cases hf : (l.take i).find? (fun y => decide (y = l[i])) with
        | some y =>
          refine .inr (.inr ⟨_, rfl, rfl, fun h => ?_⟩)
          have hy0 := List.find?_some hf
          have hy := of_decide_eq_true hy0
          have hym := List.mem_of_find?_eq_some hf
          subst hy
          have hnd' := nodup_of_map _ h.nd
          have hsub : (l.take (i + 1)).Nodup := hnd'.sublist (List.take_sublist ..)
          rw [List.take_succ_eq_append_getElem hlt] at hsub
          exact absurd rfl ((List.nodup_append.1 hsub).2.2 l[i] hym l[i] (List.mem_singleton.2 rfl))
        | none =>
          have hn := List.find?_eq_none.1 hf
          dsimp only
          unfold m17_r10_Sane_k5
          rw [wI_id (by omega) (by omega)]
          refine .inl ⟨_, rfl, ⟨i + 1, hlt, rfl, fun x hx => ?_, ?_⟩, by simp only [Int.toNat_natCast]; omega⟩
          · rw [List.take_succ_eq_append_getElem hlt, List.mem_append, List.mem_singleton] at hx
            rcases hx with hx | rfl
            · exact hs x hx
            · exact hsr
          · rw [List.take_succ_eq_append_getElem hlt]
            refine List.nodup_append.2 ⟨hnd, by simp, fun a ha b hb e => ?_⟩
            rw [List.mem_singleton.1 hb] at e
            exact hn a ha (decide_eq_true e)
    · have e : i = l.length := by omega
      subst e
      rw [if_neg (by rw [decide_eq_true_eq]; omega)]
      rw [List.take_length] at hs hnd
      exact .inr (.inl ⟨_, rfl, hs, hnd⟩)) fuel 0 ⟨0, Nat.zero_le _, rfl, fun x hx => by simp at hx, by simp⟩ (lt_fuel (by show l.length - 0 ≤ _; omega))
  rw [hv]
  cases v with
  | inl r => exact ⟨r, rfl, fun h => (by rw [hr.1] at h; cases h), fun h => absurd h hr.2⟩
  | inr u =>
    obtain ⟨h1, h2⟩ := hr
    refine ⟨_, rfl, ?_⟩
    rw [decide_eq_true_eq]
    constructor
    · intro h
      have h' : (l.length : Int) ≤ 128 := h
      refine ⟨fun x hx => ?_, by rw [List.length_map]; omega, List.pairwise_map.2 (h2.imp fun hne e => hne (oR_inj e))⟩
      obtain ⟨y, hy, rfl⟩ := List.mem_map.1 hx
      exact h1 y hy
    · intro h
      have := h.len
      rw [List.length_map] at this
      show (l.length : Int) ≤ 128
      omega

theorem map_tR_oR (l : List GR10Read) : (l.map oR).map tR = l := by
  rw [List.map_map]
  exact List.map_id l

/-- The document's one more is the program's. -/
theorem radd_m {l : List GR10Read} (hl : l.length ≤ 1000000) (tx : Int) (r : GApiRange) : ∃ (x : List GReadsRead) (e : Int), x.length ≤ l.length + 1 ∧ m12_reads_Add ⟨l.map oR⟩ tx r = some (⟨x⟩, e) ∧ m13_r10_Add ⟨l⟩ tx r = some (⟨x.map tR⟩, e) := by
  unfold m13_r10_Add
  dsimp only
  obtain ⟨b, hb, hi⟩ := rsane_m hl
  have hlm : (l.map oR).length = l.length := List.length_map ..
  rw [hb, Option.bind_some]
  rcases add_m (l := l.map oR) (by omega) tx r with ⟨hg, hs, hrest⟩ | ⟨hno, he⟩
  · rw [hi.2 hg, if_neg (by decide), one10_m, Option.bind_some, show oR ⟨tx, r⟩ = ⟨tx, r⟩ from rfl, hs, if_neg (by decide)]
    unfold m13_r10_Add_k1
    rw [scanR l (fun y => decide (y = ⟨tx, r⟩)) (fun _ => ((⟨l⟩ : GR10Table), (0 : Int))) (m13_r10_Add_s5 ⟨l⟩ tx r) (by omega) (fun i y hy => by
      have hlt := (List.getElem?_eq_some_iff.1 hy).1
      unfold m13_r10_Add_s5
      dsimp only
      rw [if_pos (decide_eq_true (by omega)), idx_nat, hy, Option.bind_some, same10_m, Option.bind_some, wI_id (by omega) (by omega)]
      cases hd : decide (y = (⟨tx, r⟩ : GR10Read)) with
      | true => rw [if_pos rfl]; rfl
      | false => rw [if_neg (nn (by rfl))]; rfl) (by
      unfold m13_r10_Add_s5
      dsimp only
      rw [if_neg (by rw [decide_eq_true_eq]; omega)]), Option.bind_some]
    have hmem : (⟨tx, r⟩ : GReadsRead) ∈ l.map oR ↔ (⟨tx, r⟩ : GR10Read) ∈ l := by
      constructor
      · intro h
        obtain ⟨y, hy, hye⟩ := List.mem_map.1 h
        rw [← oR_inj (b := ⟨tx, r⟩) hye]; exact hy
      · intro h; exact List.mem_map.2 ⟨_, h, rfl⟩
    rcases hrest with ⟨hin, he⟩ | ⟨hin, hrest⟩
    · refine ⟨l.map oR, 0, by omega, he, ?_⟩
      cases hf : l.find? (fun y => decide (y = (⟨tx, r⟩ : GR10Read))) with
      | some y => rw [map_tR_oR]
      | none =>
        have := List.find?_eq_none.1 hf ⟨tx, r⟩ (hmem.1 hin)
        simp at this
    · have hf : l.find? (fun y => decide (y = (⟨tx, r⟩ : GR10Read))) = none := find_none fun y hy => decide_eq_false fun e => hin (hmem.2 (e ▸ hy))
      rw [hf]
      dsimp only
      unfold m13_r10_Add_k2
      dsimp only
      rcases hrest with ⟨h8, he⟩ | ⟨h8, he, _⟩
      · refine ⟨[], 8, by simp, he, ?_⟩
        rw [if_pos (decide_eq_true (by omega))]; rfl
      · refine ⟨_, 0, ?_, he, ?_⟩
        · rw [List.length_append, List.length_singleton]; omega
        · rw [if_neg (by rw [decide_eq_true_eq]; omega), if_pos (by rw [List.length_nil]; omega), if_pos (by rw [List.nil_append, List.length_singleton]; omega), List.nil_append, List.map_append, map_tR_oR]
          rfl
  · refine ⟨[], 1, by simp, he, ?_⟩
    cases b with
    | false => rw [if_pos (by rfl)]; rfl
    | true =>
      rw [if_neg (nn (by rfl)), one10_m, Option.bind_some, show oR ⟨tx, r⟩ = ⟨tx, r⟩ from rfl]
      cases hs : srV ⟨tx, r⟩ with
      | false => rw [if_pos (by rfl)]; rfl
      | true => exact absurd ⟨hi.1 rfl, hs⟩ hno

theorem rhits_m {l : List GR10Read} (hl : l.length ≤ 1000000) (k : List UInt8) (hk : k.length ≤ 1000000) : m20_r10_Hits ⟨l⟩ k = some (riseV (hitTx (l.map oR) k)) := by
  unfold m20_r10_Hits
  rw [collB l (fun x => if hasV x.Rng k then [x.Tx] else []) (m20_r10_Hits_s3 ⟨l⟩ k) 1 (fun x => by split <;> simp) (by omega) (fun i x acc hx ha => by
    have hlt := (List.getElem?_eq_some_iff.1 hx).1
    unfold m20_r10_Hits_s3
    dsimp only
    rw [if_pos (decide_eq_true (by omega)), idx_nat, hx, Option.bind_some, show (⟨x.Rng.Lo, x.Rng.Hi, x.Rng.Open⟩ : GApiRange) = x.Rng from rfl, rhas_m _ _ (by omega), Option.bind_some, wI_id (by omega) (by omega)]
    cases hasV x.Rng k with
    | true => rw [if_pos rfl, Option.bind_some, if_pos (by rw [List.length_singleton]; omega), if_pos rfl]; rfl
    | false => rw [if_neg (nn (by rfl)), if_neg (nn (by rfl)), List.append_nil]; rfl) (fun acc => by
    unfold m20_r10_Hits_s3
    dsimp only
    rw [if_neg (by rw [decide_eq_true_eq]; omega)]), Option.bind_some, flat_opt]
  unfold m20_r10_Hits_k1
  have hlen : ((l.filter fun x => hasV x.Rng k).map (·.Tx)).length ≤ l.length := by rw [List.length_map]; exact List.length_filter_le _ _
  have he : hitTx (l.map oR) k = (l.filter fun x => hasV x.Rng k).map (·.Tx) := by
    unfold hitTx
    rw [List.filter_map, List.map_map]
    rfl
  rw [rise_is (r := riseV (hitTx (l.map oR) k)) (by rw [List.length_map]; have := List.length_filter_le (fun x : GR10Read => hasV x.Rng k) l; omega) (riseV_rise _) fun t => by rw [riseV_mem, he]]
  rfl
theorem among_m (t : Int) (txs : List Int) (hl : txs.length ≤ 1000000) : m54_r10_among t txs = some (decide (t ∈ txs)) := by
  unfold m54_r10_among
  rw [scanR txs (fun y => decide (y = t)) (fun _ => true) (m54_r10_among_s2 t txs) (by omega) (fun i y hy => by
    have hlt := (List.getElem?_eq_some_iff.1 hy).1
    unfold m54_r10_among_s2
    rw [if_pos (decide_eq_true (by omega)), idx_nat, hy, Option.bind_some, wI_id (by omega) (by omega)]
    cases decide (y = t) <;> rfl) (by
    unfold m54_r10_among_s2
    rw [if_neg (by rw [decide_eq_true_eq]; omega)]), Option.bind_some]
  cases hf : txs.find? (fun y => decide (y = t)) with
  | some y =>
    have h0 := List.find?_some hf
    have h1 := of_decide_eq_true h0
    have h2 := List.mem_of_find?_eq_some hf
    rw [decide_eq_true (by rw [← h1]; exact h2)]
  | none =>
    have hn := List.find?_eq_none.1 hf
    rw [decide_eq_false fun h => hn t h (decide_eq_true rfl)]
    rfl
theorem rfilter_m {l : List GR10Read} (hl : l.length ≤ 1000000) (txs : List Int) (ht : txs.length ≤ 1000000) (b : Bool) : m42_r10_filter ⟨l⟩ txs b = some ⟨(onlyV (l.map oR) txs b).map tR⟩ := by
  unfold m42_r10_filter
  rw [collB l (fun x => if decide (x.Tx ∈ txs) == b then [x] else []) (m42_r10_filter_s2 ⟨l⟩ txs b) 1 (fun x => by split <;> simp) (by omega) (fun i x acc hx ha => by
    have hlt := (List.getElem?_eq_some_iff.1 hx).1
    unfold m42_r10_filter_s2
    dsimp only
    rw [if_pos (decide_eq_true (by omega)), idx_nat, hx, Option.bind_some, among_m _ txs ht, Option.bind_some, wI_id (by omega) (by omega)]
    cases (decide (x.Tx ∈ txs) == b) with
    | true => rw [if_pos rfl, Option.bind_some, if_pos (by rw [List.length_singleton]; omega), if_pos rfl]; rfl
    | false => rw [if_neg (nn (by rfl)), if_neg (nn (by rfl)), List.append_nil]; rfl) (fun acc => by
    unfold m42_r10_filter_s2
    dsimp only
    rw [if_neg (by rw [decide_eq_true_eq]; omega)]), Option.bind_some, flat_opt, List.map_id']
  unfold m42_r10_filter_k1 onlyV
  rw [List.filter_map, map_tR_oR]
  rfl
theorem rof_m {l : List GR10Read} (hl : l.length ≤ 1000000) (t : Int) : m27_r10_Of ⟨l⟩ t = some (ofV (l.map oR) t) := by
  unfold m27_r10_Of
  rw [collB l (fun x => if decide (x.Tx = t) then [x.Rng] else []) (m27_r10_Of_s2 ⟨l⟩ t) 1 (fun x => by split <;> simp) (by omega) (fun i x acc hx ha => by
    have hlt := (List.getElem?_eq_some_iff.1 hx).1
    unfold m27_r10_Of_s2
    dsimp only
    rw [if_pos (decide_eq_true (by omega)), idx_nat, hx, Option.bind_some, wI_id (by omega) (by omega)]
    cases decide (x.Tx = t) with
    | true => rw [if_pos rfl, Option.bind_some, if_pos (by rw [List.length_singleton]; omega), if_pos rfl]; rfl
    | false => rw [if_neg (nn (by rfl)), if_neg (nn (by rfl)), List.append_nil]; rfl) (fun acc => by
    unfold m27_r10_Of_s2
    dsimp only
    rw [if_neg (by rw [decide_eq_true_eq]; omega)]), Option.bind_some, flat_opt]
  unfold m27_r10_Of_k1 ofV
  rw [List.filter_map, List.map_map]
  rfl

theorem readsIs_true (a0 : GR10Table) (a1 : Int) (a2 : GApiRange) (a3 : List UInt8) (a4 : List Int) : m3_l10_ReadsIs a0 a1 a2 a3 a4 = some true := by
  obtain ⟨l⟩ := a0
  unfold m3_l10_ReadsIs
  rw [awake10, Option.bind_some]
  obtain ⟨b, hb, hf⟩ := fewT_m l
  dsimp only
  rw [hb, Option.bind_some]
  cases b with
  | false => rfl
  | true =>
  have hl := hf rfl
  rw [if_neg (nn (by rfl))]
  obtain ⟨v, hv, -⟩ := short_m ⟨a2.Lo, a2.Hi, a2.Open⟩
  rw [hv, Option.bind_some]
  cases v with
  | false => rfl
  | true =>
  rw [if_neg (nn (by rfl))]
  by_cases h3 : (50 : Int) < a3.length
  · rw [if_pos (decide_eq_true h3)]
  rw [if_neg (by rw [decide_eq_true_eq]; exact h3)]
  by_cases h4 : (50 : Int) < a4.length
  · rw [if_pos (decide_eq_true h4)]
  rw [if_neg (by rw [decide_eq_true_eq]; exact h4)]
  unfold m3_l10_ReadsIs_k2
  have hlm : (l.map oR).length = l.length := List.length_map ..
  have hH := hitLen (l.map oR) a3
  have hd1 := onlyV_len (l.map oR) a4 false
  have hd2 := onlyV_len (l.map oR) a4 true
  have hol : (ofV (l.map oR) a1).length ≤ l.length := by unfold ofV; rw [List.length_map]; exact Nat.le_trans (List.length_filter_le _ _) (by omega)
  obtain ⟨x, e, hxl, hA, hB⟩ := radd_m (l := l) (by omega) a1 a2
  obtain ⟨b1, hb1, hi1⟩ := sane_m (l := l.map oR) (by omega)
  obtain ⟨b2, hb2, hi2⟩ := rsane_m (l := l) (by omega)
  have hbb : b1 = b2 := by
    cases b1 <;> cases b2
    · rfl
    · exact (hi1.2 (hi2.1 rfl))
    · exact (hi2.2 (hi1.1 rfl)).symm
    · rfl
  subst hbb
  dsimp only
  rw [ours_m (by omega), Option.bind_some, hA, Option.bind_some, hB, Option.bind_some, if_pos rfl]
  dsimp only
  rw [theirs_m (by omega), Option.bind_some, sameT_m (by rw [List.length_map]; omega), Option.bind_some, if_pos rfl, if_pos (decide_eq_true rfl), hb1, Option.bind_some, hb2, Option.bind_some, beq_self_eq_true, if_pos rfl, hits_m (by omega), Option.bind_some, rhits_m (by omega) _ (by omega), Option.bind_some, ints_m (by omega), Option.bind_some, if_pos rfl, drop_m (by omega) _ (by omega), Option.bind_some, theirs_m (by omega), Option.bind_some]
  unfold m22_r10_Drop m24_r10_Keep
  dsimp only
  rw [rfilter_m (by omega) _ (by omega), Option.bind_some, Option.bind_some, sameT_m (by rw [List.length_map]; omega), Option.bind_some, if_pos rfl, keep_m (by omega) _ (by omega), Option.bind_some, theirs_m (by omega), Option.bind_some, rfilter_m (by omega) _ (by omega), Option.bind_some, Option.bind_some, sameT_m (by rw [List.length_map]; omega), Option.bind_some, if_pos rfl, of_m (by omega), Option.bind_some, rof_m (by omega), Option.bind_some, ranges_m (by omega), Option.bind_some, if_pos rfl, theirs_m (by omega), Option.bind_some, map_tR_oR, sameT_m (by omega)]
  rfl
end Go.Proofs.Ytkbkpafidgfhdaa.Abs
