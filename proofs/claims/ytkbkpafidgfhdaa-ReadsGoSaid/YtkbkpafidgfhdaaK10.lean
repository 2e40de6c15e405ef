/-
  What reads are: one more, without some, who is hit.
-/
import Derived.Test.YtkbkpafidgfhdaaP10
import Derived.Test.YtkbkpafidgfhdaaAbsC
namespace Go.Proofs.Ytkbkpafidgfhdaa.Abs

def knR (x : GReadsRead) : GReadsKnown := ⟨x.Tx, x.Rng.Lo, x.Rng.Hi, x.Rng.Open⟩
theorem knR_inj {a b : GReadsRead} (h : knR a = knR b) : a = b := by
  cases a with | mk t r => cases r; cases b with | mk t' r' => cases r'; simp [knR] at h; simp [h]
theorem kn_m (x : GReadsRead) : m34_reads_knownOf x = some (knR x) := rfl

/-! Where each stands -/
section
variable {κ : Type} [DecidableEq κ]
def addK (l : List κ) (k : κ) : List κ := if k ∈ l then l else l ++ [k]
theorem ixPut_keys (M : List (κ × Int)) (k : κ) (i : Int) : (ixPut M k i).map (·.1) = addK (M.map (·.1)) k := by
  unfold addK
  by_cases h : k ∈ M.map (·.1)
  · rw [if_pos h]
    unfold ixPut
    rw [if_pos (show (M.any fun x => decide (x.1 = k)) = true from ixHas_iff.2 h), List.map_map]
    apply List.map_congr_left
    intro x _
    simp only [Function.comp]
    split <;> rfl
  · rw [if_neg h, ixPut_new h, List.map_append]; rfl
theorem addK_mem {l : List κ} {k x : κ} : x ∈ addK l k ↔ x ∈ l ∨ x = k := by
  unfold addK
  split
  · constructor
    · exact .inl
    · rintro (h | rfl)
      · exact h
      · assumption
  · rw [List.mem_append, List.mem_singleton]
theorem addK_nodup {l : List κ} (h : l.Nodup) (k : κ) : (addK l k).Nodup := by
  unfold addK
  split
  · exact h
  · rename_i hk
    refine List.nodup_append.2 ⟨h, by simp, fun a ha b hb => ?_⟩
    rw [List.mem_singleton.1 hb]
    exact fun e => hk (e ▸ ha)
theorem foldK : ∀ (l acc : List κ), acc.Nodup → (l.foldl addK acc).Nodup ∧ (∀ x, x ∈ l.foldl addK acc ↔ x ∈ acc ∨ x ∈ l) ∧ (l.foldl addK acc).length ≤ acc.length + l.length ∧ ((l.foldl addK acc).length = acc.length + l.length ↔ (acc ++ l).Nodup)
  | [], acc, h => ⟨h, fun x => by simp, by simp, by simp [h]⟩
  | k :: l, acc, h => by
    obtain ⟨h1, h2, h3, h4⟩ := foldK l (addK acc k) (addK_nodup h k)
    rw [List.foldl_cons]
    have hlen : (addK acc k).length = acc.length ∧ k ∈ acc ∨ (addK acc k).length = acc.length + 1 ∧ k ∉ acc ∧ addK acc k = acc ++ [k] := by
      unfold addK
      split
      · exact .inl ⟨rfl, by assumption⟩
      · exact .inr ⟨by simp, by assumption, rfl⟩
    refine ⟨h1, fun x => ?_, ?_, ?_⟩
    · rw [h2, addK_mem, List.mem_cons, or_assoc]
    · rw [List.length_cons]; rcases hlen with ⟨h, _⟩ | ⟨h, _⟩ <;> omega
    · rcases hlen with ⟨h5, h6⟩ | ⟨h5, h6, h7⟩
      · constructor
        · intro he; rw [List.length_cons] at he; omega
        · intro hn
          have := (List.nodup_append.1 hn).2.2 k h6 k (List.mem_cons_self ..)
          exact absurd rfl this
      · rw [List.length_cons]
        rw [h7, List.append_assoc, List.singleton_append] at h4
        rw [← h4, h7]
        constructor <;> intro h <;> simp at h ⊢ <;> omega
end

theorem index_fold (l : List GReadsRead) : ∃ M : List (GReadsKnown × Int), (l.length ≤ 1000000 → m33_reads_index l = some M ∧ m33_reads_indexs l = some M) ∧ M.map (·.1) = (l.map knR).foldl addK [] := by
  have key : ∀ (f : Int × List (GReadsKnown × Int) → Option (LB (Int × List (GReadsKnown × Int)) (List (GReadsKnown × Int)))), (∀ (i : Nat) x acc, l[i]? = some x → l.length ≤ 1000000 → f ((i : Int), acc) = some (.cont (((i + 1 : Nat) : Int), ixPut acc (knR x) (i : Int)))) → (∀ acc, f ((l.length : Int), acc) = some (.brk acc)) →
      ∃ M, (l.length ≤ 1000000 → iterB f fuel (0, []) = some M) ∧ M.map (·.1) = (l.map knR).foldl addK [] := fun f h1 h2 => by
    by_cases hl : l.length ≤ 1000000
    · obtain ⟨v, hv, hr⟩ := iterB_inv (f := f) (P := fun s => ∃ (i : Nat) (M : List (GReadsKnown × Int)), i ≤ l.length ∧ s = ((i : Int), M) ∧ M.map (·.1) = ((l.take i).map knR).foldl addK []) (μ := fun s => l.length - s.1.toNat) (R := fun M => M.map (·.1) = (l.map knR).foldl addK []) (by
        rintro _ ⟨i, M, hi, rfl, hm⟩
        rcases Nat.lt_or_ge i l.length with hlt | hge
        · left
          refine ⟨_, h1 i _ _ (List.getElem?_eq_getElem hlt) hl, ⟨i + 1, _, hlt, rfl, ?_⟩, by simp only [Int.toNat_natCast]; omega⟩
          rw [ixPut_keys, hm, List.take_succ_eq_append_getElem hlt, List.map_append, List.foldl_append]
          rfl
        · right
          have e : i = l.length := by omega
          subst e
          exact ⟨_, h2 _, by rw [List.take_length] at hm; exact hm⟩) fuel (0, []) ⟨0, [], Nat.zero_le _, rfl, rfl⟩ (lt_fuel (by show l.length - 0 ≤ _; omega))
      exact ⟨v, fun _ => hv, hr⟩
    · refine ⟨((l.map knR).foldl addK []).map (fun k => (k, 0)), fun h => absurd h hl, ?_⟩
      rw [List.map_map]
      exact List.map_id _
  obtain ⟨M, hM, hk⟩ := key (m33_reads_index_s2 l) (fun i x acc hx hl => by
    have hlt := (List.getElem?_eq_some_iff.1 hx).1
    unfold m33_reads_index_s2
    dsimp only
    rw [if_pos (decide_eq_true (by omega)), idx_nat, hx, Option.bind_some, kn_m, Option.bind_some, wI_id (by omega) (by omega)]
    rfl) (fun acc => by
    unfold m33_reads_index_s2
    dsimp only
    rw [if_neg (by rw [decide_eq_true_eq]; omega)])
  refine ⟨M, fun hl => ?_, hk⟩
  have h := hM hl
  have hs : m33_reads_indexs_s2 l = m33_reads_index_s2 l := rfl
  refine ⟨?_, ?_⟩
  · unfold m33_reads_index
    rw [h]; rfl
  · unfold m33_reads_indexs
    rw [hs, h]; rfl

def srV (x : GReadsRead) : Bool := (m32_reads_saneRead x).getD false
theorem empty_some (r : GApiRange) : ∃ v, m46_keys_Empty r = some v := by
  unfold m46_keys_Empty m46_keys_Empty_k1
  simp only [cmp_m, Option.bind_some]
  repeat' (first | exact ⟨_, rfl⟩ | split | dsimp only [Option.bind_some])
  all_goals
    rename_i h1 h2
    have hl : (0 : Int) < r.Hi.length := by have := of_decide_eq_true h2; omega
    obtain ⟨u, hu, _⟩ := idx_get (xs := r.Hi) (j := 0) (by decide) hl
    rw [hu, Option.bind_some]
    split <;> exact ⟨_, rfl⟩
theorem sr_m (x : GReadsRead) : m32_reads_saneRead x = some (srV x) := by
  have : ∃ b, m32_reads_saneRead x = some b := by
    obtain ⟨v, hv⟩ := empty_some ⟨x.Rng.Lo, x.Rng.Hi, x.Rng.Open⟩
    unfold m32_reads_saneRead m45_keys_SaneRange
    simp only [hv, Option.bind_some]
    repeat' (first | exact ⟨_, rfl⟩ | split | dsimp only [Option.bind_some])
  obtain ⟨b, hb⟩ := this
  unfold srV
  rw [hb]; rfl

structure Good (l : List GReadsRead) : Prop where
  sr : ∀ x ∈ l, srV x = true
  len : l.length ≤ 128
  nd : l.Nodup
theorem Good.nil : Good [] := ⟨fun x h => (by simp at h), by decide, List.nodup_nil⟩
theorem nodup_kn {l : List GReadsRead} : (l.map knR).Nodup ↔ l.Nodup := by
  constructor
  · exact nodup_of_map _
  · intro h
    exact List.pairwise_map.2 (h.imp fun hne e => hne (knR_inj e))

theorem sane_m {l : List GReadsRead} (hl : l.length ≤ 1000000) : ∃ b, m16_reads_Sane ⟨l⟩ = some b ∧ (b = true ↔ Good l) := by
  unfold m16_reads_Sane
  rw [allR l srV false (m16_reads_Sane_s4 ⟨l⟩) (by omega) (fun i x hx => by
    have hlt := (List.getElem?_eq_some_iff.1 hx).1
    unfold m16_reads_Sane_s4
    dsimp only
    rw [if_pos (decide_eq_true (by omega)), idx_nat, hx, Option.bind_some, show (⟨x.Tx, ⟨x.Rng.Lo, x.Rng.Hi, x.Rng.Open⟩⟩ : GReadsRead) = x from rfl, sr_m, Option.bind_some, wI_id (by omega) (by omega)]
    cases srV x <;> rfl) (by
    unfold m16_reads_Sane_s4
    dsimp only
    rw [if_neg (by rw [decide_eq_true_eq]; omega)])]
  cases ha : l.all srV with
  | false =>
    refine ⟨false, rfl, (fun h => by cases h), fun h => ?_⟩
    rw [List.all_eq_true.2 h.sr] at ha; cases ha
  | true =>
    show ∃ b, m16_reads_Sane_k1 ⟨l⟩ () = some b ∧ _
    unfold m16_reads_Sane_k1
    dsimp only
    by_cases h128 : l.length ≤ 128
    · rw [if_pos (decide_eq_true (by omega))]
      obtain ⟨M, hM, hk⟩ := index_fold l
      rw [(hM hl).2, Option.bind_some]
      refine ⟨_, rfl, ?_⟩
      have hf := foldK (l.map knR) [] List.nodup_nil
      rw [← hk] at hf
      simp only [List.length_map, List.length_nil, Nat.zero_add, List.nil_append] at hf
      rw [decide_eq_true_eq]
      constructor
      · intro h
        exact ⟨List.all_eq_true.1 ha, h128, nodup_kn.1 (hf.2.2.2.1 (by omega))⟩
      · intro h
        have := hf.2.2.2.2 (nodup_kn.2 h.nd)
        omega
    · rw [if_neg (by rw [decide_eq_true_eq]; omega)]
      exact ⟨false, rfl, fun h => (by cases h), fun h => absurd h.len h128⟩
theorem sane_t {l : List GReadsRead} (h : Good l) : m16_reads_Sane ⟨l⟩ = some true := by
  obtain ⟨b, hb, hi⟩ := sane_m (l := l) (by have := h.len; omega)
  rw [hb, hi.2 h]

theorem concat_two (a b : List GReadsRead) (h : (a.length + b.length) * 64 ≤ 140737488355328) : m35_slices_Concato [a, b] = some (a ++ b) := by
  have := m35_slices_Concato_m [a, b] (by simpa using h) (by simp)
  rw [this]; simp

/-- One more. -/
theorem add_m {l : List GReadsRead} (hl : l.length ≤ 1000000) (tx : Int) (r : GApiRange) :
    (Good l ∧ srV ⟨tx, r⟩ = true ∧ (((⟨tx, r⟩ : GReadsRead) ∈ l ∧ m12_reads_Add ⟨l⟩ tx r = some (⟨l⟩, 0)) ∨ ((⟨tx, r⟩ : GReadsRead) ∉ l ∧ ((128 ≤ l.length ∧ m12_reads_Add ⟨l⟩ tx r = some (⟨[]⟩, 8)) ∨ (l.length < 128 ∧ m12_reads_Add ⟨l⟩ tx r = some (⟨l ++ [⟨tx, r⟩]⟩, 0) ∧ Good (l ++ [⟨tx, r⟩])))))) ∨
    (¬ (Good l ∧ srV ⟨tx, r⟩ = true) ∧ m12_reads_Add ⟨l⟩ tx r = some (⟨[]⟩, 1)) := by
  unfold m12_reads_Add
  obtain ⟨b, hb, hi⟩ := sane_m hl
  dsimp only
  rw [hb, Option.bind_some]
  cases b with
  | false =>
    refine .inr ⟨fun h => ?_, by rw [if_pos (by rfl)]⟩
    have := hi.2 h.1; cases this
  | true =>
    have hg := hi.1 rfl
    rw [if_neg (nn (by rfl)), sr_m, Option.bind_some]
    cases hs : srV ⟨tx, r⟩ with
    | false => exact .inr ⟨fun h => (by cases h.2), by rw [if_pos (by rfl)]⟩
    | true =>
      rw [if_neg (nn (by rfl))]
      refine .inl ⟨hg, rfl, ?_⟩
      unfold m12_reads_Add_k1
      dsimp only
      obtain ⟨M, hM, hk⟩ := index_fold l
      have hf := foldK (l.map knR) [] List.nodup_nil
      rw [← hk] at hf
      rw [(hM hl).2, Option.bind_some, kn_m, Option.bind_some]
      have hmem : ixHas M (knR ⟨tx, r⟩) = true ↔ (⟨tx, r⟩ : GReadsRead) ∈ l := by
        rw [ixHas_iff, hf.2.1]
        simp only [List.not_mem_nil, false_or]
        constructor
        · intro h
          obtain ⟨x, hx, he⟩ := List.mem_map.1 h
          rw [← knR_inj he]; exact hx
        · intro h; exact List.mem_map.2 ⟨_, h, rfl⟩
      by_cases hin : (⟨tx, r⟩ : GReadsRead) ∈ l
      · rw [if_pos (hmem.2 hin)]
        exact .inl ⟨hin, rfl⟩
      · rw [if_neg (fun h => hin (hmem.1 h))]
        refine .inr ⟨hin, ?_⟩
        by_cases h128 : 128 ≤ l.length
        · rw [if_pos (decide_eq_true (by omega))]
          exact .inl ⟨h128, rfl⟩
        · rw [if_neg (by rw [decide_eq_true_eq]; omega), concat_two _ _ (by rw [List.length_singleton]; omega)]
          refine .inr ⟨by omega, rfl, fun x hx => ?_, by rw [List.length_append, List.length_singleton]; omega, ?_⟩
          · rcases List.mem_append.1 hx with hx | hx
            · exact hg.sr x hx
            · rw [List.mem_singleton.1 hx]; exact hs
          · refine List.nodup_append.2 ⟨hg.nd, by simp, fun a ha b hb => ?_⟩
            rw [List.mem_singleton.1 hb]
            exact fun e => hin (e ▸ ha)

/-- Who is hit. -/
def hitTx (l : List GReadsRead) (k : List UInt8) : List Int := (l.filter fun x => hasV x.Rng k).map (·.Tx)
theorem hits_m {l : List GReadsRead} (hl : l.length ≤ 1000000) (k : List UInt8) : m19_reads_Hits ⟨l⟩ k = some (riseV (hitTx l k)) := by
  unfold m19_reads_Hits
  rw [collB l (fun x => if hasV x.Rng k then [x.Tx] else []) (m19_reads_Hits_s5 ⟨l⟩ k) 1 (fun x => by split <;> simp) (by omega) (fun i x acc hx ha => by
    have hlt := (List.getElem?_eq_some_iff.1 hx).1
    unfold m19_reads_Hits_s5
    dsimp only
    rw [if_pos (decide_eq_true (by omega)), idx_nat, hx, Option.bind_some, show (⟨x.Rng.Lo, x.Rng.Hi, x.Rng.Open⟩ : GApiRange) = x.Rng from rfl, has_m, Option.bind_some, wI_id (by omega) (by omega)]
    cases hasV x.Rng k with
    | true => rw [if_pos rfl, if_pos (by rw [List.length_singleton]; omega), if_pos rfl]; rfl
    | false => rw [if_neg (nn (by rfl)), if_neg (nn (by rfl)), List.append_nil]; rfl) (fun acc => by
    unfold m19_reads_Hits_s5
    dsimp only
    rw [if_neg (by rw [decide_eq_true_eq]; omega)]), Option.bind_some, flat_opt]
  have hlen : (hitTx l k).length ≤ l.length := by
    unfold hitTx; rw [List.length_map]; exact List.length_filter_le _ _
  show m19_reads_Hits_k1 (hitTx l k) = _
  unfold m19_reads_Hits_k1 m39_slices_Sort m40_slices_Compact
  rw [if_pos (by omega), Option.bind_some, if_pos (List.length_mergeSort _), if_pos (by rw [List.length_mergeSort]; omega)]
  rfl
theorem hitT_mem {l : List GReadsRead} {k : List UInt8} {t : Int} : t ∈ riseV (hitTx l k) ↔ ∃ x ∈ l, hasV x.Rng k = true ∧ x.Tx = t := by
  rw [riseV_mem]
  unfold hitTx
  rw [List.mem_map]
  constructor
  · rintro ⟨x, hx, rfl⟩
    obtain ⟨h1, h2⟩ := List.mem_filter.1 hx
    exact ⟨x, h1, h2, rfl⟩
  · rintro ⟨x, h1, h2, rfl⟩
    exact ⟨x, List.mem_filter.2 ⟨h1, h2⟩, rfl⟩

/-- Those who are among some, or not. -/
theorem contains_m (txs : List Int) (t : Int) (hl : txs.length ≤ 1000000) : m53_slices_Contains txs t = some (decide (t ∈ txs)) := by
  unfold m53_slices_Contains m67_slices_Index
  obtain ⟨v, hv, hr⟩ := iter_inv (f := m67_slices_Index_s2 txs t) (P := fun s => ∃ i : Nat, i ≤ txs.length ∧ s = (i : Int) ∧ t ∉ txs.take i) (μ := fun s => txs.length - s.toNat)
    (R := fun x => match x with | .inl r => 0 ≤ r ∧ t ∈ txs | .inr _ => t ∉ txs) (by
      rintro _ ⟨i, hi, rfl, hp⟩
      unfold m67_slices_Index_s2
      rcases Nat.lt_or_ge i txs.length with hlt | hge
      · rw [if_pos (decide_eq_true (by omega)), idx_nat, List.getElem?_eq_getElem hlt, Option.bind_some, wI_id (by omega) (by omega)]
        by_cases he : t = txs[i]
        · rw [if_pos (decide_eq_true he)]
          exact .inr (.inr ⟨_, rfl, Int.natCast_nonneg _, by rw [he]; exact List.getElem_mem _⟩)
        · rw [if_neg (by rw [decide_eq_true_eq]; exact he)]
          refine .inl ⟨_, rfl, ⟨i + 1, hlt, rfl, ?_⟩, by simp only [Int.toNat_natCast]; omega⟩
          rw [List.take_succ_eq_append_getElem hlt, List.mem_append, List.mem_singleton]
          rintro (h | h)
          · exact hp h
          · exact he h
      · have e : i = txs.length := by omega
        subst e
        rw [if_neg (by rw [decide_eq_true_eq]; omega)]
        rw [List.take_length] at hp
        exact .inr (.inl ⟨_, rfl, hp⟩)) fuel 0 ⟨0, Nat.zero_le _, rfl, by simp⟩ (lt_fuel (by show txs.length - 0 ≤ _; omega))
  rw [hv]
  cases v with
  | inl r =>
    show some (decide (0 ≤ r)) = _
    rw [decide_eq_true hr.1, decide_eq_true hr.2]
  | inr u =>
    show some (decide ((0 : Int) ≤ -1)) = _
    rw [decide_eq_false (show ¬ t ∈ txs from hr)]
    rfl
def onlyV (l : List GReadsRead) (txs : List Int) (b : Bool) : List GReadsRead := l.filter fun x => decide (x.Tx ∈ txs) == b
theorem only_m {l : List GReadsRead} (hl : l.length ≤ 1000000) (txs : List Int) (ht : txs.length ≤ 1000000) (b : Bool) : m41_reads_only ⟨l⟩ txs b = some ⟨onlyV l txs b⟩ := by
  unfold m41_reads_only
  rw [collB l (fun x => if decide (x.Tx ∈ txs) == b then [x] else []) (m41_reads_only_s2 ⟨l⟩ txs b) 1 (fun x => by split <;> simp) (by omega) (fun i x acc hx ha => by
    have hlt := (List.getElem?_eq_some_iff.1 hx).1
    unfold m41_reads_only_s2
    dsimp only
    rw [if_pos (decide_eq_true (by omega)), idx_nat, hx, Option.bind_some, contains_m txs _ ht, Option.bind_some, wI_id (by omega) (by omega)]
    cases (decide (x.Tx ∈ txs) == b) with
    | true => rw [if_pos rfl, if_pos (by rw [List.length_singleton]; omega), if_pos rfl]; rfl
    | false => rw [if_neg (nn (by rfl)), if_neg (nn (by rfl)), List.append_nil]; rfl) (fun acc => by
    unfold m41_reads_only_s2
    dsimp only
    rw [if_neg (by rw [decide_eq_true_eq]; omega)]), Option.bind_some, flat_opt, List.map_id']
  rfl
theorem drop_m {l : List GReadsRead} (hl : l.length ≤ 1000000) (txs : List Int) (ht : txs.length ≤ 1000000) : m21_reads_Drop ⟨l⟩ txs = some ⟨onlyV l txs false⟩ := by
  unfold m21_reads_Drop
  dsimp only
  rw [only_m hl txs ht]; rfl
theorem keep_m {l : List GReadsRead} (hl : l.length ≤ 1000000) (txs : List Int) (ht : txs.length ≤ 1000000) : m23_reads_Keep ⟨l⟩ txs = some ⟨onlyV l txs true⟩ := by
  unfold m23_reads_Keep
  rw [only_m hl txs ht]; rfl
theorem onlyV_len (l : List GReadsRead) (txs : List Int) (b : Bool) : (onlyV l txs b).length ≤ l.length := List.length_filter_le _ _
theorem onlyV_mem {l : List GReadsRead} {txs : List Int} {b : Bool} {x : GReadsRead} : x ∈ onlyV l txs b ↔ x ∈ l ∧ (decide (x.Tx ∈ txs) = b) := by
  unfold onlyV
  rw [List.mem_filter, beq_iff_eq]
theorem onlyV_good {l : List GReadsRead} (h : Good l) (txs : List Int) (b : Bool) : Good (onlyV l txs b) :=
  ⟨fun x hx => h.sr x (onlyV_mem.1 hx).1, Nat.le_trans (onlyV_len ..) h.len, h.nd.sublist (List.filter_sublist ..)⟩
def ofV (l : List GReadsRead) (t : Int) : List GApiRange := (l.filter fun x => decide (x.Tx = t)).map (·.Rng)
theorem of_m {l : List GReadsRead} (hl : l.length ≤ 1000000) (t : Int) : m26_reads_Of ⟨l⟩ t = some (ofV l t) := by
  unfold m26_reads_Of
  rw [keep_m hl [t] (by simp), Option.bind_some]
  have hlo := onlyV_len l [t] true
  rw [collB (onlyV l [t] true) (fun x => [x.Rng]) (m26_reads_Of_s3 ⟨onlyV l [t] true⟩) 1 (fun x => by simp) (by omega) (fun i x acc hx ha => by
    have hlt := (List.getElem?_eq_some_iff.1 hx).1
    unfold m26_reads_Of_s3
    dsimp only
    rw [if_pos (decide_eq_true (by omega)), idx_nat, hx, Option.bind_some, wI_id (by omega) (by omega), if_pos (by rw [List.length_singleton]; omega)]
    rfl) (fun acc => by
    unfold m26_reads_Of_s3
    dsimp only
    rw [if_neg (by rw [decide_eq_true_eq]; omega)]), Option.bind_some, flat_one]
  unfold m26_reads_Of_k2 ofV onlyV
  congr 2
  apply List.filter_congr
  intro x _
  by_cases h : x.Tx = t
  · simp [h]
  · simp [h]

theorem awake10 : m8_l10_awake = some true := by decide +kernel
end Go.Proofs.Ytkbkpafidgfhdaa.Abs
