/-
  Reads, one behind the other: who is hit, who is not, whatever the order.
-/
import Derived.Test.YtkbkpafidgfhdaaK10
namespace Go.Proofs.Ytkbkpafidgfhdaa.Abs

theorem allT {α ρ : Type} (xs : List α) (f : Int → Option (LR Int Unit ρ)) (hl : xs.length ≤ 1000000000000000000)
    (h : ∀ (i : Nat) x, xs[i]? = some x → f (i : Int) = some (.cont ((i + 1 : Nat) : Int))) (hend : f (xs.length : Int) = some (.brk ())) : iter f fuel 0 = some (.inr ()) := by
  obtain ⟨v, hv, hr⟩ := iter_inv (f := f) (P := fun s => ∃ i : Nat, i ≤ xs.length ∧ s = (i : Int)) (μ := fun s => xs.length - s.toNat) (R := fun r => r = .inr ()) (by
    rintro _ ⟨i, hi, rfl⟩
    rcases Nat.lt_or_ge i xs.length with hlt | hge
    · exact .inl ⟨_, h i _ (List.getElem?_eq_getElem hlt), ⟨i + 1, hlt, rfl⟩, by simp only [Int.toNat_natCast]; omega⟩
    · have e : i = xs.length := by omega
      subst e
      exact .inr (.inl ⟨(), hend, rfl⟩)) fuel 0 ⟨0, Nat.zero_le _, rfl⟩ (lt_fuel (by show xs.length - 0 ≤ _; omega))
  rw [hv, hr]

def oR (x : GR10Read) : GReadsRead := ⟨x.Tx, x.Rng⟩
def tR (x : GReadsRead) : GR10Read := ⟨x.Tx, x.Rng⟩
theorem oR_inj {a b : GR10Read} (h : oR a = oR b) : a = b := by
  cases a; cases b; simp [oR] at h; simp [h]

theorem grown_m {l : List GR10Read} (hl : l.length ≤ 1000000) : ∃ b, m28_l10_grown l = some ⟨b⟩ ∧ Good b ∧ (l.length ≤ 127 → ∀ x, x ∈ b ↔ x ∈ l.map oR ∧ srV x = true) := by
  unfold m28_l10_grown
  obtain ⟨v, hv, hr⟩ := iterB_inv (f := m28_l10_grown_s2 l) (P := fun s => ∃ (i : Nat) (b : List GReadsRead), i ≤ l.length ∧ s = ((i : Int), b) ∧ Good b ∧ (l.length ≤ 127 → b.length ≤ i ∧ ∀ x, x ∈ b ↔ x ∈ (l.take i).map oR ∧ srV x = true)) (μ := fun s => l.length - s.1.toNat) (R := fun b => Good b ∧ (l.length ≤ 127 → ∀ x, x ∈ b ↔ x ∈ l.map oR ∧ srV x = true)) (by
    rintro _ ⟨i, b, hi, rfl, hg, hm⟩
    have hgl := hg.len
    unfold m28_l10_grown_s2
    dsimp only
    rcases Nat.lt_or_ge i l.length with hlt | hge
    · left
      rw [if_pos (decide_eq_true (by omega)), idx_nat, List.getElem?_eq_getElem hlt, Option.bind_some, Option.bind_some, show (⟨l[i].Rng.Lo, l[i].Rng.Hi, l[i].Rng.Open⟩ : GApiRange) = l[i].Rng from rfl, wI_id (by omega) (by omega)]
      have hmap : (l.take (i + 1)).map oR = (l.take i).map oR ++ [oR l[i]] := by rw [List.take_succ_eq_append_getElem hlt, List.map_append]; rfl
      rcases add_m (l := b) (by omega) l[i].Tx l[i].Rng with ⟨_, hs, ⟨hin, he⟩ | ⟨hin, ⟨h8, he⟩ | ⟨h8, he, hg'⟩⟩⟩ | ⟨hno, he⟩
      · rw [he, Option.bind_some]
        dsimp only
        rw [if_pos (by rfl)]
        refine ⟨_, rfl, ⟨i + 1, b, hlt, rfl, hg, fun h => ⟨by have := (hm h).1; omega, fun x => ?_⟩⟩, by dsimp only; omega⟩
        rw [(hm h).2, hmap, List.mem_append, List.mem_singleton]
        constructor
        · rintro ⟨h1, h2⟩; exact ⟨.inl h1, h2⟩
        · rintro ⟨h1 | h1, h2⟩
          · exact ⟨h1, h2⟩
          · rw [h1]; exact ((hm h).2 _).1 hin
      · rw [he, Option.bind_some]
        dsimp only
        rw [if_neg (by decide)]
        refine ⟨_, rfl, ⟨i + 1, b, hlt, rfl, hg, fun h => absurd (hm h).1 (by omega)⟩, by dsimp only; omega⟩
      · rw [he, Option.bind_some]
        dsimp only
        rw [if_pos (by rfl)]
        refine ⟨_, rfl, ⟨i + 1, _, hlt, rfl, hg', fun h => ⟨by have := (hm h).1; rw [List.length_append, List.length_singleton]; omega, fun x => ?_⟩⟩, by dsimp only; omega⟩
        rw [List.mem_append, List.mem_singleton, (hm h).2, hmap, List.mem_append, List.mem_singleton]
        constructor
        · rintro (⟨h1, h2⟩ | rfl)
          · exact ⟨.inl h1, h2⟩
          · exact ⟨.inr rfl, hs⟩
        · rintro ⟨h1 | h1, h2⟩
          · exact .inl ⟨h1, h2⟩
          · exact .inr h1
      · rw [he, Option.bind_some]
        dsimp only
        rw [if_neg (by decide)]
        refine ⟨_, rfl, ⟨i + 1, b, hlt, rfl, hg, fun h => ⟨by have := (hm h).1; omega, fun x => ?_⟩⟩, by dsimp only; omega⟩
        rw [(hm h).2, hmap, List.mem_append, List.mem_singleton]
        constructor
        · rintro ⟨h1, h2⟩; exact ⟨.inl h1, h2⟩
        · rintro ⟨h1 | h1, h2⟩
          · exact ⟨h1, h2⟩
          · rw [h1] at h2; exact absurd ⟨hg, h2⟩ hno
    · right
      have e : i = l.length := by omega
      subst e
      rw [if_neg (by rw [decide_eq_true_eq]; omega)]
      refine ⟨_, rfl, hg, fun h => ?_⟩
      have := (hm h).2
      rw [List.take_length] at this
      exact this) fuel (0, []) ⟨0, [], Nat.zero_le _, rfl, Good.nil, fun _ => ⟨Nat.zero_le _, fun x => by simp⟩⟩ (lt_fuel (by show l.length - 0 ≤ _; omega))
  rw [hv]
  exact ⟨v, rfl, hr⟩

theorem fewT_m (l : List GR10Read) : ∃ b, m9_r10_Few ⟨l⟩ = some b ∧ (b = true → l.length ≤ 140) := by
  unfold m9_r10_Few
  dsimp only
  by_cases h : 140 < (l.length : Int)
  · rw [if_pos (decide_eq_true h)]; exact ⟨false, rfl, fun h => (by cases h)⟩
  rw [if_neg (by rw [decide_eq_true_eq]; exact h)]
  have hsh : ∀ r : GApiRange, ∃ v, m10_r06_Short r = some v := fun r => by obtain ⟨v, hv, _⟩ := short_m r; exact ⟨v, hv⟩
  rw [allR l (fun x => (m10_r06_Short x.Rng).getD false) false (m9_r10_Few_s2 ⟨l⟩) (by omega) (fun i x hx => by
    have hlt := (List.getElem?_eq_some_iff.1 hx).1
    unfold m9_r10_Few_s2
    dsimp only
    obtain ⟨v, hv⟩ := hsh x.Rng
    rw [if_pos (decide_eq_true (by omega)), idx_nat, hx, Option.bind_some, show (⟨x.Rng.Lo, x.Rng.Hi, x.Rng.Open⟩ : GApiRange) = x.Rng from rfl, hv, Option.bind_some, wI_id (by omega) (by omega)]
    cases v <;> rfl) (by
    unfold m9_r10_Few_s2
    dsimp only
    rw [if_neg (by rw [decide_eq_true_eq]; omega)])]
  cases l.all (fun x => (m10_r06_Short x.Rng).getD false) with
  | true => exact ⟨true, rfl, fun _ => by omega⟩
  | false => exact ⟨false, rfl, fun h => (by cases h)⟩

theorem ints_m {xs : List Int} (hl : xs.length ≤ 1000000) : m18_r10_Ints xs xs = some true := by
  unfold m18_r10_Ints
  rw [decide_eq_true rfl, if_neg (by decide), allT xs (m18_r10_Ints_s2 xs xs) (by omega) (fun i x hx => by
    have hlt := (List.getElem?_eq_some_iff.1 hx).1
    unfold m18_r10_Ints_s2
    rw [if_pos (decide_eq_true (by omega)), idx_nat, hx, Option.bind_some, Option.bind_some, wI_id (by omega) (by omega), decide_eq_true rfl, if_neg (nn (by rfl))]
    rfl) (by
    unfold m18_r10_Ints_s2
    rw [if_neg (by rw [decide_eq_true_eq]; omega)])]
  rfl

theorem hitLen (l : List GReadsRead) (k : List UInt8) : (riseV (hitTx l k)).length ≤ l.length := by
  refine Nat.le_trans (riseV_len _) ?_
  unfold hitTx
  rw [List.length_map]
  exact List.length_filter_le _ _

theorem readsHit_true (a0 : List GR10Read) (a1 : List UInt8) : m4_l10_ReadsHit a0 a1 = some true := by
  unfold m4_l10_ReadsHit
  rw [awake10, Option.bind_some]
  obtain ⟨b, hb, -⟩ := fewT_m a0
  rw [hb, Option.bind_some]
  cases b with
  | false => rfl
  | true =>
  rw [if_neg (nn (by rfl))]
  by_cases h100 : (100 : Int) < a0.length
  · rw [if_pos (decide_eq_true h100)]
  rw [if_neg (by rw [decide_eq_true_eq]; exact h100)]
  by_cases h50 : (50 : Int) < a1.length
  · rw [if_pos (decide_eq_true h50)]
  rw [if_neg (by rw [decide_eq_true_eq]; exact h50)]
  unfold m4_l10_ReadsHit_k2
  obtain ⟨b, hb, hg, hm⟩ := grown_m (l := a0) (by omega)
  have hm := hm (by omega)
  have hbl := hg.len
  have hhl := hitLen b a1
  rw [hb, Option.bind_some, hits_m (by omega), Option.bind_some]
  generalize hh : riseV (hitTx b a1) = h at hhl
  have hmem : ∀ t, t ∈ h ↔ ∃ x ∈ b, hasV x.Rng a1 = true ∧ x.Tx = t := fun t => by rw [← hh]; exact hitT_mem
  have hrise : RiseI h := by rw [← hh]; exact riseV_rise _
  have hl1 : iter (m4_l10_ReadsHit_s19 a0 a1 ⟨b⟩ h) fuel 0 = some (.inr ()) := allT a0 _ (by omega) (fun i x hx => by
    have hlt := (List.getElem?_eq_some_iff.1 hx).1
    have hxm : oR x ∈ a0.map oR := List.mem_map.2 ⟨x, List.mem_of_getElem? hx, rfl⟩
    unfold m4_l10_ReadsHit_s19
    rw [if_pos (decide_eq_true (by omega)), anyB h (fun t => decide (t = x.Tx)) (m4_l10_ReadsHit_s30 a0 h (i : Int)) (by omega) (fun j t c ht => by
      have hlt' := (List.getElem?_eq_some_iff.1 ht).1
      unfold m4_l10_ReadsHit_s30
      dsimp only
      rw [if_pos (decide_eq_true (by omega)), wI_id (by omega) (by omega)]
      cases c with
      | true => rw [if_pos rfl]; rfl
      | false => rw [if_neg (nn (by rfl)), idx_nat, idx_nat, ht, hx, Option.bind_some, Option.bind_some]; rfl) (fun c => by
      unfold m4_l10_ReadsHit_s30
      dsimp only
      rw [if_neg (by rw [decide_eq_true_eq]; omega)]), Option.bind_some]
    unfold m4_l10_ReadsHit_k20
    rw [idx_nat, hx, Option.bind_some, Option.bind_some, show (⟨x.Rng.Lo, x.Rng.Hi, x.Rng.Open⟩ : GApiRange) = x.Rng from rfl]
    have hk24 : ∀ v23 : GReadsTable × Int, (v23.2 = 0 → srV (oR x) = true) → m4_l10_ReadsHit_k24 a0 ⟨b⟩ (i : Int) v23 () = some (.cont ((i + 1 : Nat) : Int)) := fun v23 h23 => by
      unfold m4_l10_ReadsHit_k24
      rw [idx_nat, hx, Option.bind_some, Option.bind_some, show (⟨x.Rng.Lo, x.Rng.Hi, x.Rng.Open⟩ : GApiRange) = x.Rng from rfl, wI_id (by omega) (by omega)]
      by_cases he : v23.2 = 0
      · have hin : oR x ∈ b := (hm _).2 ⟨hxm, h23 he⟩
        rcases add_m (l := b) (by omega) x.Tx x.Rng with ⟨_, hs, ⟨hin', hee⟩ | ⟨hin', _⟩⟩ | ⟨hno, hee⟩
        · rw [hee, Option.bind_some, if_pos (decide_eq_true he)]
          dsimp only
          rw [if_neg (nn (by rfl)), decide_eq_true rfl, if_neg (nn (by rfl))]
          rfl
        · exact absurd hin hin'
        · exact absurd ⟨hg, h23 he⟩ hno
      · obtain ⟨v, hv⟩ : ∃ v, m12_reads_Add ⟨b⟩ x.Tx x.Rng = some v := by
          rcases add_m (l := b) (by omega) x.Tx x.Rng with ⟨_, hs, ⟨hin', hee⟩ | ⟨hin', ⟨_, hee⟩ | ⟨_, hee, _⟩⟩⟩ | ⟨hno, hee⟩ <;> exact ⟨_, hee⟩
        rw [hv, Option.bind_some, if_neg (by rw [decide_eq_true_eq]; exact he)]
        rfl
    rcases add_m (l := []) (by simp) x.Tx x.Rng with ⟨_, hs, ⟨hin', hee⟩ | ⟨hin', ⟨h8, hee⟩ | ⟨_, hee, _⟩⟩⟩ | ⟨hno, hee⟩
    · simp at hin'
    · simp at h8
    · rw [hee, Option.bind_some]
      dsimp only
      rw [if_pos (by rfl), Option.bind_some, rhas_m _ _ (by omega), Option.bind_some]
      cases hhs : hasV x.Rng a1 with
      | false =>
        rw [if_neg (nn (by rfl))]
        exact hk24 _ (fun _ => hs)
      | true =>
        rw [if_pos rfl]
        have hany : (h.any fun t => decide (t = x.Tx)) = true := List.any_eq_true.2 ⟨x.Tx, (hmem _).2 ⟨oR x, (hm _).2 ⟨hxm, hs⟩, hhs, rfl⟩, decide_eq_true rfl⟩
        rw [hany, if_neg (nn (by rfl))]
        exact hk24 _ (fun _ => hs)
    · rw [hee, Option.bind_some]
      dsimp only
      rw [if_neg (by decide)]
      exact hk24 _ (fun h => by cases h)) (by
    unfold m4_l10_ReadsHit_s19
    rw [if_neg (by rw [decide_eq_true_eq]; omega)])
  rw [hl1, Option.bind_some]
  dsimp only
  unfold m4_l10_ReadsHit_k5
  have hl2 : iter (m4_l10_ReadsHit_s8 a1 ⟨b⟩ h) fuel 0 = some (.inr ()) := allT h _ (by omega) (fun j t ht => by
    have hlt := (List.getElem?_eq_some_iff.1 ht).1
    have htm := List.mem_of_getElem? ht
    unfold m4_l10_ReadsHit_s8
    have hol : (ofV b t).length ≤ b.length := by unfold ofV; rw [List.length_map]; exact List.length_filter_le _ _
    rw [if_pos (decide_eq_true (by omega)), idx_nat, ht, Option.bind_some, of_m (by omega), Option.bind_some, anyB (ofV b t) (fun r => hasV r a1) (m4_l10_ReadsHit_s14 a1 (ofV b t)) (by omega) (fun i r c hr => by
      have hlt' := (List.getElem?_eq_some_iff.1 hr).1
      unfold m4_l10_ReadsHit_s14
      dsimp only
      rw [if_pos (decide_eq_true (by omega)), wI_id (by omega) (by omega)]
      cases c with
      | true => rw [if_pos rfl]; rfl
      | false => rw [if_neg (nn (by rfl)), idx_nat, hr, Option.bind_some, rhas_m _ _ (by omega), Option.bind_some]; rfl) (fun c => by
      unfold m4_l10_ReadsHit_s14
      dsimp only
      rw [if_neg (by rw [decide_eq_true_eq]; omega)]), Option.bind_some]
    obtain ⟨x, hx, hxh, hxt⟩ := (hmem t).1 htm
    have hany : ((ofV b t).any fun r => hasV r a1) = true := List.any_eq_true.2 ⟨x.Rng, List.mem_map.2 ⟨x, List.mem_filter.2 ⟨hx, decide_eq_true hxt⟩, rfl⟩, hxh⟩
    rw [hany]
    unfold m4_l10_ReadsHit_k11
    rw [if_neg (nn (by rfl)), wI_id (n := (j : Int) + 1) (by omega) (by omega)]
    by_cases h0 : (0 : Int) < j
    · rw [if_pos (decide_eq_true h0), wI_id (by omega) (by omega), show (j : Int) - 1 = ((j - 1 : Nat) : Int) by omega, idx_nat, idx_nat, ht, List.getElem?_eq_getElem (show j - 1 < h.length by omega), Option.bind_some, Option.bind_some]
      have := (List.pairwise_iff_getElem.1 hrise) (j - 1) j (by omega) hlt (by omega)
      have he := (List.getElem?_eq_some_iff.1 ht).2
      rw [he] at this
      rw [if_neg (by rw [decide_eq_true_eq]; omega)]
      rfl
    · rw [if_neg (by rw [decide_eq_true_eq]; exact h0)]
      rfl) (by
    unfold m4_l10_ReadsHit_s8
    rw [if_neg (by rw [decide_eq_true_eq]; omega)])
  rw [hl2, Option.bind_some]
  dsimp only
  unfold m4_l10_ReadsHit_k6
  rw [if_pos rfl, sane_t hg]
  rfl

/-- Ranges, held against themselves. -/
theorem sameR_m (r : GApiRange) : m43_r06_SameRange r r = some true := by
  unfold m43_r06_SameRange
  simp
theorem ranges_m {xs : List GApiRange} (hl : xs.length ≤ 1000000) : m25_r10_Ranges xs xs = some true := by
  unfold m25_r10_Ranges
  rw [decide_eq_true rfl, if_neg (by decide), allT xs (m25_r10_Ranges_s2 xs xs) (by omega) (fun i x hx => by
    have hlt := (List.getElem?_eq_some_iff.1 hx).1
    unfold m25_r10_Ranges_s2
    rw [if_pos (decide_eq_true (by omega)), idx_nat, hx, Option.bind_some, Option.bind_some, sameR_m, Option.bind_some, wI_id (by omega) (by omega), if_neg (nn (by rfl))]
    rfl) (by
    unfold m25_r10_Ranges_s2
    rw [if_neg (by rw [decide_eq_true_eq]; omega)])]
  rfl

/-- The document's numbers, each once, rising. -/
theorem rise_m {l : List Int} (hl : l.length ≤ 1000000) : ∃ r, m30_r10_Rise l = some r ∧ RiseI r ∧ ∀ x, x ∈ r ↔ x ∈ l := by
  unfold m30_r10_Rise
  obtain ⟨v, hv, hr⟩ := iterB_inv (f := m30_r10_Rise_s2 l) (P := fun s => ∃ (i : Nat) (o z : List Int), i ≤ l.length ∧ s = (o, (i : Int), z) ∧ o.length ≤ i ∧ RiseI o ∧ ∀ x, x ∈ o ↔ x ∈ l.take i) (μ := fun s => l.length - s.2.1.toNat) (R := fun r => RiseI r ∧ ∀ x, x ∈ r ↔ x ∈ l) (by
    rintro _ ⟨i, o, z, hi, rfl, hol, ho, hm⟩
    unfold m30_r10_Rise_s2
    dsimp only
    rcases Nat.lt_or_ge i l.length with hlt | hge
    · left
      rw [if_pos (decide_eq_true (by omega))]
      obtain ⟨w, hw, hwr⟩ := iterB_inv (f := m30_r10_Rise_s13 l (o, (i : Int), z)) (P := fun s => ∃ k : Nat, k ≤ o.length ∧ s = (k : Int) ∧ ∀ x ∈ o.take k, x < l[i]) (μ := fun s => o.length - s.toNat) (R := fun s => ∃ k : Nat, k ≤ o.length ∧ s = (k : Int) ∧ (∀ x ∈ o.take k, x < l[i]) ∧ ∀ h : k < o.length, l[i] ≤ o[k]) (by
        rintro _ ⟨k, hk, rfl, hkl⟩
        unfold m30_r10_Rise_s13
        dsimp only
        rcases Nat.lt_or_ge k o.length with hkt | hkg
        · rw [if_pos (decide_eq_true (by omega)), idx_nat, idx_nat, List.getElem?_eq_getElem hkt, List.getElem?_eq_getElem hlt, Option.bind_some, Option.bind_some]
          by_cases hc : o[k] < l[i]
          · rw [if_pos (decide_eq_true hc), wI_id (by omega) (by omega)]
            refine .inl ⟨_, rfl, ⟨k + 1, hkt, rfl, fun x hx => ?_⟩, by simp only [Int.toNat_natCast]; omega⟩
            rw [List.take_succ_eq_append_getElem hkt, List.mem_append, List.mem_singleton] at hx
            rcases hx with hx | rfl
            · exact hkl x hx
            · exact hc
          · rw [if_neg (by rw [decide_eq_true_eq]; exact hc)]
            exact .inr ⟨_, rfl, k, hk, rfl, hkl, fun _ => by omega⟩
        · rw [if_neg (by rw [decide_eq_true_eq]; omega)]
          exact .inr ⟨_, rfl, k, hk, rfl, hkl, fun h => absurd h (by omega)⟩) fuel 0 ⟨0, Nat.zero_le _, rfl, fun x hx => by simp at hx⟩ (lt_fuel (by show o.length - 0 ≤ _; omega))
      rw [hw, Option.bind_some]
      obtain ⟨k, hk, rfl, hkl, hkg⟩ := hwr
      have hmt : ∀ x, x ∈ l.take (i + 1) ↔ x ∈ o ∨ x = l[i] := fun x => by
        rw [List.take_succ_eq_append_getElem hlt, List.mem_append, List.mem_singleton, hm]
      have hk4 : (∀ h : k < o.length, l[i] < o[k]) → ∃ s', m30_r10_Rise_k4 l (o, (i : Int), z) (k : Int) () = some (.cont s') ∧ (∃ (i : Nat) (o z : List Int), i ≤ l.length ∧ s' = (o, (i : Int), z) ∧ o.length ≤ i ∧ RiseI o ∧ ∀ x, x ∈ o ↔ x ∈ l.take i) ∧ l.length - s'.2.1.toNat < l.length - ((i : Nat) : Int).toNat := fun hgt => by
        unfold m30_r10_Rise_k4
        dsimp only
        rw [cut_of (by omega) (by omega) (by omega), Option.bind_some]
        have e1 : (o.drop (0 : Int).toNat).take ((k : Int).toNat - (0 : Int).toNat) = o.take k := by simp
        rw [e1]
        have hlen1 : (o.take k).length = k := by rw [List.length_take]; omega
        rw [if_pos (by rw [hlen1, List.length_nil]; omega), idx_nat, List.getElem?_eq_getElem hlt, Option.bind_some, if_pos (by rw [List.nil_append, hlen1, List.length_singleton]; omega), cut_of (by omega) (by omega) (by omega), Option.bind_some]
        have e2 : (o.drop (k : Int).toNat).take ((o.length : Int).toNat - (k : Int).toNat) = o.drop k := by
          rw [Int.toNat_natCast, Int.toNat_natCast, List.take_of_length_le (by rw [List.length_drop]; omega)]
        rw [e2, if_pos (by rw [List.nil_append, List.length_append, hlen1, List.length_singleton, List.length_drop]; omega), wI_id (by omega) (by omega)]
        refine ⟨_, rfl, ⟨i + 1, _, z, hlt, rfl, ?_, ?_, fun x => ?_⟩, by dsimp only; omega⟩
        · rw [List.nil_append, List.length_append, List.length_append, hlen1, List.length_singleton, List.length_drop]; omega
        · rw [List.nil_append]
          have hsplit : o = o.take k ++ o.drop k := (List.take_append_drop k o).symm
          have hor := ho
          rw [hsplit] at hor
          obtain ⟨o1, o2, o3⟩ := List.pairwise_append.1 hor
          have hdrop : ∀ y ∈ o.drop k, l[i] < y := fun y hy => by
            obtain ⟨q, hq, rfl⟩ := List.getElem_of_mem hy
            rw [List.getElem_drop]
            rw [List.length_drop] at hq
            have hkk : k < o.length := by omega
            have := hgt hkk
            rcases Nat.eq_zero_or_pos q with h0 | h0
            · subst h0; exact this
            · have := (List.pairwise_iff_getElem.1 ho) k (k + q) hkk (by omega) (by omega)
              omega
          refine List.pairwise_append.2 ⟨List.pairwise_append.2 ⟨o1, List.pairwise_singleton _ _, fun a ha b hb => by rw [List.mem_singleton.1 hb]; exact hkl a ha⟩, o2, fun a ha b hb => ?_⟩
          rcases List.mem_append.1 ha with ha | ha
          · exact o3 a ha b hb
          · rw [List.mem_singleton.1 ha]; exact hdrop b hb
        · rw [hmt, List.nil_append, List.mem_append, List.mem_append, List.mem_singleton]
          have : x ∈ o ↔ x ∈ o.take k ∨ x ∈ o.drop k := by rw [← List.mem_append, List.take_append_drop]
          rw [this]
          constructor
          · rintro ((h | h) | h)
            · exact .inl (.inl h)
            · exact .inr h
            · exact .inl (.inr h)
          · rintro ((h | h) | h)
            · exact .inl (.inl h)
            · exact .inr h
            · exact .inl (.inr h)
      unfold m30_r10_Rise_k3
      dsimp only
      rcases Nat.lt_or_ge k o.length with hkt | hkge
      · rw [if_pos (decide_eq_true (by omega)), idx_nat, idx_nat, List.getElem?_eq_getElem hkt, List.getElem?_eq_getElem hlt, Option.bind_some, Option.bind_some]
        by_cases he : o[k] = l[i]
        · rw [if_pos (decide_eq_true he), wI_id (by omega) (by omega)]
          refine ⟨_, rfl, ⟨i + 1, o, z, hlt, rfl, by omega, ho, fun x => ?_⟩, by dsimp only; omega⟩
          rw [hmt]
          constructor
          · exact .inl
          · rintro (h | rfl)
            · exact h
            · rw [← he]; exact List.getElem_mem _
        · rw [if_neg (by rw [decide_eq_true_eq]; exact he)]
          exact hk4 fun h => by have := hkg h; omega
      · rw [if_neg (by rw [decide_eq_true_eq]; omega)]
        exact hk4 fun h => absurd h (by omega)
    · right
      have e : i = l.length := by omega
      subst e
      rw [if_neg (by rw [decide_eq_true_eq]; omega)]
      rw [List.take_length] at hm
      exact ⟨_, rfl, ho, hm⟩) fuel ([], 0, []) ⟨0, [], [], Nat.zero_le _, rfl, Nat.zero_le _, List.Pairwise.nil, fun x => by simp⟩ (lt_fuel (by show l.length - 0 ≤ _; omega))
  rw [hv, Option.bind_some]
  exact ⟨v, rfl, hr⟩
theorem rise_is {l : List Int} (hl : l.length ≤ 1000000) {r : List Int} (hr : RiseI r) (hm : ∀ x, x ∈ r ↔ x ∈ l) : m30_r10_Rise l = some r := by
  obtain ⟨v, hv, h1, h2⟩ := rise_m hl
  rw [hv, riseI_ext h1 hr fun x => (h2 x).trans (hm x).symm]

theorem filter_parts {α : Type} (p : α → Bool) : ∀ l : List α, (l.filter p).length + (l.filter (fun x => !p x)).length = l.length
  | [] => rfl
  | x :: l => by
    have := filter_parts p l
    rw [List.filter_cons, List.filter_cons, List.length_cons]
    cases p x <;> simp <;> omega
theorem readsGo_true (a0 : List GR10Read) (a1 : List Int) (a2 : List UInt8) : m5_l10_ReadsGo a0 a1 a2 = some true := by
  unfold m5_l10_ReadsGo
  rw [awake10, Option.bind_some]
  obtain ⟨b, hb, hf⟩ := fewT_m a0
  rw [hb, Option.bind_some]
  cases b with
  | false => rfl
  | true =>
  have hl := hf rfl
  rw [if_neg (nn (by rfl))]
  by_cases h1 : (50 : Int) < a1.length
  · rw [if_pos (decide_eq_true h1)]
  rw [if_neg (by rw [decide_eq_true_eq]; exact h1)]
  by_cases h2 : (50 : Int) < a2.length
  · rw [if_pos (decide_eq_true h2)]
  rw [if_neg (by rw [decide_eq_true_eq]; exact h2)]
  unfold m5_l10_ReadsGo_k2
  obtain ⟨b, hb, hg, -⟩ := grown_m (l := a0) (by omega)
  have hbl := hg.len
  have hdl := onlyV_len b a1 false
  have hsl := onlyV_len b a1 true
  have hH1 := hitLen b a2
  have hH2 := hitLen (onlyV b a1 false) a2
  have hH3 := hitLen (onlyV b a1 true) a2
  rw [hb, Option.bind_some, drop_m (by omega) a1 (by omega), Option.bind_some, keep_m (by omega) a1 (by omega), Option.bind_some, hits_m (by omega), Option.bind_some, hits_m (by omega), Option.bind_some, if_pos (by rw [List.length_nil]; omega), hits_m (by omega), Option.bind_some, if_pos (by rw [List.nil_append]; omega)]
  have hloop : iter (m5_l10_ReadsGo_s16 a1 ⟨b⟩ ⟨onlyV b a1 false⟩ ⟨onlyV b a1 true⟩) fuel 0 = some (.inr ()) := allT a1 _ (by omega) (fun i t ht => by
    have hlt := (List.getElem?_eq_some_iff.1 ht).1
    have htm := List.mem_of_getElem? ht
    unfold m5_l10_ReadsGo_s16
    have e0 : ofV (onlyV b a1 false) t = [] := by
      unfold ofV
      rw [List.map_eq_nil_iff, List.filter_eq_nil_iff]
      intro x hx hxt
      obtain ⟨_, hn⟩ := onlyV_mem.1 hx
      rw [decide_eq_true_eq] at hxt
      rw [hxt, decide_eq_true htm] at hn
      cases hn
    have e1 : ofV (onlyV b a1 true) t = ofV b t := by
      unfold ofV onlyV
      rw [List.filter_filter]
      congr 1
      apply List.filter_congr
      intro x _
      by_cases hx : x.Tx = t
      · rw [hx, decide_eq_true rfl, decide_eq_true htm]; rfl
      · rw [decide_eq_false hx]; rfl
    have hol : (ofV b t).length ≤ b.length := by unfold ofV; rw [List.length_map]; exact List.length_filter_le _ _
    rw [if_pos (decide_eq_true (by omega)), idx_nat, ht, Option.bind_some, of_m (by omega), Option.bind_some, e0, if_neg (nn (by rfl)), Option.bind_some, of_m (by omega), Option.bind_some, Option.bind_some, of_m (by omega), Option.bind_some, e1, ranges_m (by omega), Option.bind_some, if_neg (nn (by rfl)), wI_id (by omega) (by omega)]
    rfl) (by
    unfold m5_l10_ReadsGo_s16
    rw [if_neg (by rw [decide_eq_true_eq]; omega)])
  rw [hloop, Option.bind_some]
  dsimp only
  unfold m5_l10_ReadsGo_k11
  have hpart : (onlyV b a1 false).length + (onlyV b a1 true).length = b.length := by
    unfold onlyV
    have := filter_parts (fun x : GReadsRead => decide (x.Tx ∈ a1) == false) b
    have h2 : b.filter (fun x => !(decide (x.Tx ∈ a1) == false)) = b.filter (fun x => decide (x.Tx ∈ a1) == true) := List.filter_congr fun x _ => by cases decide (x.Tx ∈ a1) <;> rfl
    rw [h2] at this
    exact this
  have hri : m30_r10_Rise (([] ++ riseV (hitTx (onlyV b a1 false) a2)) ++ riseV (hitTx (onlyV b a1 true) a2)) = some (riseV (hitTx b a2)) := rise_is (by rw [List.nil_append, List.length_append]; omega) (riseV_rise _) fun t => by
    rw [List.nil_append, List.mem_append, hitT_mem, hitT_mem, hitT_mem]
    constructor
    · rintro ⟨x, hx, h⟩
      by_cases hin : x.Tx ∈ a1
      · exact .inr ⟨x, onlyV_mem.2 ⟨hx, decide_eq_true hin⟩, h⟩
      · exact .inl ⟨x, onlyV_mem.2 ⟨hx, decide_eq_false hin⟩, h⟩
    · rintro (⟨x, hx, h⟩ | ⟨x, hx, h⟩) <;> exact ⟨x, (onlyV_mem.1 hx).1, h⟩
  have hlen : (riseV (hitTx b a2)).length = (riseV (hitTx (onlyV b a1 false) a2) ++ riseV (hitTx (onlyV b a1 true) a2)).length := by
    have hnd : ∀ l : List Int, RiseI l → l.Nodup := fun l h => h.imp fun h e => by rw [e] at h; exact Int.lt_irrefl _ h
    refine List.Perm.length_eq ((List.perm_ext_iff_of_nodup (hnd _ (riseV_rise _)) (List.nodup_append.2 ⟨hnd _ (riseV_rise _), hnd _ (riseV_rise _), fun x hx y hy e => ?_⟩)).2 fun t => ?_)
    · obtain ⟨p, hp, _, hpt⟩ := hitT_mem.1 hx
      obtain ⟨q, hq, _, hqt⟩ := hitT_mem.1 hy
      have h1 := (onlyV_mem.1 hp).2
      have h2 := (onlyV_mem.1 hq).2
      rw [hpt, e] at h1
      rw [hqt, h1] at h2
      cases h2
    · rw [List.mem_append, hitT_mem, hitT_mem, hitT_mem]
      constructor
      · rintro ⟨x, hx, h⟩
        by_cases hin : x.Tx ∈ a1
        · exact .inr ⟨x, onlyV_mem.2 ⟨hx, decide_eq_true hin⟩, h⟩
        · exact .inl ⟨x, onlyV_mem.2 ⟨hx, decide_eq_false hin⟩, h⟩
      · rintro (⟨x, hx, h⟩ | ⟨x, hx, h⟩) <;> exact ⟨x, (onlyV_mem.1 hx).1, h⟩
  dsimp only
  rw [if_pos rfl, wI_id (by omega) (by omega), if_pos (decide_eq_true (by omega)), hri, Option.bind_some, ints_m (by omega), Option.bind_some, if_pos rfl, if_pos (decide_eq_true (by rw [List.nil_append, hlen])), sane_t (onlyV_good hg a1 false), Option.bind_some, if_pos rfl, sane_t (onlyV_good hg a1 true)]
  rfl
end Go.Proofs.Ytkbkpafidgfhdaa.Abs
