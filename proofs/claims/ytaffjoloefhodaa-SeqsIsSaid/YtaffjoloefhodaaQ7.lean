/-
  Rows of numbers turned round.
-/
import Derived.Test.YtaffjoloefhodaaQ6
namespace Go.Proofs.Ytaffjoloefhodaa.Abs
open Go.RowKit

/-- The numbers below k, those from i on still 0. -/
def rowA (k i : Nat) : List Int := (List.range k).map fun j => if j < i then (j : Int) else 0
theorem rowA_len (k i : Nat) : (rowA k i).length = k := by simp [rowA]
theorem rowA_set {k i : Nat} (h : i < k) : (rowA k i).set i (i : Int) = rowA k (i + 1) := by
  apply List.ext_getElem?
  intro j
  rw [List.getElem?_set]
  by_cases e : i = j
  · subst e
    rw [if_pos rfl, if_pos (by rw [rowA_len]; exact h)]
    simp [rowA, h]
  · rw [if_neg e]
    unfold rowA
    simp only [List.getElem?_map]
    by_cases hj : j < k
    · rw [List.getElem?_range hj]
      simp only [Option.map_some]
      by_cases h1 : j < i
      · rw [if_pos h1, if_pos (by omega)]
      · rw [if_neg h1, if_neg (by omega)]
    · rw [List.getElem?_eq_none (by simp; omega)]; rfl
theorem rowA_mem {k : Nat} {y : Int} : y ∈ rowA k k ↔ 0 ≤ y ∧ y < k := by
  unfold rowA
  rw [List.mem_map]
  constructor
  · rintro ⟨j, h1, h2⟩
    rw [List.mem_range] at h1
    rw [if_pos h1] at h2
    omega
  · rintro ⟨h1, h2⟩
    exact ⟨y.toNat, by rw [List.mem_range]; omega, by rw [if_pos (by omega)]; omega⟩
theorem rowA_nodup (k : Nat) : (rowA k k).Nodup := by
  have : rowA k k = (List.range k).map fun (j : Nat) => (j : Int) := by
    unfold rowA
    refine List.map_congr_left (fun j hj => ?_)
    rw [if_pos (List.mem_range.1 hj)]
  rw [this]
  unfold List.Nodup
  rw [List.pairwise_map]
  exact List.Pairwise.imp (fun h e => h (Int.ofNat.inj e)) (List.nodup_range (n := k))
theorem swap_perm {L : List Int} {a b : Nat} {x y : Int} (ha : L[a]? = some x) (hb : L[b]? = some y) : ((L.set a y).set b x).Perm L := by
  obtain ⟨h1, rfl⟩ := List.getElem?_eq_some_iff.1 ha
  obtain ⟨h2, rfl⟩ := List.getElem?_eq_some_iff.1 hb
  exact List.set_set_perm h1 h2
theorem fresh_of {L : List Int} (hn : L.Nodup) {i : Nat} {x : Int} (h : L[i]? = some x) : x ∉ L.take i := by
  intro hm
  obtain ⟨j, hj, e⟩ := List.getElem_of_mem hm
  obtain ⟨hi, e2⟩ := List.getElem?_eq_some_iff.1 h
  rw [List.getElem_take] at e
  have hji : j < i := by rw [List.length_take] at hj; omega
  have := (List.getElem_inj hn).1 (e.trans e2.symm)
  omega
theorem take_next {L : List Int} {i : Nat} {x y : Int} (h : L[i]? = some x) : y ∈ L.take (i + 1) ↔ y = x ∨ y ∈ L.take i := by
  rw [List.take_add_one, h]
  simp [or_comm]
/-- All below k seen, and nothing else. -/
theorem order_end {b : Int} {u : BitVec 64} {k : Nat} (hk : k ≤ 32) (hs : saneM b u = true) (h : ∀ y, saneSeqM y = true → (seenM b u y = true ↔ 0 ≤ y ∧ y < (k : Int))) : b = k ∧ u = 0#64 := by
  have g := (saneM_iff b u).1 hs
  have hbk : b = k := by
    have h1 : ¬ b < k := by
      intro hlt
      have hq : saneSeqM b = true := (saneSeqM_iff b).2 ⟨g.1, by omega⟩
      have := (h b hq).2 ⟨g.1, hlt⟩
      unfold seenM at this
      rw [hs, hq, decide_eq_false (Int.lt_irrefl b), show b - b = 0 by omega, show (0 : Int).toNat = 0 from rfl, g.2.2.1] at this
      cases this
    have hq : saneSeqM (k : Int) = true := (saneSeqM_iff _).2 ⟨by omega, by omega⟩
    have h2 : ¬ (k : Int) < b := by
      intro hlt
      have : seenM b u k = true := by
        unfold seenM
        rw [hs, hq, decide_eq_true hlt]; rfl
      have := (h _ hq).1 this
      omega
    omega
  refine ⟨hbk, ?_⟩
  apply BitVec.eq_of_getLsbD_eq
  intro j hj
  have hq : saneSeqM (b + (j : Int)) = true := (saneSeqM_iff _).2 ⟨by omega, by omega⟩
  have h1 := seen_digit hs hj (by omega)
  have h2 : seenM b u (b + (j : Int)) = false := by
    cases hh : seenM b u (b + (j : Int)) with
    | false => rfl
    | true => have := (h _ hq).1 hh; omega
  rw [← h1, h2]; simp
theorem miss3 {k : Nat} (hk : k ≤ 32) : missM (k : Int) 0#64 3 = [(k : Int), k + 1, k + 2] := by
  have hs : saneM (k : Int) 0#64 = true := by
    rw [saneM_iff]
    exact ⟨by omega, by omega, BitVec.getLsbD_zero, BitVec.zero_ushiftRight⟩
  have e : unseenM (k : Int) 0#64 3 = [(k : Int), k + 1, k + 2] := by
    have z : ∀ j, (0#64).getLsbD j = false := fun j => BitVec.getLsbD_zero
    rw [unseenM, unseenM, unseenM, unseenM, if_pos ⟨by omega, z _⟩, if_pos ⟨by omega, z _⟩, if_pos ⟨by omega, z _⟩]
    simp
  have := miss_stop (b := (k : Int)) (u := 0#64) (most := 3) (i := 3) hs (by omega) (.inr (by rw [e]; exact Int.le_refl 3)) (by rw [e]; exact Int.le_refl 3)
  rw [this, e]
theorem base_first {b : Int} {u : BitVec 64} (hs : saneM b u = true) (h : b ≤ 4294967295) : (missM b u 64)[0]? = some b := by
  have g := (saneM_iff b u).1 hs
  have := unseen_get (b := b) (u := u) (i := 0) (by omega) ⟨by omega, g.2.2.1⟩
  rw [show (unseenM b u 0).length = 0 from rfl, show b + ((0 : Nat) : Int) = b by omega] at this
  rw [miss_all hs]
  exact this
end Go.Proofs.Ytaffjoloefhodaa.Abs
