/-
  What stands beneath the four laws of the timers, part G.
-/
import Derived.Test.YtnphcnhejgpjgaaF
set_option linter.unusedVariables false
set_option linter.unusedSimpArgs false
section
namespace Go.Proofs.Ytnphcnhejgpjgaa.Abs
theorem set_ok {now : Int} {l : List GTimersTimer} (h : Snd now l) {id after : Int} (h0 : 0 ≤ id) (h1 : 1 ≤ after) (h2 : after ≤ 1099511627776) :
    setP now l id after = if 64 ≤ (clr l id).length then (⟨0, []⟩, 8) else (⟨now, ins ⟨id, now + after⟩ (clr l id)⟩, 0) := by
  unfold setP
  rw [if_pos ⟨h, h0, h1, h2⟩]
theorem tick_ok {now : Int} {l : List GTimersTimer} (h : Snd now l) {n : Int} (h0 : 0 ≤ n) (h1 : ¬ 1099511627776 - now < n) : tickP now l n = (⟨now + n, l.filter fun x => decide (now + n < x.At)⟩, dueIds l (now + n), 0) := by
  unfold tickP
  rw [if_pos ⟨h, h0⟩, if_neg h1]
theorem tick_lim {now : Int} {l : List GTimersTimer} (h : Snd now l) {n : Int} (h0 : 0 ≤ n) (h1 : 1099511627776 - now < n) : tickP now l n = (⟨0, []⟩, [], 11) := by
  unfold tickP
  rw [if_pos ⟨h, h0⟩, if_pos h1]
theorem set_snd {now : Int} {l : List GTimersTimer} {id after : Int} (h : (setP now l id after).2 = 0) : Snd (setP now l id after).1.Now (setP now l id after).1.L := by
  unfold setP at h ⊢
  split at h
  · rename_i hc
    rw [if_pos hc]
    split at h
    · cases h
    · rename_i h6
      rw [if_neg h6]
      exact hc.1.set hc.2.1 hc.2.2.1 hc.2.2.2 h6
  · cases h
theorem tick_snd {now : Int} {l : List GTimersTimer} {n : Int} (h : (tickP now l n).2.2 = 0) : Snd (tickP now l n).1.Now (tickP now l n).1.L := by
  unfold tickP at h ⊢
  split at h
  · rename_i hc
    rw [if_pos hc]
    split at h
    · cases h
    · rename_i h6
      rw [if_neg h6]
      exact hc.1.tick hc.2 h6
  · cases h
theorem sort_one (x : GTimersTimer) : sortAt [x] = [x] := (sortAt_uniq (.refl _) (List.pairwise_singleton ..)).symm
theorem awake_m : m7_l13_awake = some true := by
  unfold m7_l13_awake
  rw [set_m]
  simp only [Option.bind_some]
  rw [show setP 0 [] 3 5 = (⟨0, [⟨3, 5⟩]⟩, 0) by rw [set_ok snd_nil (by decide) (by decide) (by decide)]; rfl]
  have h1 : Snd 0 [(⟨3, 5⟩ : GTimersTimer)] := ⟨by decide, by decide, by decide, List.pairwise_singleton .., fun x hx => by obtain rfl := List.mem_singleton.1 hx; decide⟩
  simp only [tick_m, Option.bind_some]
  have d1 : dueIds [(⟨3, 5⟩ : GTimersTimer)] (0 + 4) = [] := due_none fun x hx => by obtain rfl := List.mem_singleton.1 hx; decide
  rw [tick_ok h1 (by decide) (by decide), d1]
  have f1 : ([(⟨3, 5⟩ : GTimersTimer)].filter fun x => decide ((0 : Int) + 4 < x.At)) = [⟨3, 5⟩] := rfl
  rw [f1]
  have h2 : Snd (0 + 4) [(⟨3, 5⟩ : GTimersTimer)] := ⟨by decide, by decide, by decide, List.pairwise_singleton .., fun x hx => by obtain rfl := List.mem_singleton.1 hx; decide⟩
  obtain ⟨x, hx, _, hn⟩ := next_m ⟨0 + 4, [⟨3, 5⟩]⟩ h2 (by simp)
  obtain rfl := List.mem_singleton.1 hx
  rw [hn]
  simp only [Option.bind_some]
  have d2 : dueIds [(⟨3, 5⟩ : GTimersTimer)] (0 + 4 + 1) = [3] := by
    unfold dueIds
    rw [sort_one]
    rfl
  rw [tick_ok h2 (by decide) (by decide), d2]
  rfl

/-- Timers that have grown may be. -/
theorem grown_m (l : List GL13Act) (hl : l.length ≤ 1000) : ∃ a : GTimersTable, m24_l13_grown l = some a ∧ Snd a.Now a.L := by
  unfold m24_l13_grown
  obtain ⟨v, hv, hr⟩ := iterB_inv (f := m24_l13_grown_s2 l) (P := fun s => ∃ i : Nat, i ≤ l.length ∧ s.1 = (i : Int) ∧ Snd s.2.1 s.2.2) (μ := fun s => l.length - s.1.toNat) (R := fun r => Snd r.1 r.2) (by
    rintro ⟨k, now, t⟩ ⟨i, hi, hk, hS⟩
    obtain rfl : k = (i : Int) := hk
    dsimp only at hS
    unfold m24_l13_grown_s2
    dsimp only
    rcases Nat.lt_or_ge i l.length with hlt | hge
    · left
      have hx := List.getElem?_eq_getElem hlt
      rw [if_pos (decide_eq_true (by omega)), idx_nat, hx]
      simp only [Option.bind_some]
      have go : ∀ (now' : Int) (t' : List GTimersTimer), Snd now' t' → ∃ s', (some (LB.cont (((i + 1 : Nat) : Int), now', t')) : Option (LB (Int × Int × List GTimersTimer) (Int × List GTimersTimer))) = some (.cont s') ∧ (∃ i : Nat, i ≤ l.length ∧ s'.1 = (i : Int) ∧ Snd s'.2.1 s'.2.2) ∧ l.length - s'.1.toNat < l.length - (i : Int).toNat := by
        intro now' t' h
        refine ⟨_, rfl, ⟨i + 1, hlt, rfl, h⟩, ?_⟩
        simp only [Int.toNat_natCast]
        omega
      have main : ∀ b4 : Bool, ∃ s', m24_l13_grown_k4 l ((i : Int), now, t) l[i] b4 = some (.cont s') ∧ (∃ i : Nat, i ≤ l.length ∧ s'.1 = (i : Int) ∧ Snd s'.2.1 s'.2.2) ∧ l.length - s'.1.toNat < l.length - (i : Int).toNat := by
        intro b4
        unfold m24_l13_grown_k4
        dsimp only
        rw [idx_nat, hx]
        simp only [Option.bind_some]
        rw [wI_succ (by omega)]
        cases b4 with
        | true =>
          rw [if_pos rfl, set_m]
          simp only [Option.bind_some]
          by_cases e : (setP now t l[i].ID l[i].N).2 = 0
          · rw [if_pos (decide_eq_true e)]
            exact go _ _ (set_snd e)
          · rw [if_neg (by simpa using e)]
            exact go _ _ hS
        | false =>
          rw [if_neg (by simp)]
          by_cases c2 : l[i].What = 2
          · rw [if_pos (decide_eq_true c2), clear_m _ (by have := hS.len; show t.length ≤ 1000; omega)]
            simp only [Option.bind_some]
            exact go _ _ (hS.clr _)
          · rw [if_neg (by simpa using c2)]
            by_cases c3 : l[i].What = 3
            · rw [if_pos (decide_eq_true c3), tick_m]
              simp only [Option.bind_some]
              by_cases e : (tickP now t l[i].N).2.2 = 0
              · rw [if_pos (decide_eq_true e)]
                exact go _ _ (tick_snd e)
              · rw [if_neg (by simpa using e)]
                exact go _ _ hS
            · rw [if_neg (by simpa using c3)]
              exact go _ _ hS
      split
      · exact main _
      · exact main _
    · right
      rw [if_neg (by simp; omega)]
      exact ⟨_, rfl, hS⟩) fuel (0, 0, []) ⟨0, Nat.zero_le _, rfl, snd_nil⟩ (lt_fuel (by show l.length - _ ≤ _; omega))
  rw [hv]
  exact ⟨⟨v.1, v.2⟩, rfl, hr⟩

/-! ### bits -/
theorem and_bits (a : Int) (k : Nat) (hk : k < 2 ^ 63) : 0 ≤ wI ((BitVec.ofInt 64 a &&& BitVec.ofInt 64 (k : Int)).toNat : Int) ∧ wI ((BitVec.ofInt 64 a &&& BitVec.ofInt 64 (k : Int)).toNat : Int) ≤ k := by
  have h : (BitVec.ofInt 64 a &&& BitVec.ofInt 64 (k : Int)).toNat ≤ k := by
    rw [BitVec.toNat_and]
    refine Nat.le_trans Nat.and_le_right ?_
    rw [BitVec.toNat_ofInt]
    omega
  have e : wI ((BitVec.ofInt 64 a &&& BitVec.ofInt 64 (k : Int)).toNat : Int) = ((BitVec.ofInt 64 a &&& BitVec.ofInt 64 (k : Int)).toNat : Int) := wI_id (by omega) (by omega)
  rw [e]
  omega
end Go.Proofs.Ytnphcnhejgpjgaa.Abs
end
