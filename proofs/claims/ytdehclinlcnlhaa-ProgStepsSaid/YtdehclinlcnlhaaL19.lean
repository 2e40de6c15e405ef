/-
  A program's next step; it ends.
-/
import Derived.Test.YtdehclinlcnlhaaK19
namespace Go.Proofs.Ytdehclinlcnlhaa.Abs


def goodO (o : GProgOp) : Prop := (0 ≤ o.A ∧ o.A ≤ 7) ∧ (0 ≤ o.B ∧ o.B ≤ 7) ∧ 0 ≤ o.N ∧ o.N ≤ 4294967295
theorem within_m (a b : Int) : m37_prog_within a b = some (decide (0 ≤ a) && decide (a ≤ b)) := by
  unfold m37_prog_within
  cases decide (0 ≤ a) <;> rfl
theorem keySane_tot (k : List UInt8) : ∃ v, m48_keys_Sane k = some v := by
  unfold m48_keys_Sane
  repeat (first | exact ⟨_, rfl⟩ | split)
theorem flags_m (w : Int) : m46_prog_flagsOf w = some (if w = 1 then ⟨true, false, false⟩ else if w = 2 ∨ w = 3 then ⟨true, false, true⟩ else if w = 4 then ⟨false, true, false⟩ else ⟨false, false, false⟩) := by
  unfold m46_prog_flagsOf m46_prog_flagsOf_k1
  by_cases h1 : w = 1
  · simp [h1]
  by_cases h2 : w = 2
  · simp [h2]
  by_cases h3 : w = 3
  · simp [h3]
  by_cases h4 : w = 4
  · simp [h4]
  simp [h1, h2, h3, h4]
theorem asks_m (o : GProgOp) : m32_prog_asks o = some (decide (1 ≤ o.What) && decide (o.What ≤ 4)) := by
  unfold m32_prog_asks
  rw [flags_m, Option.bind_some]
  generalize o.What = w
  by_cases h1 : w = 1
  · simp [h1]
  by_cases h2 : w = 2
  · simp [h2]
  by_cases h3 : w = 3
  · simp [h3]
  by_cases h4 : w = 4
  · simp [h4]
  simp [h1, h2, h3, h4]
  omega
theorem hasRange_tot (r : GApiRange) : ∃ v, m47_prog_hasRange r = some v := by
  unfold m47_prog_hasRange
  repeat (first | exact ⟨_, rfl⟩ | split)
theorem empty_tot (r : GApiRange) : ∃ v, m66_keys_Empty r = some v := by
  have hk : ∀ c, ∃ v, m66_keys_Empty_k1 r c = some v := fun c => by
    unfold m66_keys_Empty_k1
    cases c with
    | true => exact ⟨_, rfl⟩
    | false => exact ⟨_, rfl⟩
  unfold m66_keys_Empty
  split
  · exact ⟨_, rfl⟩
  split
  · split
    · rename_i h1 h2
      have h2 := of_decide_eq_true h2
      obtain ⟨x, hx, -⟩ := idx_get (xs := r.Hi) (j := 0) (by decide) (by omega)
      rw [hx, Option.bind_some]
      exact hk _
    · exact hk _
  · exact hk _
theorem range_tot (r : GApiRange) : ∃ v, m49_prog_saneRange r = some v := by
  have h1 : ∃ v, m65_keys_SaneRange r = some v := by
    unfold m65_keys_SaneRange
    repeat (first | exact ⟨_, rfl⟩ | split)
  obtain ⟨v, hv⟩ := h1
  obtain ⟨u, hu⟩ := empty_tot r
  unfold m49_prog_saneRange
  rw [hv, hu, Option.bind_some, Option.bind_some]
  repeat (first | exact ⟨_, rfl⟩ | split)
theorem saneOp_m (o : GProgOp) (ro : Bool) : ∃ v, m31_prog_saneOp o ro = some v ∧ (v = true → goodO o ∧ (ro = true → o.What ≠ 2 ∧ o.What ≠ 3)) := by
  unfold m31_prog_saneOp
  rw [within_m, Option.bind_some]
  cases hw : (decide (0 ≤ wI (o.What - 1)) && decide (wI (o.What - 1) ≤ 7)) with
  | false => exact ⟨false, rfl, fun h => by cases h⟩
  | true =>
  rw [if_neg (nn (by rfl)), within_m, Option.bind_some]
  cases hA : (decide (0 ≤ o.A) && decide (o.A ≤ 7)) with
  | false => exact ⟨false, rfl, fun h => by cases h⟩
  | true =>
  rw [if_neg (nn (by rfl)), within_m, Option.bind_some]
  cases hB : (decide (0 ≤ o.B) && decide (o.B ≤ 7)) with
  | false => exact ⟨false, rfl, fun h => by cases h⟩
  | true =>
  rw [if_neg (nn (by rfl)), within_m, Option.bind_some]
  cases hN : (decide (0 ≤ o.N) && decide (o.N ≤ 4294967295)) with
  | false => exact ⟨false, rfl, fun h => by cases h⟩
  | true =>
  rw [if_neg (nn (by rfl))]
  simp only [Bool.and_eq_true, decide_eq_true_eq] at hA hB hN
  have hg : goodO o := ⟨hA, hB, hN⟩
  suffices h : ∃ v, m31_prog_saneOp_k1 o ro () = some v ∧ (v = true → ro = true → o.What ≠ 2 ∧ o.What ≠ 3) by
    obtain ⟨v, hv, hw⟩ := h
    exact ⟨v, hv, fun h => ⟨hg, hw h⟩⟩
  have hk4 : ∀ c, ∃ v, m31_prog_saneOp_k4 o c = some v := fun c => by
    unfold m31_prog_saneOp_k4
    obtain ⟨a, ha⟩ := keySane_tot o.Key
    obtain ⟨b, hb⟩ := range_tot o.Rng
    rw [show (⟨o.Rng.Lo, o.Rng.Hi, o.Rng.Open⟩ : GApiRange) = o.Rng from rfl, ha, hb, Option.bind_some, Option.bind_some]
    repeat (first | exact ⟨_, rfl⟩ | split)
  have hk3 : ∃ v, m31_prog_saneOp_k3 o () = some v := by
    unfold m31_prog_saneOp_k3
    split
    · exact hk4 _
    split
    · exact hk4 _
    · exact hk4 _
  unfold m31_prog_saneOp_k1
  obtain ⟨b, hb⟩ := hasRange_tot o.Rng
  obtain ⟨f, hf, hf2⟩ : ∃ f, m46_prog_flagsOf o.What = some f ∧ (f.R2 = false → o.What ≠ 2 ∧ o.What ≠ 3) := ⟨_, flags_m _, fun h => ⟨fun e => (by rw [e] at h; cases h), fun e => (by rw [e] at h; cases h)⟩⟩
  obtain ⟨k3, hk3⟩ := hk3
  rw [hk3, hf, Option.bind_some, show (⟨o.Rng.Lo, o.Rng.Hi, o.Rng.Open⟩ : GApiRange) = o.Rng from rfl, hb, Option.bind_some]
  split
  · exact ⟨_, rfl, fun h => by cases h⟩
  split
  · split
    · exact ⟨_, rfl, fun h => by cases h⟩
    · rename_i h; exact ⟨_, rfl, fun _ _ => hf2 (by simpa using h)⟩
  · rename_i h; exact ⟨_, rfl, fun _ h' => absurd h' h⟩
theorem psane_m (p : GProgProg) (h : p.Ops.length ≤ 1000000) : ∃ v, m15_prog_Sane p = some v ∧ (v = true → (∀ o ∈ p.Ops, goodO o) ∧ (p.RO = true → ∀ o ∈ p.Ops, o.What ≠ 2 ∧ o.What ≠ 3)) := by
  unfold m15_prog_Sane
  rw [allR p.Ops (fun o => (m31_prog_saneOp o p.RO).getD false) false (m15_prog_Sane_s2 p) (by omega) (fun i o ho => by
    have hlt := (List.getElem?_eq_some_iff.1 ho).1
    obtain ⟨v, hv, -⟩ := saneOp_m o p.RO
    unfold m15_prog_Sane_s2
    rw [if_pos (decide_eq_true (by omega)), idx_nat, ho, Option.bind_some, show (⟨o.What, o.A, o.B, o.N, o.Key, ⟨o.Rng.Lo, o.Rng.Hi, o.Rng.Open⟩⟩ : GProgOp) = o from rfl, hv, Option.bind_some, wI_id (by omega) (by omega)]
    cases v <;> rfl) (by
    unfold m15_prog_Sane_s2
    rw [if_neg (by rw [decide_eq_true_eq]; omega)])]
  cases ha : p.Ops.all (fun o => (m31_prog_saneOp o p.RO).getD false) with
  | false => exact ⟨false, rfl, fun h => by cases h⟩
  | true =>
    have hall : ∀ o ∈ p.Ops, goodO o ∧ (p.RO = true → o.What ≠ 2 ∧ o.What ≠ 3) := fun o ho => by
      have := List.all_eq_true.1 ha o ho
      obtain ⟨v, hv, hg⟩ := saneOp_m o p.RO
      rw [hv] at this
      exact hg this
    exact ⟨decide ((p.Ops.length : Int) ≤ 24), rfl, fun _ => ⟨fun o ho => (hall o ho).1, fun hr o ho => (hall o ho).2 hr⟩⟩

theorem put_tot (a : GAnon33) {j : Int} (v : Int) (h : 0 ≤ j ∧ j ≤ 7) : ∃ b, putGAnon33 a j v = some b := by
  unfold putGAnon33
  repeat (first | exact ⟨_, rfl⟩ | split)
  omega
theorem reg_tot (a b c d e f g k : Int) {j : Int} (h : 0 ≤ j ∧ j ≤ 7) : ∃ u, idx [a, b, c, d, e, f, g, k] j = some u := by
  obtain ⟨x, hx, -⟩ := idx_get (xs := [a, b, c, d, e, f, g, k]) (j := j) h.1 (by show j < 8; omega)
  exact ⟨x, hx⟩
theorem local_m (o : GProgOp) (s : GProgState) (hg : goodO o) (h0 : 0 ≤ s.PC) (h1 : s.PC ≤ 1000000) : ∃ t, m34_prog_local o s = some t ∧ s.PC < t.PC := by
  obtain ⟨hA, hB, hN⟩ := hg
  obtain ⟨ua, hua⟩ := reg_tot s.Regs.R0 s.Regs.R1 s.Regs.R2 s.Regs.R3 s.Regs.R4 s.Regs.R5 s.Regs.R6 s.Regs.R7 hA
  obtain ⟨ub, hub⟩ := reg_tot s.Regs.R0 s.Regs.R1 s.Regs.R2 s.Regs.R3 s.Regs.R4 s.Regs.R5 s.Regs.R6 s.Regs.R7 hB
  have ha : 0 ≤ o.A ∧ o.A < ((8 : Nat) : Int) := by omega
  have hb : 0 ≤ o.B ∧ o.B < ((8 : Nat) : Int) := by omega
  unfold m34_prog_local
  rw [wI_id (n := s.PC + 1) (by omega) (by omega), wI_id (n := s.PC + 1 + o.N) (by omega) (by omega), if_pos ha, if_pos ha, if_pos ha, hua, Option.bind_some, Option.bind_some, if_pos hb, hub, Option.bind_some]
  unfold m50_prog_around
  rw [Option.bind_some, if_pos ha]
  obtain ⟨q, hq⟩ := put_tot ⟨s.Regs.R0, s.Regs.R1, s.Regs.R2, s.Regs.R3, s.Regs.R4, s.Regs.R5, s.Regs.R6, s.Regs.R7⟩ o.N hA
  obtain ⟨q', hq'⟩ := put_tot ⟨s.Regs.R0, s.Regs.R1, s.Regs.R2, s.Regs.R3, s.Regs.R4, s.Regs.R5, s.Regs.R6, s.Regs.R7⟩ (wI ((BitVec.ofInt 32 (wI (wI (ua + ub) + o.N))).toNat : Int)) hA
  rw [hq, hq', Option.bind_some, Option.bind_some]
  split
  · exact ⟨_, rfl, by show s.PC < s.PC + 1; omega⟩
  split
  · exact ⟨_, rfl, by show s.PC < s.PC + 1; omega⟩
  split
  · split
    · exact ⟨_, rfl, by show s.PC < s.PC + 1 + o.N; omega⟩
    · exact ⟨_, rfl, by show s.PC < s.PC + 1; omega⟩
  split
  · exact ⟨_, rfl, by show s.PC < s.PC + 1; omega⟩
  · exact ⟨_, rfl, by show s.PC < s.PC + 1; omega⟩
theorem request_m (o : GProgOp) (s : GProgState) (hg : goodO o) (h1 : 1 ≤ o.What) (h4 : o.What ≤ 4) : ∃ q, m33_prog_request o s = some q ∧ q.Kind = o.What + 2 ∧ (o.What ≤ 3 → q.Key = o.Key) := by
  obtain ⟨hA, hB, hN⟩ := hg
  obtain ⟨ub, hub⟩ := reg_tot s.Regs.R0 s.Regs.R1 s.Regs.R2 s.Regs.R3 s.Regs.R4 s.Regs.R5 s.Regs.R6 s.Regs.R7 hB
  have hb : 0 ≤ o.B ∧ o.B < ((8 : Nat) : Int) := by omega
  unfold m33_prog_request
  rw [if_pos hb, hub, Option.bind_some, val_m, Option.bind_some]
  split
  · rename_i h; exact ⟨_, rfl, by have := of_decide_eq_true h; show (3 : Int) = _; omega, fun _ => rfl⟩
  split
  · rename_i h; exact ⟨_, rfl, by have := of_decide_eq_true h; show (4 : Int) = _; omega, fun _ => rfl⟩
  split
  · rename_i h; exact ⟨_, rfl, by have := of_decide_eq_true h; show (5 : Int) = _; omega, fun _ => rfl⟩
  · rename_i g1 g2 g3
    rw [decide_eq_true_eq] at g1 g2 g3
    exact ⟨_, rfl, by show (6 : Int) = _; omega, fun h => by omega⟩

abbrev S10 := Int × Int × Int × Int × Int × Int × Int × Int × Int × Bool
def mkS (s : S10) : GProgState := ⟨s.1, ⟨s.2.1, s.2.2.1, s.2.2.2.1, s.2.2.2.2.1, s.2.2.2.2.2.1, s.2.2.2.2.2.2.1, s.2.2.2.2.2.2.2.1, s.2.2.2.2.2.2.2.2.1⟩, s.2.2.2.2.2.2.2.2.2⟩
def unS (s : GProgState) : S10 := (s.PC, s.Regs.R0, s.Regs.R1, s.Regs.R2, s.Regs.R3, s.Regs.R4, s.Regs.R5, s.Regs.R6, s.Regs.R7, s.Stopped)
def zq : GMsgReq := ⟨0, 0, 0, 0, false, [], [], ⟨[], [], false⟩⟩

/-- What is next: of a program that may be, in a state that may be. -/
theorem next_m (p : GProgProg) (a : GProgState) (hl : p.Ops.length ≤ 1000) (hs : m15_prog_Sane p = some true) (hg : ∀ o ∈ p.Ops, goodO o) (h0 : 0 ≤ a.PC) :
    (∃ q t u, m18_prog_Next p a = some (q, t, true) ∧ 0 ≤ t.PC ∧ t.PC < p.Ops.length ∧ a.PC ≤ t.PC ∧ a.Stopped = false ∧ idx p.Ops t.PC = some u ∧ (1 ≤ u.What ∧ u.What ≤ 4) ∧ q.Kind = u.What + 2 ∧ (u.What ≤ 3 → q.Key = u.Key) ∧ t.Stopped = false) ∨
    (∃ t, m18_prog_Next p a = some (zq, t, false) ∧ 0 ≤ t.PC ∧ t.PC ≤ p.Ops.length ∧ (t.PC = p.Ops.length ∨ t.Stopped = true) ∧ (((p.Ops.length : Int) ≤ a.PC ∨ a.Stopped = true) → a.PC ≤ p.Ops.length → t = a)) := by
  unfold m18_prog_Next
  rw [show (⟨p.RO, p.Ops⟩ : GProgProg) = p from rfl, hs, Option.bind_some, if_neg (nn (by rfl)), if_neg (by rw [decide_eq_true_eq]; omega)]
  unfold m18_prog_Next_k1
  show (∃ q t u, Option.bind (iter (m18_prog_Next_s3 p) fuel (unS a)) _ = _ ∧ _) ∨ ∃ t, Option.bind (iter (m18_prog_Next_s3 p) fuel (unS a)) _ = _ ∧ _
  obtain ⟨v, hv, hr⟩ := iter_inv (f := m18_prog_Next_s3 p) (P := fun s => 0 ≤ s.1 ∧ a.PC ≤ s.1 ∧ (a.Stopped = true → s.2.2.2.2.2.2.2.2.2 = true) ∧ (((p.Ops.length : Int) ≤ a.PC ∨ a.Stopped = true) → s = unS a)) (μ := fun s => (p.Ops.length - s.1).toNat)
    (R := fun r => match r with
      | .inl (q, t, ok) => ok = true ∧ 0 ≤ t.PC ∧ t.PC < p.Ops.length ∧ a.PC ≤ t.PC ∧ a.Stopped = false ∧ ∃ u, idx p.Ops t.PC = some u ∧ (1 ≤ u.What ∧ u.What ≤ 4) ∧ q.Kind = u.What + 2 ∧ (u.What ≤ 3 → q.Key = u.Key) ∧ t.Stopped = false
      | .inr b => 0 ≤ b.1 ∧ ((p.Ops.length : Int) ≤ b.1 ∨ b.2.2.2.2.2.2.2.2.2 = true) ∧ (((p.Ops.length : Int) ≤ a.PC ∨ a.Stopped = true) → b = unS a)) (by
    intro s hP
    obtain ⟨p1, p2, p3, p4⟩ := hP
    unfold m18_prog_Next_s3
    by_cases hlt : s.1 < p.Ops.length
    · rw [if_pos (decide_eq_true hlt)]
      cases hst : s.2.2.2.2.2.2.2.2.2 with
      | true =>
        right; left
        rw [if_neg (by decide)]
        exact ⟨_, rfl, p1, .inr rfl, fun h => by rw [← p4 h, ← hst]⟩
      | false =>
        have hnot : a.Stopped = false := by
          cases hq : a.Stopped with
          | false => rfl
          | true => rw [hst] at p3; exact absurd (p3 hq) (by decide)
        rw [if_pos (show (!false) = true from rfl)]
        unfold m18_prog_Next_k4
        obtain ⟨u, hu, hu2⟩ := idx_get p1 hlt
        have hgu := hg u (List.mem_of_getElem? hu2)
        rw [hu, Option.bind_some, show (⟨u.What, u.A, u.B, u.N, u.Key, ⟨u.Rng.Lo, u.Rng.Hi, u.Rng.Open⟩⟩ : GProgOp) = u from rfl, asks_m, Option.bind_some]
        cases hask : (decide (1 ≤ u.What) && decide (u.What ≤ 4)) with
        | true =>
          simp only [Bool.and_eq_true, decide_eq_true_eq] at hask
          right; right
          rw [if_pos rfl]
          obtain ⟨q, hq, hqk, hqy⟩ := request_m u (mkS s) hgu hask.1 hask.2
          have hq' := hq
          unfold mkS at hq'
          rw [hq', Option.bind_some]
          exact ⟨_, rfl, rfl, p1, hlt, p2, hnot, u, hu, hask, hqk, hqy, hst⟩
        | false =>
          left
          rw [if_neg (nn (by rfl))]
          obtain ⟨t, ht, hpc⟩ := local_m u (mkS s) hgu p1 (by show s.1 ≤ 1000000; omega)
          have hpc : s.1 < t.PC := hpc
          unfold mkS at ht
          rw [ht, Option.bind_some]
          refine ⟨_, rfl, ⟨by dsimp only; omega, by dsimp only; omega, fun h => (by rw [hnot] at h; cases h), fun h => ?_⟩, by dsimp only; omega⟩
          rcases h with h | h
          · omega
          · rw [hnot] at h; cases h
    · right; left
      rw [if_neg (by rw [decide_eq_true_eq]; exact hlt)]
      exact ⟨_, rfl, p1, .inl (by omega), p4⟩) fuel (unS a) ⟨h0, Int.le_refl _, fun h => h, fun _ => rfl⟩ (lt_fuel (by show ((p.Ops.length : Int) - a.PC).toNat ≤ _; omega))
  rw [hv, Option.bind_some]
  rcases v with ⟨q, t, ok⟩ | b
  · obtain ⟨rfl, r1, r2, r3, r4, u, r5, r6, r7, r8, r9⟩ := hr
    exact .inl ⟨q, t, u, rfl, r1, r2, r3, r4, r5, r6, r7, r8, r9⟩
  · obtain ⟨r1, r2, r3⟩ := hr
    right
    refine ⟨_, rfl, ?_, ?_, ?_, ?_⟩
    · dsimp only
      split <;> omega
    · dsimp only
      split
      · omega
      · rename_i h; omega
    · dsimp only
      rcases r2 with r2 | r2
      · left
        split <;> omega
      · exact .inr r2
    · intro h1 h2
      have hb := r3 h1
      subst hb
      rw [if_neg (by show ¬ (p.Ops.length : Int) < a.PC; omega)]
      rfl
end Go.Proofs.Ytdehclinlcnlhaa.Abs
