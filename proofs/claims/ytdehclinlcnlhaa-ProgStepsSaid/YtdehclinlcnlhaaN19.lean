/-
  All of a program, alone.
-/
import Derived.Test.YtdehclinlcnlhaaM19
import Derived.Test.YtdehclinlcnlhaaP19
namespace Go.Proofs.Ytdehclinlcnlhaa.Abs


def rO : GApiRange := ⟨[], [], true⟩
theorem hasO (k : List UInt8) : hasV rO k = true := by
  unfold hasV rO
  have : 0 ≤ cmpL k [] := by
    cases k with
    | nil => decide
    | cons x k => show (0 : Int) ≤ 1; decide
  simp [this]
theorem ov_nil {l : List GApiKV} (hl : RiseK kvk l) : ovL [] l rO = l :=
  rise_ext (ov_rise rO List.Pairwise.nil hl) hl fun x => by
    rw [ov_mem List.Pairwise.nil hl]
    simp [hasO]
theorem concat_m {a : List UInt8} (h : a.length ≤ 1000000) : m44_keys_One a = some ⟨a, a ++ [0], false⟩ := by
  unfold m44_keys_One
  rw [m52_slices_Concato_m _ (by simp; omega) (by simp), Option.bind_some]
  simp
theorem look_m {b : List GApiWrite} {l : List GApiKV} (r : GApiRange) {n : Int} (hb : Good b) (hl : RiseK kvk l) (hn : l.length ≤ 1000000) (h1 : 1 ≤ n) : m43_prog_alone_look ⟨l, ⟨b⟩⟩ r n = some ((ovL b l r).take n.toNat) := by
  unfold m43_prog_alone_look
  rw [over_m r hb hl hn h1]
  rfl
theorem all_m {b : List GApiWrite} {l : List GApiKV} (hb : Good b) (hl : RiseK kvk l) (hn : l.length ≤ 1000000) : m29_prog_alone_all ⟨l, ⟨b⟩⟩ = some (ovL b l rO) := by
  have hbl := hb.len
  have hol := ov_len b l rO
  unfold m29_prog_alone_all
  dsimp only
  rw [wI_id (by omega) (by omega)]
  by_cases h0 : (l.length : Int) + b.length = 0
  · have e1 : l = [] := List.eq_nil_of_length_eq_zero (by omega)
    have e2 : b = [] := List.eq_nil_of_length_eq_zero (by omega)
    subst e1 e2
    show Option.bind (m43_prog_alone_look ⟨[], ⟨[]⟩⟩ ⟨[], [], true⟩ 0) _ = some []
    kernel_rfl
  · rw [show (⟨[], [], true⟩ : GApiRange) = rO from rfl, look_m rO hb hl hn (by omega), Option.bind_some, List.take_of_length_le (by omega)]
theorem rises_m {l : List GApiKV} (h : RiseK kvk l) (hl : l.length ≤ 1000000) : m28_prog_rises l = some true :=
  (show m28_prog_rises l = m71_buffer_risen l from rfl).trans (risen_m h hl)

theorem answer_m {I : List GApiWrite → Prop} {b : List GApiWrite} {l : List GApiKV} {q : GMsgReq} {u : GProgOp} (hb : Good b) (hI : I b) (hl : RiseK kvk l) (hn : l.length ≤ 1000000) (hk : q.Kind = u.What + 2) (hw : 1 ≤ u.What ∧ u.What ≤ 4) (hky : u.What ≤ 3 → q.Key = u.Key) (hkl : u.Key.length ≤ 50)
    (hstep : (u.What = 2 ∨ u.What = 3) → ∀ v d, I (setR b ⟨u.Key, v, d⟩)) :
    ∃ b' rep e, m30_prog_alone_answer ⟨l, ⟨b⟩⟩ q = some (⟨l, ⟨b'⟩⟩, rep, e) ∧ (e = 0 → Good b' ∧ I b' ∧ b'.length ≤ b.length + 1) := by
  unfold m30_prog_alone_answer
  by_cases h3 : q.Kind = 3
  · rw [if_pos (decide_eq_true h3), hky (by omega), concat_m (by omega), Option.bind_some]
    dsimp only
    rw [look_m _ hb hl hn (by decide), Option.bind_some]
    split
    · rename_i h
      have h := of_decide_eq_true h
      obtain ⟨x, hx, -⟩ := idx_get (xs := (ovL b l ⟨u.Key, u.Key ++ [0], false⟩).take (1 : Int).toNat) (j := 0) (by decide) h
      rw [hx, Option.bind_some]
      exact ⟨b, _, 0, rfl, fun _ => ⟨hb, hI, by omega⟩⟩
    · exact ⟨b, _, 0, rfl, fun _ => ⟨hb, hI, by omega⟩⟩
  rw [if_neg (by rw [decide_eq_true_eq]; exact h3)]
  by_cases h6 : q.Kind = 6
  · rw [if_pos (decide_eq_true h6)]
    dsimp only
    rw [look_m _ hb hl hn (by decide), Option.bind_some]
    exact ⟨b, _, 0, rfl, fun _ => ⟨hb, hI, by omega⟩⟩
  rw [if_neg (by rw [decide_eq_true_eq]; exact h6)]
  have hk6 : ∃ b' rep e, m30_prog_alone_answer_k6 ⟨l, ⟨b⟩⟩ q true = some (⟨l, ⟨b'⟩⟩, rep, e) ∧ (e = 0 → Good b' ∧ I b' ∧ b'.length ≤ b.length + 1) := by
    unfold m30_prog_alone_answer_k6
    rw [if_pos rfl]
    dsimp only
    rcases set_any hb ⟨q.Key, q.Val, decide (q.Kind = 5)⟩ with ⟨h1, h2, -⟩ | ⟨e, he, h1⟩
    · rw [h1, Option.bind_some]
      refine ⟨_, _, 0, rfl, fun _ => ⟨h2, ?_, ?_⟩⟩
      · rw [hky (by omega)]
        exact hstep (by omega) _ _
      · rw [setR_len hb.rise]
        split <;> omega
    · rw [h1, Option.bind_some]
      exact ⟨[], _, e, rfl, fun h => absurd h he⟩
  by_cases h4 : q.Kind = 4
  · rw [if_pos (decide_eq_true h4), decide_eq_true h4]; exact hk6
  · rw [if_neg (by rw [decide_eq_true_eq]; exact h4), decide_eq_true (p := q.Kind = 5) (by omega)]; exact hk6

theorem sum_m (l : List GApiKV) (h : l.length ≤ 1000000000) : ∃ v, m38_prog_sum l = some v := by
  unfold m38_prog_sum
  obtain ⟨v, hv, -⟩ := iterB_inv (f := m38_prog_sum_s2 l) (P := fun s => ∃ i : Nat, i ≤ l.length ∧ s.2 = (i : Int)) (μ := fun s => l.length - s.2.toNat) (R := fun _ => True) (by
    rintro ⟨a, _⟩ ⟨i, hi, rfl⟩
    unfold m38_prog_sum_s2
    dsimp only
    rcases Nat.lt_or_ge i l.length with hlt | hge
    · left
      rw [if_pos (decide_eq_true (by omega)), idx_nat, List.getElem?_eq_getElem hlt, Option.bind_some, num_m, Option.bind_some]
      unfold m50_prog_around
      rw [Option.bind_some, wI_id (n := (i : Int) + 1) (by omega) (by omega)]
      exact ⟨_, rfl, ⟨i + 1, hlt, rfl⟩, by dsimp only; omega⟩
    · right
      rw [if_neg (by rw [decide_eq_true_eq]; omega)]
      exact ⟨_, rfl, trivial⟩) fuel (0, 0) ⟨0, Nat.zero_le _, rfl⟩ (lt_fuel (by show l.length - 0 ≤ _; omega))
  rw [hv]
  exact ⟨_, rfl⟩
theorem take_m (p : GProgProg) (t : GProgState) (rep : GMsgReply) (u : GProgOp) (hl : p.Ops.length ≤ 1000) (hs : m15_prog_Sane p = some true) (hg : ∀ o ∈ p.Ops, goodO o) (h0 : 0 ≤ t.PC) (h1 : t.PC < p.Ops.length) (hst : t.Stopped = false) (hu : idx p.Ops t.PC = some u) (hw : 1 ≤ u.What ∧ u.What ≤ 4) (hr : rep.List.length ≤ 1000000000) :
    ∃ t', m20_prog_Take p t rep = some (t', 0) ∧ t'.PC = t.PC + 1 := by
  have hgu := hg u (List.mem_of_getElem? (idx_eq hu).2)
  obtain ⟨hA, hB, hN⟩ := hgu
  have ha : 0 ≤ u.A ∧ u.A < ((8 : Nat) : Int) := by omega
  have hb : 0 ≤ u.B ∧ u.B < ((8 : Nat) : Int) := by omega
  have hk4 : ∀ x, ∃ t', m20_prog_Take_k4 t x = some (t', 0) ∧ t'.PC = t.PC + 1 := fun x => ⟨_, rfl, by show wI (t.PC + 1) = _; exact wI_id (by omega) (by omega)⟩
  unfold m20_prog_Take
  rw [hs, Option.bind_some, if_neg (nn (by rfl)), wI_id (by omega) (by omega), within_m, Option.bind_some, decide_eq_true h0, decide_eq_true (p := t.PC ≤ (p.Ops.length : Int) - 1) (by omega), if_neg (nn (by rfl)), hst, if_neg (nn (by rfl)), hu, Option.bind_some, show (⟨u.What, u.A, u.B, u.N, u.Key, ⟨u.Rng.Lo, u.Rng.Hi, u.Rng.Open⟩⟩ : GProgOp) = u from rfl, asks_m, Option.bind_some, decide_eq_true hw.1, decide_eq_true hw.2, if_neg (nn (by rfl))]
  unfold m20_prog_Take_k2
  rw [hu, Option.bind_some, if_pos hb]
  split
  · obtain ⟨q1, e1⟩ := put_tot ⟨t.Regs.R0, t.Regs.R1, t.Regs.R2, t.Regs.R3, t.Regs.R4, t.Regs.R5, t.Regs.R6, t.Regs.R7⟩ 0 hB
    rw [e1, Option.bind_some]; try rw [if_pos ha]
    obtain ⟨q2, e2⟩ := put_tot ⟨q1.R0, q1.R1, q1.R2, q1.R3, q1.R4, q1.R5, q1.R6, q1.R7⟩ 0 hA
    rw [e2, Option.bind_some]
    split
    · obtain ⟨q3, e3⟩ := put_tot ⟨q2.R0, q2.R1, q2.R2, q2.R3, q2.R4, q2.R5, q2.R6, q2.R7⟩ 1 hB
      try rw [if_pos hb]
      rw [e3, Option.bind_some, num_m, Option.bind_some]; try rw [if_pos ha]
      obtain ⟨q4, e4⟩ := put_tot ⟨q3.R0, q3.R1, q3.R2, q3.R3, q3.R4, q3.R5, q3.R6, q3.R7⟩ (numV rep.Val) hA
      rw [e4, Option.bind_some]
      exact hk4 _
    · exact hk4 _
  split
  · obtain ⟨v, hv⟩ := sum_m rep.List hr
    rw [hv, Option.bind_some]; try rw [if_pos hb]
    obtain ⟨q1, e1⟩ := put_tot ⟨t.Regs.R0, t.Regs.R1, t.Regs.R2, t.Regs.R3, t.Regs.R4, t.Regs.R5, t.Regs.R6, t.Regs.R7⟩ v hB
    rw [e1, Option.bind_some]; try rw [if_pos ha]
    obtain ⟨q2, e2⟩ := put_tot ⟨q1.R0, q1.R1, q1.R2, q1.R3, q1.R4, q1.R5, q1.R6, q1.R7⟩ (rep.List.length : Int) hA
    rw [e2, Option.bind_some]
    exact hk4 _
  · exact hk4 _
end Go.Proofs.Ytdehclinlcnlhaa.Abs
