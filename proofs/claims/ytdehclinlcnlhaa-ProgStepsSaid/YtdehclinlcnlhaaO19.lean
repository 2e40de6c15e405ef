/-
  A run; programs that only read; programs one behind the other.
-/
import Derived.Test.YtdehclinlcnlhaaN19
namespace Go.Proofs.Ytdehclinlcnlhaa.Abs


theorem answer_len {b : List GApiWrite} {l : List GApiKV} {q : GMsgReq} {a : GProgAlone} {rep : GMsgReply} {e : Int} (hb : Good b) (hl : RiseK kvk l) (hn : l.length ≤ 1000000) (h : m30_prog_alone_answer ⟨l, ⟨b⟩⟩ q = some (a, rep, e)) : rep.List.length ≤ 1000000 + 16 := by
  have hbl := hb.len
  have hk : ∀ x, m30_prog_alone_answer_k1 ⟨l, ⟨b⟩⟩ x = some (a, rep, e) → rep.List = x.2.2.2.2 := fun x hx => by
    unfold m30_prog_alone_answer_k1 at hx
    cases hx
    rfl
  have hk6 : ∀ c, m30_prog_alone_answer_k6 ⟨l, ⟨b⟩⟩ q c = some (a, rep, e) → rep.List.length ≤ 1000000 + 16 := fun c hc => by
    unfold m30_prog_alone_answer_k6 at hc
    cases c with
    | true =>
      rw [if_pos rfl] at hc
      obtain ⟨v, -, hv⟩ := bind_eq hc
      rw [hk _ hv]
      exact Nat.zero_le _
    | false =>
      rw [if_neg (by decide)] at hc
      rw [hk _ hc]
      exact Nat.zero_le _
  unfold m30_prog_alone_answer at h
  split at h
  · obtain ⟨v, -, h⟩ := bind_eq h
    obtain ⟨w, -, h⟩ := bind_eq h
    split at h
    · obtain ⟨x, -, h⟩ := bind_eq h
      rw [hk _ h]; exact Nat.zero_le _
    · rw [hk _ h]; exact Nat.zero_le _
  split at h
  · obtain ⟨v, hv, h⟩ := bind_eq h
    dsimp only at hv
    rw [look_m _ hb hl hn (by decide)] at hv
    cases hv
    rw [hk _ h]
    have := ov_len b l (⟨q.Rng.Lo, q.Rng.Hi, q.Rng.Open⟩ : GApiRange)
    dsimp only
    rw [List.length_take]
    omega
  split at h
  · exact hk6 _ h
  · exact hk6 _ h
abbrev R12 := (List GApiKV) × (List GApiWrite) × S10
theorem run_m {I : List GApiWrite → Prop} (p : GProgProg) (l : List GApiKV) (hl : p.Ops.length ≤ 1000) (hr : RiseK kvk l) (hn : l.length ≤ 1000000) (hkl : ∀ o ∈ p.Ops, o.Key.length ≤ 50) (h0 : I [])
    (hstep : m15_prog_Sane p = some true → ∀ u ∈ p.Ops, (u.What = 2 ∨ u.What = 3) → ∀ b, I b → ∀ v d, I (setR b ⟨u.Key, v, d⟩)) :
    ∃ b t, m14_prog_Run p l = some (ovL b l rO, t) ∧ Good b ∧ I b ∧ b.length ≤ p.Ops.length ∧ 0 ≤ t.PC ∧ t.PC ≤ p.Ops.length := by
  unfold m14_prog_Run
  rw [show (⟨p.RO, p.Ops⟩ : GProgProg) = p from rfl]
  obtain ⟨sv, hs, hg⟩ := psane_m p (by omega)
  rw [hs, Option.bind_some]
  cases sv with
  | false => exact ⟨[], _, by rw [ov_nil hr]; rfl, Good.nil, h0, Nat.zero_le _, Int.le_refl _, by show (0 : Int) ≤ _; omega⟩
  | true =>
  have hg := (hg rfl).1
  have hstep := hstep hs
  rw [if_neg (nn (by rfl)), rises_m hr hn, Option.bind_some, if_neg (nn (by rfl))]
  unfold m14_prog_Run_k1
  obtain ⟨v, hv, b, t, rfl, hb, hI, hbl, hpc⟩ := iter_inv (f := m14_prog_Run_s2 p) (P := fun s : R12 => s.1 = l ∧ Good s.2.1 ∧ I s.2.1 ∧ 0 ≤ s.2.2.1 ∧ s.2.2.1 ≤ p.Ops.length ∧ (s.2.1.length : Int) ≤ s.2.2.1) (μ := fun s => (p.Ops.length - s.2.2.1).toNat)
    (R := fun r => ∃ b t, r = .inl (ovL b l rO, t) ∧ Good b ∧ I b ∧ b.length ≤ p.Ops.length ∧ 0 ≤ t.PC ∧ t.PC ≤ p.Ops.length) (by
    rintro ⟨l', b, s⟩ ⟨rfl, hb, hI, p0, p1, p2⟩
    dsimp only at hb hI p0 p1 p2
    have hall := all_m hb hr hn
    unfold m14_prog_Run_s2
    dsimp only
    rw [show (⟨p.RO, p.Ops⟩ : GProgProg) = p from rfl]
    show (∃ s', Option.bind (m18_prog_Next p (mkS s)) _ = _ ∧ _) ∨ (∃ b, Option.bind (m18_prog_Next p (mkS s)) _ = _ ∧ _) ∨ ∃ r, Option.bind (m18_prog_Next p (mkS s)) _ = _ ∧ _
    rcases next_m p (mkS s) hl hs hg p0 with ⟨q, t, u, e1, e2, e3, e4, e5, e6, e7, e8, e9, e10⟩ | ⟨t, e1, e2, e3, e4, -⟩
    · have hum := List.mem_of_getElem? (idx_eq e6).2
      have e4 : s.1 ≤ t.PC := e4
      rw [e1, Option.bind_some]
      dsimp only
      rw [if_neg (nn (by rfl)), show (⟨q.Kind, q.Seq, q.Token, q.Attempt, q.RO, q.Key, q.Val, ⟨q.Rng.Lo, q.Rng.Hi, q.Rng.Open⟩⟩ : GMsgReq) = q from rfl]
      obtain ⟨b', rep, e, ha, hae⟩ := answer_m (I := I) (u := u) hb hI hr hn e8 e7 e9 (hkl u hum) (fun h v d => hstep u hum h b hI v d)
      rw [ha, Option.bind_some]
      dsimp only
      by_cases he : e = 0
      · obtain ⟨hb', hI', hbl'⟩ := hae he
        have hrl : rep.List.length ≤ 1000000000 := by
          have := answer_len hb hr hn ha
          omega
        obtain ⟨t', ht', hpc⟩ := take_m p t rep u hl hs hg e2 e3 e10 e6 e7 hrl
        left
        rw [decide_eq_true he, if_neg (nn (by rfl)), show (⟨t.PC, ⟨t.Regs.R0, t.Regs.R1, t.Regs.R2, t.Regs.R3, t.Regs.R4, t.Regs.R5, t.Regs.R6, t.Regs.R7⟩, t.Stopped⟩ : GProgState) = t from rfl, ht', Option.bind_some]
        dsimp only
        rw [if_neg (nn (by rfl))]
        exact ⟨_, rfl, ⟨rfl, hb', hI', by dsimp only; omega, by dsimp only; omega, by dsimp only; omega⟩, by dsimp only; omega⟩
      · right; right
        rw [if_pos (by rw [decide_eq_false he]; rfl), hall, Option.bind_some]
        exact ⟨_, rfl, b, t, rfl, hb, hI, by omega, e2, by omega⟩
    · right; right
      rw [e1, Option.bind_some]
      dsimp only
      rw [if_pos (by rfl), hall, Option.bind_some]
      exact ⟨_, rfl, b, t, rfl, hb, hI, by omega, e2, e3⟩) fuel (l, [], 0, 0, 0, 0, 0, 0, 0, 0, 0, false) ⟨rfl, Good.nil, h0, Int.le_refl _, by show (0 : Int) ≤ _; omega, Int.le_refl _⟩ (lt_fuel (by show ((p.Ops.length : Int) - 0).toNat ≤ _; omega))
  show ∃ b t, Option.bind (iter (m14_prog_Run_s2 p) fuel (l, [], 0, 0, 0, 0, 0, 0, 0, 0, 0, false)) _ = _ ∧ _
  rw [hv, Option.bind_some]
  exact ⟨b, t, rfl, hb, hI, hbl, hpc⟩
end Go.Proofs.Ytdehclinlcnlhaa.Abs
