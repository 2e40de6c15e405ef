/-
  ProgSteps.
-/
import Derived.Test.YtdehclinlcnlhaaV19
namespace Go.Proofs.Ytdehclinlcnlhaa.Abs


def gv (l : List GApiKV) : Bool × List UInt8 := match l.getLast? with | none => (false, []) | some x => (true, x.Val)
theorem gv_app (l : List GApiKV) (x : GApiKV) : gv (l ++ [x]) = (true, x.Val) := by
  unfold gv
  rw [List.getLast?_append]; rfl
def fv (q : GMsgReq) (l : List GApiKV) : Bool × List UInt8 := if q.Kind = 3 then gv (l.filter fun x => x.Key == q.Key) else (false, [])
def lv (q : GMsgReq) (l : List GApiKV) : List GApiKV := if q.Kind = 6 then (l.filter fun x => hasV q.Rng x.Key).take 8 else []
def repV (q : GMsgReq) (l : List GApiKV) : GMsgReply := ⟨0, 0, 0, 0, (fv q l).1, (fv q l).2, lv q l⟩
theorem told_scan (q : GMsgReq) (l : List GApiKV) (hn : l.length ≤ 1000000) (hk : ∀ x ∈ l, x.Key.length ≤ 1000000) : iterB (m19_l19_told_s4 q l) fuel (0, false, ([] : List UInt8), ([] : List GApiKV)) = some ((fv q l).1, (fv q l).2, lv q l) := by
  obtain ⟨v, hv, hr⟩ := iterB_inv (f := m19_l19_told_s4 q l) (P := fun s => ∃ i : Nat, i ≤ l.length ∧ s = ((i : Int), (fv q (l.take i)).1, (fv q (l.take i)).2, lv q (l.take i))) (μ := fun s => l.length - s.1.toNat) (R := fun v => v = ((fv q l).1, (fv q l).2, lv q l)) (by
    rintro _ ⟨i, hi, rfl⟩
    unfold m19_l19_told_s4
    dsimp only
    rcases Nat.lt_or_ge i l.length with hlt | hge
    · left
      have hx := List.getElem?_eq_getElem hlt
      have hxm := List.getElem_mem hlt
      have htk : l.take (i + 1) = l.take i ++ [l[i]] := List.take_succ_eq_append_getElem hlt
      generalize l[i] = x at hx hxm htk
      have hlv : (lv q (l.take i)).length ≤ 8 := by
        unfold lv
        split
        · rw [List.length_take]; omega
        · exact Nat.zero_le _
      have h5 : ∀ b : Bool × List UInt8, m19_l19_told_k5 q l ((i : Int), (fv q (l.take i)).1, (fv q (l.take i)).2, lv q (l.take i)) b = some (.cont (((i + 1 : Nat) : Int), b.1, b.2, lv q (l.take (i + 1)))) := fun b => by
        unfold m19_l19_told_k5
        dsimp only
        rw [wI_id (by omega) (by omega)]
        by_cases h6 : q.Kind = 6
        · rw [if_pos (decide_eq_true h6), idx_nat, hx, Option.bind_some, show (⟨q.Rng.Lo, q.Rng.Hi, q.Rng.Open⟩ : GApiRange) = q.Rng from rfl, rhas_m _ _ (by have := hk x hxm; omega), Option.bind_some]
          have e1 : lv q (l.take i) = ((l.take i).filter fun x => hasV q.Rng x.Key).take 8 := by unfold lv; rw [if_pos h6]
          have e2 : lv q (l.take (i + 1)) = ((l.take i).filter (fun x => hasV q.Rng x.Key) ++ [x].filter (fun x => hasV q.Rng x.Key)).take 8 := by unfold lv; rw [if_pos h6, htk, List.filter_append]
          cases hh : hasV q.Rng x.Key with
          | true =>
            rw [if_pos rfl]
            have e3 : [x].filter (fun x => hasV q.Rng x.Key) = [x] := by rw [List.filter_cons, if_pos hh]; rfl
            rw [e3] at e2
            by_cases h8 : ((lv q (l.take i)).length : Int) < 8
            · rw [if_pos (decide_eq_true h8), Option.bind_some, if_pos (by rw [List.length_singleton]; omega)]
              have hlt8 : ((l.take i).filter fun x => hasV q.Rng x.Key).length < 8 := by
                rw [e1, List.length_take] at h8; omega
              have e4 : lv q (l.take i) = (l.take i).filter fun x => hasV q.Rng x.Key := by rw [e1]; exact List.take_of_length_le (by omega)
              have e5 : lv q (l.take (i + 1)) = (l.take i).filter (fun x => hasV q.Rng x.Key) ++ [x] := by rw [e2]; exact List.take_of_length_le (by rw [List.length_append, List.length_singleton]; omega)
              rw [e5, e4]
              rfl
            · rw [if_neg (by rw [decide_eq_true_eq]; exact h8)]
              have hge8 : 8 ≤ ((l.take i).filter fun x => hasV q.Rng x.Key).length := by
                rw [e1, List.length_take] at h8; omega
              rw [e2, List.take_append_of_le_length hge8, ← e1]
              rfl
          | false =>
            rw [if_neg (by decide)]
            have e3 : [x].filter (fun x => hasV q.Rng x.Key) = [] := by rw [List.filter_cons, if_neg (by rw [hh]; decide)]; rfl
            rw [e3, List.append_nil] at e2
            rw [e2, ← e1]; rfl
        · rw [if_neg (by rw [decide_eq_true_eq]; exact h6)]
          have : ∀ l, lv q l = [] := fun l => by unfold lv; rw [if_neg h6]
          rw [this, this]; rfl
      rw [if_pos (decide_eq_true (by omega))]
      have hfin : ∀ b : Bool × List UInt8, b = fv q (l.take (i + 1)) → ∃ s', m19_l19_told_k5 q l ((i : Int), (fv q (l.take i)).1, (fv q (l.take i)).2, lv q (l.take i)) b = some (.cont s') ∧ (∃ i : Nat, i ≤ l.length ∧ s' = ((i : Int), (fv q (l.take i)).1, (fv q (l.take i)).2, lv q (l.take i))) ∧ l.length - s'.1.toNat < l.length - (i : Int).toNat := fun b hb => by
        rw [h5, hb]
        exact ⟨_, rfl, ⟨i + 1, hlt, rfl⟩, by dsimp only; omega⟩
      by_cases h3 : q.Kind = 3
      · rw [if_pos (decide_eq_true h3), idx_nat, hx, Option.bind_some]
        have e2 : fv q (l.take (i + 1)) = gv ((l.take i).filter (fun x => x.Key == q.Key) ++ [x].filter (fun x => x.Key == q.Key)) := by unfold fv; rw [if_pos h3, htk, List.filter_append]
        cases hh : (x.Key == q.Key) with
        | true =>
          rw [if_pos rfl, Option.bind_some]
          refine hfin _ ?_
          have e3 : [x].filter (fun x => x.Key == q.Key) = [x] := by rw [List.filter_cons, if_pos hh]; rfl
          rw [e2, e3, gv_app]
        | false =>
          rw [if_neg (by decide)]
          refine hfin _ ?_
          have e3 : [x].filter (fun x => x.Key == q.Key) = [] := by rw [List.filter_cons, if_neg (by rw [hh]; decide)]; rfl
          rw [e2, e3, List.append_nil]
          unfold fv
          rw [if_pos h3]
      · rw [if_neg (by rw [decide_eq_true_eq]; exact h3)]
        refine hfin _ ?_
        unfold fv
        rw [if_neg h3, if_neg h3]
    · have e : i = l.length := by omega
      subst e
      rw [if_neg (by rw [decide_eq_true_eq]; omega), List.take_length]
      exact .inr ⟨_, rfl, rfl⟩) fuel (0, false, ([] : List UInt8), ([] : List GApiKV)) ⟨0, Nat.zero_le _, by
        have f1 : fv q (l.take 0) = (false, []) := by unfold fv; split <;> rfl
        have f2 : lv q (l.take 0) = [] := by unfold lv; split <;> rfl
        rw [f1, f2]; rfl⟩ (lt_fuel (by show l.length - 0 ≤ _; omega))
  rw [hv, hr]

def wOf (q : GMsgReq) : GApiWrite := ⟨q.Key, q.Val, decide (q.Kind = 5)⟩
def nextV (q : GMsgReq) (l : List GApiKV) : List GApiKV := if q.Kind = 4 ∨ q.Kind = 5 then ovL [wOf q] l rO else l
theorem told_m (q : GMsgReq) (l : List GApiKV) (hl : RiseK kvk l) (hn : l.length ≤ 900) (hk : ∀ x ∈ l, x.Key.length ≤ 1000000) (hw : q.Kind = 4 ∨ q.Kind = 5 → 1 ≤ q.Key.length ∧ q.Key.length ≤ 16 ∧ q.Val.length ≤ 32 ∧ (q.Kind = 5 → q.Val = [])) :
    m19_l19_told q l = some (repV q l, nextV q l) := by
  unfold m19_l19_told
  rw [told_scan q l (by omega) hk, Option.bind_some]
  unfold m19_l19_told_k1
  have h2 : q.Kind = 4 ∨ q.Kind = 5 → m19_l19_told_k2 q l ((fv q l).1, (fv q l).2, lv q l) () = some (repV q l, nextV q l) := fun h => by
    obtain ⟨w1, w2, w3, w4⟩ := hw h
    unfold m19_l19_told_k2
    rw [show (⟨[], [], true⟩ : GApiRange) = rO from rfl, rover_m (w := ⟨q.Key, q.Val, decide (q.Kind = 5)⟩) w1 w2 w3 (fun e => w4 (of_decide_eq_true e)) hl hn hk]
    unfold nextV
    rw [if_pos h]; rfl
  by_cases h4 : q.Kind = 4
  · rw [if_neg (by rw [decide_eq_true h4]; decide)]
    exact h2 (.inl h4)
  · rw [if_pos (by rw [decide_eq_false h4]; rfl)]
    by_cases h5 : q.Kind = 5
    · rw [if_neg (by rw [decide_eq_true h5]; decide)]
      exact h2 (.inr h5)
    · rw [if_pos (by rw [decide_eq_false h5]; rfl)]
      unfold nextV
      rw [if_neg (by omega)]; rfl

theorem ov_filter {b : List GApiWrite} {l : List GApiKV} (r : GApiRange) (hb : RiseK wk b) (hl : RiseK kvk l) : ovL b l r = (ovL b l rO).filter fun x => hasV r x.Key := by
  refine rise_ext (ov_rise r hb hl) (List.Pairwise.sublist (List.filter_sublist ..) (ov_rise rO hb hl)) fun x => ?_
  rw [List.mem_filter, ov_mem hb hl, ov_mem hb hl]
  simp only [hasO, true_and]
  constructor
  · rintro (⟨h1, h2, h3⟩ | ⟨w, hw, h1, h2, h3⟩)
    · exact ⟨.inl ⟨h2, h3⟩, h1⟩
    · exact ⟨.inr ⟨w, hw, h1, h3⟩, by rw [h3]; exact h2⟩
  · rintro ⟨⟨h2, h3⟩ | ⟨w, hw, h1, h3⟩, h4⟩
    · exact .inl ⟨h4, h2, h3⟩
    · exact .inr ⟨w, hw, h1, by rw [h3] at h4; exact h4, h3⟩
theorem one_has (a k : List UInt8) : hasV ⟨a, a ++ [0], false⟩ k = (k == a) := by
  unfold hasV
  dsimp only
  rw [Bool.false_or]
  cases h : (k == a) with
  | true =>
    have h := eq_of_beq h
    subst h
    rw [cmpL_self, cmpL_app0]; rfl
  | false =>
    rw [Bool.and_eq_false_iff]
    by_cases h0 : 0 ≤ cmpL k a
    · right
      refine decide_eq_false fun hc => ?_
      have h1 := cmpL_app_lt hc
      have : cmpL k a = 0 := by omega
      rw [cmpL_zero this] at h; simp at h
    · exact .inl (decide_eq_false h0)
theorem filt_one {l : List GApiKV} (hl : RiseK kvk l) (k : List UInt8) : (l.filter fun x => x.Key == k).length ≤ 1 := by
  have hr : RiseK kvk (l.filter fun x => x.Key == k) := List.Pairwise.sublist (List.filter_sublist ..) hl
  have hm : ∀ x ∈ l.filter (fun x => x.Key == k), x.Key = k := fun x hx => eq_of_beq (List.mem_filter.1 hx).2
  generalize l.filter (fun x => x.Key == k) = f at hr hm
  match f with
  | [] => exact Nat.zero_le _
  | [a] => exact Nat.le_refl _
  | a :: b :: t =>
    have h1 := (List.pairwise_cons.1 hr).1 b (by simp)
    have h1 : cmpL a.Key b.Key < 0 := h1
    rw [hm a (by simp), hm b (by simp), cmpL_self] at h1
    omega

/-- What Run answers, and what there is then: as one is told of what there is. -/
theorem answer_eq {b : List GApiWrite} {l : List GApiKV} {q : GMsgReq} (hb : Good b) (hl : RiseK kvk l) (hn : l.length ≤ 1000000) (hk : 3 ≤ q.Kind ∧ q.Kind ≤ 6) (hky : q.Kind ≤ 5 → 1 ≤ q.Key.length ∧ q.Key.length ≤ 16)
    (hw : q.Val.length ≤ 32 ∧ (q.Kind = 5 → q.Val = [])) (hroom : q.Kind = 4 ∨ q.Kind = 5 → b.length < 16) :
    ∃ b', m30_prog_alone_answer ⟨l, ⟨b⟩⟩ q = some (⟨l, ⟨b'⟩⟩, repV q (ovL b l rO), 0) ∧ Good b' ∧ nextV q (ovL b l rO) = ovL b' l rO ∧ (b'.length ≤ b.length + 1) ∧ (¬ (q.Kind = 4 ∨ q.Kind = 5) → b' = b) := by
  have hro := ov_rise rO hb.rise hl
  unfold m30_prog_alone_answer
  by_cases h3 : q.Kind = 3
  · refine ⟨b, ?_, hb, by unfold nextV; rw [if_neg (by omega)], by omega, fun _ => rfl⟩
    have hkk := hky (by omega)
    rw [if_pos (decide_eq_true h3), concat_m (by omega), Option.bind_some]
    dsimp only
    rw [look_m _ hb hl hn (by decide), Option.bind_some, ov_filter _ hb.rise hl]
    have hfe : (ovL b l rO).filter (fun x => hasV ⟨q.Key, q.Key ++ [0], false⟩ x.Key) = (ovL b l rO).filter (fun x => x.Key == q.Key) := List.filter_congr fun x _ => one_has _ _
    have hone := filt_one hro q.Key
    rw [hfe, List.take_of_length_le (by show _ ≤ (1 : Int).toNat; exact hone)]
    have hfv : fv q (ovL b l rO) = gv ((ovL b l rO).filter (fun x => x.Key == q.Key)) := by unfold fv; rw [if_pos h3]
    have hlv : lv q (ovL b l rO) = [] := by unfold lv; rw [if_neg (by omega)]
    unfold repV
    rw [hfv, hlv]
    generalize (ovL b l rO).filter (fun x => x.Key == q.Key) = f at hone
    match f, hone with
    | [], _ => rfl
    | [a], _ => rfl
  rw [if_neg (by rw [decide_eq_true_eq]; exact h3)]
  by_cases h6 : q.Kind = 6
  · refine ⟨b, ?_, hb, by unfold nextV; rw [if_neg (by omega)], by omega, fun _ => rfl⟩
    rw [if_pos (decide_eq_true h6)]
    dsimp only
    rw [look_m _ hb hl hn (by decide), Option.bind_some, ov_filter _ hb.rise hl]
    unfold repV fv lv
    rw [if_neg h3, if_pos h6]
    rfl
  rw [if_neg (by rw [decide_eq_true_eq]; exact h6)]
  have h45 : q.Kind = 4 ∨ q.Kind = 5 := by omega
  have hsw : swV (wOf q) = true := sw_of (hky (by omega)).1 (hky (by omega)).2 hw.1 (fun e => hw.2 (of_decide_eq_true e))
  obtain ⟨hs, hg⟩ := set_ok hb hsw (.inr (hroom h45))
  have hk6 : m30_prog_alone_answer_k6 ⟨l, ⟨b⟩⟩ q true = some (⟨l, ⟨setR b (wOf q)⟩⟩, repV q (ovL b l rO), 0) := by
    unfold m30_prog_alone_answer_k6
    rw [if_pos rfl]
    dsimp only
    rw [show (⟨q.Key, q.Val, decide (q.Kind = 5)⟩ : GApiWrite) = wOf q from rfl, hs]
    unfold repV fv lv
    rw [if_neg h3, if_neg h6]
    rfl
  refine ⟨setR b (wOf q), ?_, hg, ?_, ?_, fun hc => absurd h45 hc⟩
  · by_cases h4 : q.Kind = 4
    · rw [if_pos (decide_eq_true h4), decide_eq_true h4]; exact hk6
    · rw [if_neg (by rw [decide_eq_true_eq]; exact h4), decide_eq_true (p := q.Kind = 5) (by omega)]; exact hk6
  · unfold nextV
    rw [if_pos h45]
    exact ov_set hb.rise hl _
  · rw [setR_len hb.rise]
    split <;> omega

theorem progSteps_true (a0 : GR19Prog) (a1 : List GApiKV) : m3_l19_ProgSteps a0 a1 = some true := by
  unfold m3_l19_ProgSteps
  rw [awake19, Option.bind_some, show (⟨a0.RO, a0.Ops⟩ : GR19Prog) = a0 from rfl]
  obtain ⟨v, hv, hf⟩ := few_m a0
  rw [hv, Option.bind_some]
  cases v with
  | false => rfl
  | true =>
  obtain ⟨hl, hkl⟩ := hf rfl
  rw [if_neg (nn (by rfl))]
  obtain ⟨v, hv, hs⟩ := shortL_m a1
  rw [hv, Option.bind_some]
  cases v with
  | false => rfl
  | true =>
  obtain ⟨hs1, hs2⟩ := hs rfl
  rw [if_neg (nn (by rfl))]
  obtain ⟨v, hv, hr⟩ := rising_m (l := a1) (fun x hx => Nat.le_trans (hs2 x hx) (by decide)) (by omega)
  rw [hv, Option.bind_some]
  cases v with
  | false => rfl
  | true =>
  have hr := hr.1 rfl
  rw [if_neg (nn (by rfl))]
  unfold m3_l19_ProgSteps_k2
  have hol : (oG a0).Ops.length = a0.Ops.length := List.length_map _
  have hkeys : ∀ o ∈ (oG a0).Ops, o.Key.length ≤ 50 := oG_keys hkl
  rw [program_m a0 (by omega), Option.bind_some]
  generalize oG a0 = p at hol hkeys
  obtain ⟨B, t, hrun, hB, -, -, -, -⟩ := run_m (I := fun _ => True) p a1 (by omega) hr (by omega) hkeys trivial (fun _ _ _ _ _ _ _ _ => trivial)
  have hrun' := hrun
  rw [hrun, Option.bind_some]
  obtain ⟨sv, hsv, hg⟩ := psane_m p (by omega)
  rw [hsv, Option.bind_some]
  cases sv with
  | false =>
    rw [if_pos (by rfl), if_pos rfl]
    unfold m14_prog_Run at hrun
    rw [show (⟨p.RO, p.Ops⟩ : GProgProg) = p from rfl, hsv, Option.bind_some, if_pos (by rfl)] at hrun
    have := Option.some.inj hrun
    rw [← this]
    dsimp only
    rw [kvs_m (by omega), Option.bind_some, if_pos rfl]
    rfl
  | true =>
  have hg := (hg rfl).1
  have hops := psane_ops (by omega) hsv
  rw [if_neg (by decide)]
  generalize hv4 : (ovL B a1 rO, t) = v4 at hrun
  unfold m14_prog_Run at hrun
  rw [show (⟨p.RO, p.Ops⟩ : GProgProg) = p from rfl, hsv, Option.bind_some, if_neg (by decide), rises_m hr (by omega), Option.bind_some, if_neg (by decide)] at hrun
  unfold m14_prog_Run_k1 at hrun
  obtain ⟨x, hx, hrun⟩ := bind_eq hrun
  have hx : iter (m14_prog_Run_s2 p) fuel (a1, [], 0, 0, 0, 0, 0, 0, 0, 0, 0, false) = some (.inl v4) := by
    rw [hx]
    cases x with
    | inl r => have hrun : some r = some v4 := hrun; rw [Option.some.inj hrun]
    | inr u => cases hrun
  have hol' : (a0.Ops.length : Int) = p.Ops.length := by omega
  obtain ⟨v, hv, hvr⟩ := iter_inv (f := m3_l19_ProgSteps_s9 a0 true p v4) (P := fun s => ∃ (N : Nat) (sd : S10), s = (s.1, s.2.1, (N : Int), sd) ∧ RiseK kvk s.1 ∧ s.1.length ≤ 60 + N ∧ (∀ x ∈ s.1, x.Key.length ≤ 1000000) ∧ (N : Int) ≤ sd.1 ∧ sd.1 ≤ p.Ops.length ∧ 0 ≤ s.2.1 ∧ s.2.1 ≤ (N : Int) ∧
      (16 < s.2.1 ∨ ∃ b k, Good b ∧ (b.length : Int) ≤ s.2.1 ∧ s.1 = ovL b a1 rO ∧ iter (m14_prog_Run_s2 p) k (a1, b, sd) = some (.inl v4)))
    (μ := fun s => (p.Ops.length + 1 - s.2.2.1).toNat) (R := fun r => r = .inl true) (by
    rintro ⟨now, puts, _⟩ ⟨N, s, e, r1, r2, r3, p0, p1, c0, c1, rel⟩
    dsimp only at e r1 r2 r3 p0 p1 c0 c1 rel
    cases e
    have q0 : 0 ≤ s.1 := by omega
    unfold m3_l19_ProgSteps_s9
    dsimp only
    rw [if_pos (decide_eq_true (by omega)), show (⟨p.RO, p.Ops⟩ : GProgProg) = p from rfl]
    show (∃ s', Option.bind (m18_prog_Next p (mkS s)) _ = _ ∧ _) ∨ (∃ b, Option.bind (m18_prog_Next p (mkS s)) _ = _ ∧ _) ∨ ∃ r, Option.bind (m18_prog_Next p (mkS s)) _ = _ ∧ _
    rcases next_m p (mkS s) (by omega) hsv hg q0 with ⟨q, t, u, e1, e2, e3, e4, e5, e6, e7, e8, e9, e10⟩ | ⟨t, e1, e2, e3, e4, -⟩
    · left
      have hum := List.mem_of_getElem? (idx_eq e6).2
      have e4 : s.1 ≤ t.PC := e4
      obtain ⟨nv1, nv2⟩ := next_val p _ _ _ e1
      have hkey : q.Kind ≤ 5 → 1 ≤ q.Key.length ∧ q.Key.length ≤ 16 := fun h => by
        rw [e9 (by omega)]
        exact saneOp_key u p.RO (hops u hum) e7.1 (by omega)
      rw [e1, Option.bind_some]
      dsimp only
      rw [if_neg (nn (by rfl)), show (⟨q.Kind, q.Seq, q.Token, q.Attempt, q.RO, q.Key, q.Val, ⟨q.Rng.Lo, q.Rng.Hi, q.Rng.Open⟩⟩ : GMsgReq) = q from rfl,
        told_m q now r1 (by omega) r3 (fun h => ⟨(hkey (by omega)).1, (hkey (by omega)).2, nv1, nv2⟩), Option.bind_some]
      have hlv8 : (lv q now).length ≤ 8 := by
        unfold lv
        split
        · rw [List.length_take]; omega
        · exact Nat.zero_le _
      obtain ⟨t', ht', hpc⟩ := take_m p t (repV q now) u (by omega) hsv hg e2 e3 e10 e6 e7 (by show (lv q now).length ≤ _; omega)
      have hk15 : ∀ puts' : Int, puts ≤ puts' → puts' ≤ puts + 1 → (q.Kind = 4 ∨ q.Kind = 5 → puts' = puts + 1) → ∃ s', m3_l19_ProgSteps_k15 p (now, puts, (N : Int), s) (q, t, true) (repV q now, nextV q now) puts' = some (.cont s') ∧
          (∃ (N : Nat) (sd : S10), s' = (s'.1, s'.2.1, (N : Int), sd) ∧ RiseK kvk s'.1 ∧ s'.1.length ≤ 60 + N ∧ (∀ x ∈ s'.1, x.Key.length ≤ 1000000) ∧ (N : Int) ≤ sd.1 ∧ sd.1 ≤ p.Ops.length ∧ 0 ≤ s'.2.1 ∧ s'.2.1 ≤ (N : Int) ∧
            (16 < s'.2.1 ∨ ∃ b k, Good b ∧ (b.length : Int) ≤ s'.2.1 ∧ s'.1 = ovL b a1 rO ∧ iter (m14_prog_Run_s2 p) k (a1, b, sd) = some (.inl v4))) ∧
          (p.Ops.length + 1 - s'.2.2.1 : Int).toNat < (p.Ops.length + 1 - (N : Int)).toNat := fun puts' w1 w2 w3 => by
        unfold m3_l19_ProgSteps_k15
        dsimp only
        rw [show (⟨p.RO, p.Ops⟩ : GProgProg) = p from rfl, show (⟨t.PC, ⟨t.Regs.R0, t.Regs.R1, t.Regs.R2, t.Regs.R3, t.Regs.R4, t.Regs.R5, t.Regs.R6, t.Regs.R7⟩, t.Stopped⟩ : GProgState) = t from rfl, ht', Option.bind_some]
        dsimp only
        rw [if_neg (nn (by rfl)), if_neg (by rw [decide_eq_true_eq]; omega)]
        unfold m3_l19_ProgSteps_k17
        dsimp only
        rw [wI_id (by omega) (by omega)]
        refine ⟨_, rfl, ⟨N + 1, unS t', rfl, ?_, ?_, ?_, by show ((N + 1 : Nat) : Int) ≤ t'.PC; omega, by show t'.PC ≤ _; omega, by dsimp only; omega, by dsimp only; omega, ?_⟩, by dsimp only; omega⟩
        · show RiseK kvk (nextV q now)
          unfold nextV
          split
          · exact ov_rise rO (one_rise _) r1
          · exact r1
        · show (nextV q now).length ≤ 60 + (N + 1)
          unfold nextV
          split
          · have := ov_len [wOf q] now rO
            rw [List.length_singleton] at this; omega
          · omega
        · show ∀ x ∈ nextV q now, x.Key.length ≤ 1000000
          unfold nextV
          intro x hx
          split at hx
          · rename_i h45
            rcases (ov_mem (one_rise _) r1).1 hx with ⟨_, hx, _⟩ | ⟨w, hw, _, _, rfl⟩
            · exact r3 x hx
            · rw [List.mem_singleton.1 hw]
              have := (hkey (by omega)).2
              show q.Key.length ≤ _; omega
          · exact r3 x hx
        · by_cases h16 : 16 < puts'
          · exact .inl h16
          · right
            rcases rel with rel | ⟨b, k, hb, hbl, rfl, hit⟩
            · omega
            · obtain ⟨b', ha, hb', hnx, hbl', hsame⟩ := answer_eq (q := q) hb hr (by omega) (by omega) hkey ⟨nv1, nv2⟩ (fun h => by have := w3 h; omega)
              obtain ⟨m, y, -, hy, hm⟩ := iter_eq hit
              unfold m14_prog_Run_s2 at hy
              dsimp only at hy
              rw [show (⟨p.RO, p.Ops⟩ : GProgProg) = p from rfl] at hy
              change Option.bind (m18_prog_Next p (mkS s)) _ = _ at hy
              rw [e1, Option.bind_some] at hy
              dsimp only at hy
              rw [if_neg (nn (by rfl)), show (⟨q.Kind, q.Seq, q.Token, q.Attempt, q.RO, q.Key, q.Val, ⟨q.Rng.Lo, q.Rng.Hi, q.Rng.Open⟩⟩ : GMsgReq) = q from rfl, ha, Option.bind_some] at hy
              dsimp only at hy
              rw [if_neg (nn (by rfl)), show (⟨t.PC, ⟨t.Regs.R0, t.Regs.R1, t.Regs.R2, t.Regs.R3, t.Regs.R4, t.Regs.R5, t.Regs.R6, t.Regs.R7⟩, t.Stopped⟩ : GProgState) = t from rfl, ht', Option.bind_some] at hy
              dsimp only at hy
              rw [if_neg (nn (by rfl))] at hy
              have hy := Option.some.inj hy
              subst hy
              refine ⟨b', m, hb', ?_, hnx, hm⟩
              dsimp only
              by_cases h45 : q.Kind = 4 ∨ q.Kind = 5
              · have := w3 h45; omega
              · rw [hsame h45]; omega
      by_cases h4 : q.Kind = 4
      · rw [if_pos (decide_eq_true h4), wI_id (by omega) (by omega)]
        exact hk15 _ (by omega) (by omega) (fun _ => rfl)
      · rw [if_neg (by rw [decide_eq_true_eq]; exact h4)]
        by_cases h5 : q.Kind = 5
        · rw [if_pos (decide_eq_true h5), wI_id (by omega) (by omega)]
          exact hk15 _ (by omega) (by omega) (fun _ => rfl)
        · rw [if_neg (by rw [decide_eq_true_eq]; exact h5)]
          exact hk15 _ (by omega) (by omega) (fun h => by omega)
    · right; right
      rw [e1, Option.bind_some]
      dsimp only
      rw [if_pos (by rfl), if_pos rfl]
      by_cases h16 : 16 < puts
      · rw [if_pos (decide_eq_true h16)]
        exact ⟨true, rfl, rfl⟩
      · rw [if_neg (by rw [decide_eq_true_eq]; exact h16)]
        rcases rel with rel | ⟨b, k, hb, hbl, rfl, hit⟩
        · exact absurd rel h16
        · obtain ⟨m, y, -, hy, hm⟩ := iter_eq hit
          unfold m14_prog_Run_s2 at hy
          dsimp only at hy
          rw [show (⟨p.RO, p.Ops⟩ : GProgProg) = p from rfl] at hy
          change Option.bind (m18_prog_Next p (mkS s)) _ = _ at hy
          rw [e1, Option.bind_some] at hy
          dsimp only at hy
          rw [if_pos (by rfl), all_m hb hr (by omega), Option.bind_some] at hy
          have hy := Option.some.inj hy
          subst hy
          have hm : (Sum.inl (ovL b a1 rO, t) : Sum ((List GApiKV) × GProgState) Unit) = .inl v4 := hm
          cases hm
          dsimp only
          have hol := ov_len b a1 rO
          have hbl16 := hb.len
          rw [kvs_m (by omega), Option.bind_some, if_pos rfl]
          unfold m17_l19_stated
          refine ⟨true, ?_, rfl⟩
          simp) fuel (a1, 0, 0, 0, 0, 0, 0, 0, 0, 0, 0, 0, false) ⟨0, (0, 0, 0, 0, 0, 0, 0, 0, 0, false), rfl, hr, by dsimp only; omega, fun x hx => Nat.le_trans (hs2 x hx) (by decide), Int.le_refl _, by show (0 : Int) ≤ _; omega, Int.le_refl _, Int.le_refl _, .inr ⟨[], fuel, Good.nil, Int.le_refl _, (ov_nil hr).symm, hx⟩⟩ (lt_fuel (by show ((p.Ops.length : Int) + 1 - 0).toNat ≤ _; omega))
  rw [hv, hvr]
  rfl
end Go.Proofs.Ytdehclinlcnlhaa.Abs
