/-
  Asked of what there is, one request behind the other, a program ends as Run does.
-/
import Derived.Test.YtdehclinlcnlhaaQ19
namespace Go.Proofs.Ytdehclinlcnlhaa.Abs


theorem iter_ret {σ β ρ : Type} {f : σ → Option (LR σ β ρ)} {R : ρ → Prop} (h : ∀ s r, f s = some (.ret r) → R r) : ∀ (n : Nat) (s : σ) (r : ρ), iter f n s = some (.inl r) → R r
  | 0, s, r, e => by cases e
  | n + 1, s, r, e => by
    obtain ⟨m, y, e1, e2, e3⟩ := iter_eq e
    cases y with
    | cont s' =>
      have e1 : n = m := by omega
      subst e1
      exact iter_ret h n s' r e3
    | brk b => cases e3
    | ret r' =>
      cases e3
      exact h s r e2

theorem next_val (p : GProgProg) (a t : GProgState) (q : GMsgReq) (h : m18_prog_Next p a = some (q, t, true)) : q.Val.length ≤ 32 ∧ (q.Kind = 5 → q.Val = []) := by
  have key : ∀ s (r : GMsgReq × GProgState × Bool), m18_prog_Next_s3 p s = some (.ret r) → r.1.Val.length ≤ 32 ∧ (r.1.Kind = 5 → r.1.Val = []) := fun s r hs => by
    unfold m18_prog_Next_s3 at hs
    split at hs
    · split at hs
      · unfold m18_prog_Next_k4 at hs
        obtain ⟨u, -, hs⟩ := bind_eq hs
        obtain ⟨v, -, hs⟩ := bind_eq hs
        split at hs
        · obtain ⟨q, hq, hs⟩ := bind_eq hs
          cases hs
          dsimp only
          unfold m33_prog_request at hq
          split at hq
          · cases hq
            exact ⟨Nat.zero_le _, fun _ => rfl⟩
          split at hq
          · obtain ⟨-, hq⟩ := chk_eq hq
            obtain ⟨x, -, hq⟩ := bind_eq hq
            obtain ⟨y, hy, hq⟩ := bind_eq hq
            rw [val_m] at hy
            cases hy
            cases hq
            exact ⟨by show 4 ≤ 32; decide, fun e => by cases e⟩
          split at hq
          · cases hq
            exact ⟨Nat.zero_le _, fun _ => rfl⟩
          · cases hq
            exact ⟨Nat.zero_le _, fun _ => rfl⟩
        · obtain ⟨q, -, hs⟩ := bind_eq hs
          cases hs
      · cases hs
    · cases hs
  unfold m18_prog_Next at h
  obtain ⟨v, -, h⟩ := bind_eq h
  split at h
  · cases h
  split at h
  · cases h
  unfold m18_prog_Next_k1 at h
  obtain ⟨v, hv, h⟩ := bind_eq h
  cases v with
  | inl r =>
    have := iter_ret key _ _ _ hv
    have h : some r = some (q, t, true) := h
    rw [Option.some.inj h] at this
    exact this
  | inr b => cases h

theorem saneOp_key (o : GProgOp) (ro : Bool) (h : m31_prog_saneOp o ro = some true) (h1 : 1 ≤ o.What) (h3 : o.What ≤ 3) : 1 ≤ o.Key.length ∧ o.Key.length ≤ 16 := by
  have k4 : m31_prog_saneOp_k4 o true = some true → 1 ≤ o.Key.length ∧ o.Key.length ≤ 16 := fun h => by
    unfold m31_prog_saneOp_k4 m48_keys_Sane at h
    rw [if_pos rfl] at h
    split at h
    · rename_i h1
      have h1 := of_decide_eq_true h1
      have h := of_decide_eq_true (Option.some.inj h)
      omega
    · cases h
  have k3 : m31_prog_saneOp_k3 o () = some true → 1 ≤ o.Key.length ∧ o.Key.length ≤ 16 := fun h => by
    unfold m31_prog_saneOp_k3 at h
    split at h
    · rename_i hw; rw [hw] at h; exact k4 h
    split at h
    · rename_i hw; rw [hw] at h; exact k4 h
    · rename_i hw1 hw2
      rw [decide_eq_true_eq] at hw1 hw2
      rw [decide_eq_true (by omega)] at h; exact k4 h
  unfold m31_prog_saneOp at h
  obtain ⟨v, -, h⟩ := bind_eq h
  split at h
  · cases h
  obtain ⟨v, -, h⟩ := bind_eq h
  split at h
  · cases h
  obtain ⟨v, -, h⟩ := bind_eq h
  split at h
  · cases h
  obtain ⟨v, -, h⟩ := bind_eq h
  split at h
  · cases h
  unfold m31_prog_saneOp_k1 at h
  obtain ⟨v, -, h⟩ := bind_eq h
  obtain ⟨w, -, h⟩ := bind_eq h
  split at h
  · cases h
  split at h
  · split at h
    · cases h
    · exact k3 h
  · exact k3 h
theorem psane_ops {p : GProgProg} (hl : p.Ops.length ≤ 1000000) (h : m15_prog_Sane p = some true) : ∀ o ∈ p.Ops, m31_prog_saneOp o p.RO = some true := by
  unfold m15_prog_Sane at h
  rw [allR p.Ops (fun o => (m31_prog_saneOp o p.RO).getD false) false (m15_prog_Sane_s2 p) (by omega) (fun i o ho => by
    have hlt := (List.getElem?_eq_some_iff.1 ho).1
    obtain ⟨v, hv, -⟩ := saneOp_m o p.RO
    unfold m15_prog_Sane_s2
    rw [if_pos (decide_eq_true (by omega)), idx_nat, ho, Option.bind_some, show (⟨o.What, o.A, o.B, o.N, o.Key, ⟨o.Rng.Lo, o.Rng.Hi, o.Rng.Open⟩⟩ : GProgOp) = o from rfl, hv, Option.bind_some, wI_id (by omega) (by omega)]
    cases v <;> rfl) (by
    unfold m15_prog_Sane_s2
    rw [if_neg (by rw [decide_eq_true_eq]; omega)])] at h
  intro o ho
  cases ha : p.Ops.all (fun o => (m31_prog_saneOp o p.RO).getD false) with
  | false => rw [ha] at h; cases h
  | true =>
    have := List.all_eq_true.1 ha o ho
    obtain ⟨v, hv, -⟩ := saneOp_m o p.RO
    rw [hv] at this ⊢
    rw [show v = true from this]

theorem sw_of {w : GApiWrite} (h1 : 1 ≤ w.Key.length) (h2 : w.Key.length ≤ 16) (h3 : w.Val.length ≤ 32) (h4 : w.Del = true → w.Val = []) : swV w = true := by
  unfold swV m60_buffer_saneWrite m48_keys_Sane
  rw [if_pos (decide_eq_true (by omega)), Option.bind_some, decide_eq_true (by omega), if_pos rfl, if_pos (decide_eq_true (by omega))]
  cases hd : w.Del with
  | false => rfl
  | true => rw [h4 hd]; rfl
theorem rsane_one {w : GApiWrite} (h1 : 1 ≤ w.Key.length) (h2 : w.Key.length ≤ 16) (h3 : w.Val.length ≤ 32) (h4 : w.Del = true → w.Val = []) : m51_r09_Sane ⟨[w]⟩ = some true := by
  unfold m51_r09_Sane
  rw [if_pos (by rfl)]
  unfold m67_r08_Writes
  rw [allR [w] (fun _ => true) false (m67_r08_Writes_s2 [w]) (by simp) (fun i x hx => by
    have hi : i = 0 := by have := (List.getElem?_eq_some_iff.1 hx).1; rw [List.length_singleton] at this; omega
    subst hi
    have hx : w = x := Option.some.inj hx
    subst hx
    unfold m67_r08_Writes_s2 m80_r06_Sane
    rw [if_pos (by rfl), idx_nat]
    show Option.bind (some w) _ = _
    rw [Option.bind_some, if_pos (decide_eq_true (by omega)), Option.bind_some, decide_eq_true (by omega), if_neg (by decide), if_neg (by decide), if_neg (by rw [decide_eq_true_eq]; omega), if_pos rfl]
    cases hd : w.Del with
    | false => rfl
    | true => rw [h4 hd]; rfl) (by
    unfold m67_r08_Writes_s2
    rw [if_neg (by simp)])]
  rfl

/-- What there is with one write laid over. -/
def insW (l : List GApiKV) (w : GApiWrite) : List GApiKV := l.filter (fun x => decide (cmpL x.Key w.Key < 0)) ++ ((if w.Del then [] else [kvw w]) ++ l.filter (fun x => decide (0 < cmpL x.Key w.Key)))
theorem one_rise (w : GApiWrite) : RiseK wk [w] := List.pairwise_singleton ..
theorem insW_ov {l : List GApiKV} (hl : RiseK kvk l) (w : GApiWrite) : insW l w = ovL [w] l rO := by
  refine rise_ext ?_ (ov_rise rO (one_rise w) hl) fun x => ?_
  · unfold insW
    have h1 : ∀ x ∈ l.filter (fun x => decide (cmpL x.Key w.Key < 0)), cmpL x.Key w.Key < 0 := fun x hx => of_decide_eq_true (List.mem_filter.1 hx).2
    have h2 : ∀ x ∈ l.filter (fun x => decide (0 < cmpL x.Key w.Key)), 0 < cmpL x.Key w.Key := fun x hx => of_decide_eq_true (List.mem_filter.1 hx).2
    have hle : ∀ {y : GApiKV}, 0 < cmpL y.Key w.Key → cmpL w.Key y.Key < 0 := fun {y} h => by have := cmpL_swap y.Key w.Key; omega
    refine List.pairwise_append.2 ⟨List.Pairwise.sublist (List.filter_sublist ..) hl, ?_, fun x hx y hy => ?_⟩
    · refine List.pairwise_append.2 ⟨by split <;> simp, List.Pairwise.sublist (List.filter_sublist ..) hl, fun x hx y hy => ?_⟩
      split at hx
      · simp at hx
      · rw [List.mem_singleton.1 hx]
        exact hle (h2 y hy)
    · rcases List.mem_append.1 hy with hy | hy
      · split at hy
        · simp at hy
        · rw [List.mem_singleton.1 hy]
          exact h1 x hx
      · exact (cmpL_trans (Int.le_of_lt (h1 x hx)) (Int.le_of_lt (hle (h2 y hy)))).2 (.inl (h1 x hx))
  · rw [ov_mem (one_rise w) hl]
    unfold insW
    simp only [List.mem_append, List.mem_filter, decide_eq_true_eq, hasO, true_and, List.map_cons, List.map_nil, List.mem_singleton, exists_eq_left]
    have hne : (cmpL x.Key w.Key < 0 ∨ 0 < cmpL x.Key w.Key) ↔ ¬ x.Key = wk w := by
      constructor
      · intro h e
        have e : x.Key = w.Key := e
        rw [e, cmpL_self] at h; omega
      · intro h
        rcases Int.lt_trichotomy (cmpL x.Key w.Key) 0 with hh | hh | hh
        · exact .inl hh
        · exact absurd (cmpL_zero hh) h
        · exact .inr hh
    constructor
    · rintro (⟨h1, h2⟩ | h1 | ⟨h1, h2⟩)
      · exact .inl ⟨h1, hne.1 (.inl h2)⟩
      · right
        split at h1
        · simp at h1
        · rename_i hd
          exact ⟨by simpa using hd, List.mem_singleton.1 h1⟩
      · exact .inl ⟨h1, hne.1 (.inr h2)⟩
    · rintro (⟨h1, h2⟩ | ⟨h1, h2⟩)
      · rcases hne.2 h2 with h | h
        · exact .inl ⟨h1, h⟩
        · exact .inr (.inr ⟨h1, h⟩)
      · refine .inr (.inl ?_)
        rw [h1, h2]
        simp
theorem ov_set {b : List GApiWrite} {l : List GApiKV} (hb : RiseK wk b) (hl : RiseK kvk l) (w : GApiWrite) : ovL [w] (ovL b l rO) rO = ovL (setR b w) l rO := by
  have h1 := ov_rise rO hb hl
  refine rise_ext (ov_rise rO (one_rise w) h1) (ov_rise rO (setR_rise hb w) hl) fun x => ?_
  rw [ov_mem (one_rise w) h1, ov_mem (setR_rise hb w) hl, ov_mem hb hl]
  simp only [hasO, true_and, List.map_cons, List.map_nil, List.mem_singleton, exists_eq_left, List.mem_map, setR_mem]
  constructor
  · rintro (⟨⟨h1, h2⟩ | ⟨v, hv, h2, h3⟩, h4⟩ | ⟨h1, h2⟩)
    · refine .inl ⟨h1, ?_⟩
      rintro ⟨v, rfl | ⟨hv, _⟩, e⟩
      · exact h4 e.symm
      · exact h2 ⟨v, hv, e⟩
    · refine .inr ⟨v, .inr ⟨hv, fun e => h4 ?_⟩, h2, h3⟩
      rw [h3]; exact e
    · exact .inr ⟨w, .inl rfl, h1, h2⟩
  · rintro (⟨h1, h2⟩ | ⟨v, rfl | ⟨hv, hne⟩, h2, h3⟩)
    · refine .inl ⟨.inl ⟨h1, ?_⟩, fun e => h2 ⟨w, .inl rfl, e.symm⟩⟩
      rintro ⟨v, hv, e⟩
      by_cases hvw : wk v = wk w
      · exact h2 ⟨w, .inl rfl, by rw [← hvw]; exact e⟩
      · exact h2 ⟨v, .inr ⟨hv, hvw⟩, e⟩
    · exact .inr ⟨h2, h3⟩
    · refine .inl ⟨.inr ⟨v, hv, h2, h3⟩, fun e => hne ?_⟩
      rw [h3] at e; exact e

/-- The document's own way to lay one write over. -/
theorem rover_m {w : GApiWrite} (h1 : 1 ≤ w.Key.length) (h2 : w.Key.length ≤ 16) (h3 : w.Val.length ≤ 32) (h4 : w.Del = true → w.Val = []) {l : List GApiKV} (hl : RiseK kvk l) (hn : l.length ≤ 900) (hk : ∀ x ∈ l, x.Key.length ≤ 1000000) :
    m36_r09_Over ⟨[w]⟩ l rO 1000 = some (ovL [w] l rO) := by
  unfold m36_r09_Over
  rw [rsane_one h1 h2 h3 h4, Option.bind_some, if_neg (by decide)]
  obtain ⟨v, hv, hvi⟩ := rising_m hk (by omega)
  rw [hv, hvi.2 hl, Option.bind_some, if_neg (by decide)]
  unfold m36_r09_Over_k1
  have hlt : ∀ (i j : Nat) (hi : i < l.length) (hj : j < l.length), i < j → cmpL l[i].Key l[j].Key < 0 := fun i j hi hj hij => List.pairwise_iff_getElem.1 hl i j hi hj hij
  -- below: those that were passed while the write was not laid; behind it the others
  obtain ⟨v, hv, hr⟩ := iterB_inv (f := m36_r09_Over_s3 ⟨[w]⟩ l rO 1000) (P := fun s => ∃ i : Nat, i ≤ l.length ∧ s.1 = (i : Int) ∧
      ((s.2.1 = 0 ∧ s.2.2 = l.take i ∧ ∀ x ∈ l.take i, cmpL x.Key w.Key < 0) ∨
       (s.2.1 = 1 ∧ (∀ x ∈ l.drop i, 0 < cmpL x.Key w.Key) ∧ s.2.2 ++ l.drop i = insW l w)))
    (μ := fun s => (l.length - s.1.toNat) + (1 - s.2.1.toNat)) (R := fun v => v = insW l w) (by
    rintro ⟨_, k, out⟩ ⟨i, hi, rfl, hcase⟩
    dsimp only at hcase
    have hol : out.length ≤ 901 := by
      rcases hcase with ⟨-, e, -⟩ | ⟨-, -, e⟩
      · rw [e, List.length_take]; omega
      · have e := congrArg List.length e
        have : (insW l w).length ≤ l.length + l.length + 1 := by
          unfold insW
          rw [List.length_append, List.length_append]
          have a1 := List.length_filter_le (fun x : GApiKV => decide (cmpL x.Key w.Key < 0)) l
          have a2 := List.length_filter_le (fun x : GApiKV => decide (0 < cmpL x.Key w.Key)) l
          split <;> simp <;> omega
        rw [insW_ov hl] at e
        have h9 := ov_len [w] l rO
        rw [List.length_append, List.length_singleton] at *
        omega
    have hgt : (∀ x ∈ l.drop i, 0 < cmpL x.Key w.Key) → (∀ x ∈ l.take i, cmpL x.Key w.Key < 0) → insW l w = l.take i ++ ((if w.Del then [] else [kvw w]) ++ l.drop i) := fun g1 g2 => by
      unfold insW
      have e : ∀ p : GApiKV → Bool, l.filter p = (l.take i).filter p ++ (l.drop i).filter p := fun p => by rw [← List.filter_append, List.take_append_drop]
      rw [e, e]
      rw [List.filter_eq_self.2 fun x hx => decide_eq_true (g2 x hx), List.filter_eq_nil_iff.2 fun x hx => by have := g1 x hx; rw [decide_eq_true_eq]; omega, List.filter_eq_nil_iff (l := l.take i) |>.2 fun x hx => by have := g2 x hx; rw [decide_eq_true_eq]; omega, List.filter_eq_self (l := l.drop i) |>.2 fun x hx => decide_eq_true (g1 x hx), List.append_nil, List.nil_append]
    unfold m36_r09_Over_s3
    dsimp only
    rcases hcase with ⟨rfl, rfl, hlo⟩ | ⟨rfl, hhi, hins⟩
    · -- the write is not laid yet
      have hgo : m36_r09_Over_k4 ⟨[w]⟩ l rO ((i : Int), 0, l.take i) () = (if h : i < l.length then (if cmpL l[i].Key w.Key < 0 then some (.cont ((i : Int) + 1, 0, l.take i ++ [l[i]])) else if cmpL l[i].Key w.Key = 0 then some (.cont ((i : Int) + 1, 1, l.take i ++ (if w.Del then [] else [kvw w]))) else some (.cont ((i : Int), 1, l.take i ++ (if w.Del then [] else [kvw w])))) else some (.cont ((i : Int), 1, l.take i ++ (if w.Del then [] else [kvw w])))) := by
        have htl : (l.take i).length ≤ 900 := by rw [List.length_take]; omega
        have hk8 : ∀ (x : GApiKV) (d : Bool) (a b : Int), x.Key.length ≤ 1000000 → m36_r09_Over_k8 rO ((i : Int), 0, l.take i) (d, x.Key, x.Val) a b = some (.cont (a, b, l.take i ++ (if d then [] else [x]))) := fun x d a b hx => by
          unfold m36_r09_Over_k8
          dsimp only
          cases d with
          | true => rw [if_neg (by decide), if_pos rfl, List.append_nil]
          | false =>
            rw [if_pos (by rfl), rhas_m _ _ (by omega), Option.bind_some, hasO, if_pos rfl, if_pos (by rw [List.length_singleton]; omega), if_neg (by decide)]
        unfold m36_r09_Over_k4
        dsimp only
        have h5 : ∀ c : Int, 0 ≤ c → m36_r09_Over_k5 ⟨[w]⟩ l rO ((i : Int), 0, l.take i) c = some (.cont ((if c ≤ 0 then (i : Int) + 1 else (i : Int)), 1, l.take i ++ (if w.Del then [] else [kvw w]))) := fun c hc => by
          unfold m36_r09_Over_k5
          rw [if_neg (by rw [decide_eq_true_eq]; omega)]
          dsimp only
          rw [show idx [w] (0 : Int) = some w from rfl]
          simp only [Option.bind_some]
          unfold m36_r09_Over_k6 m36_r09_Over_k7
          dsimp only
          rw [wI_id (n := (i : Int) + 1) (by omega) (by omega), show wI (0 + 1) = 1 from by decide]
          by_cases hc0 : c ≤ 0
          · rw [if_pos (decide_eq_true hc0), if_pos (decide_eq_true hc), if_pos hc0]
            exact hk8 (kvw w) w.Del _ _ (by show w.Key.length ≤ _; omega)
          · rw [if_neg (by rw [decide_eq_true_eq]; exact hc0), if_pos (decide_eq_true hc), if_neg hc0]
            exact hk8 (kvw w) w.Del _ _ (by show w.Key.length ≤ _; omega)
        by_cases hi' : i < l.length
        · rw [dif_pos hi', if_neg (by rw [decide_eq_true_eq]; omega), if_pos (by rfl), idx_nat, List.getElem?_eq_getElem hi', Option.bind_some, show idx [w] (0 : Int) = some w from rfl, Option.bind_some, rcmp_m _ _ (by have := hk _ (List.getElem_mem hi'); omega), Option.bind_some]
          by_cases hc : cmpL l[i].Key w.Key < 0
          · rw [if_pos hc]
            unfold m36_r09_Over_k5
            rw [if_pos (decide_eq_true hc)]
            dsimp only
            rw [idx_nat, List.getElem?_eq_getElem hi', Option.bind_some]
            unfold m36_r09_Over_k6 m36_r09_Over_k7
            dsimp only
            rw [if_pos (decide_eq_true (by omega)), if_neg (by rw [decide_eq_true_eq]; omega), wI_id (by omega) (by omega), hk8 l[i] false _ _ (hk _ (List.getElem_mem hi')), if_neg (by decide)]
          · rw [if_neg hc, h5 _ (by omega)]
            by_cases hc0 : cmpL l[i].Key w.Key = 0
            · rw [if_pos hc0, if_pos (by omega)]
            · rw [if_neg hc0, if_neg (by omega)]
        · rw [dif_neg hi', if_pos (decide_eq_true (by omega)), h5 1 (by decide), if_neg (by decide)]
      left
      have hbr : (if (decide ((i : Int) < (l.length : Int))) = true then (if (decide (((l.take i).length : Int) < 1000)) = true then (m36_r09_Over_k4 ⟨[w]⟩ l rO ((i : Int), 0, l.take i) ()) else (some (.brk (l.take i)))) else (if (decide ((0 : Int) < (([w] : List GApiWrite).length : Int))) = true then (if (decide (((l.take i).length : Int) < 1000)) = true then (m36_r09_Over_k4 ⟨[w]⟩ l rO ((i : Int), 0, l.take i) ()) else (some (.brk (l.take i)))) else (some (.brk (l.take i))))) = m36_r09_Over_k4 ⟨[w]⟩ l rO ((i : Int), 0, l.take i) () := by
        rw [if_pos (c := decide (((l.take i).length : Int) < 1000) = true) (decide_eq_true (by rw [List.length_take]; omega)), if_pos (c := decide ((0 : Int) < (([w] : List GApiWrite).length : Int)) = true) (by rfl)]
        split <;> rfl
      rw [hbr, hgo]
      by_cases hi' : i < l.length
      · rw [dif_pos hi']
        have htk : l.take (i + 1) = l.take i ++ [l[i]] := List.take_succ_eq_append_getElem hi'
        have hdr : l.drop i = l[i] :: l.drop (i + 1) := List.drop_eq_getElem_cons hi'
        have hup : ∀ x ∈ l.drop (i + 1), cmpL l[i].Key x.Key < 0 := fun x hx => by
          obtain ⟨j, hj, e⟩ := List.getElem_of_mem hx
          rw [List.getElem_drop] at e
          rw [← e]
          rw [List.length_drop] at hj
          exact hlt i (i + 1 + j) hi' (by omega) (by omega)
        by_cases hc : cmpL l[i].Key w.Key < 0
        · rw [if_pos hc]
          refine ⟨_, rfl, ⟨i + 1, hi', rfl, .inl ⟨rfl, htk.symm, fun x hx => ?_⟩⟩, by dsimp only; omega⟩
          rw [htk] at hx
          rcases List.mem_append.1 hx with hx | hx
          · exact hlo x hx
          · rw [List.mem_singleton.1 hx]; exact hc
        · rw [if_neg hc]
          have hgtr : 0 ≤ cmpL l[i].Key w.Key → ∀ x ∈ l.drop (i + 1), 0 < cmpL x.Key w.Key := fun h0 x hx => by
            have a1 := hup x hx
            have a2 : cmpL w.Key l[i].Key ≤ 0 := cmpL_ge.1 h0
            have := (cmpL_trans a2 (Int.le_of_lt a1)).2 (.inr a1)
            have := cmpL_swap x.Key w.Key
            omega
          by_cases hc0 : cmpL l[i].Key w.Key = 0
          · rw [if_pos hc0]
            refine ⟨_, rfl, ⟨i + 1, hi', rfl, .inr ⟨rfl, hgtr (by omega), ?_⟩⟩, by dsimp only; omega⟩
            dsimp only
            unfold insW
            have e : ∀ p : GApiKV → Bool, l.filter p = (l.take i).filter p ++ ([l[i]].filter p ++ (l.drop (i + 1)).filter p) := fun p => by
              rw [← List.filter_append, ← List.filter_append]
              congr 1
              rw [List.singleton_append, ← hdr, List.take_append_drop]
            rw [e, e]
            have f1 : [l[i]].filter (fun x => decide (cmpL x.Key w.Key < 0)) = [] := by rw [List.filter_cons, decide_eq_false hc]; rfl
            have f2 : [l[i]].filter (fun x => decide (0 < cmpL x.Key w.Key)) = [] := by rw [List.filter_cons, decide_eq_false (by omega)]; rfl
            rw [f1, f2, List.filter_eq_self.2 fun x hx => decide_eq_true (hlo x hx), List.filter_eq_nil_iff (l := l.drop (i + 1)) |>.2 fun x hx => by have := hgtr (by omega) x hx; rw [decide_eq_true_eq]; omega, List.filter_eq_nil_iff (l := l.take i) |>.2 fun x hx => by have := hlo x hx; rw [decide_eq_true_eq]; omega, List.filter_eq_self (l := l.drop (i + 1)) |>.2 fun x hx => decide_eq_true (hgtr (by omega) x hx)]
            simp
          · rw [if_neg hc0]
            have hall : ∀ x ∈ l.drop i, 0 < cmpL x.Key w.Key := fun x hx => by
              rw [hdr] at hx
              rcases List.mem_cons.1 hx with e | hx
              · rw [e]; omega
              · exact hgtr (by omega) x hx
            refine ⟨_, rfl, ⟨i, hi, rfl, .inr ⟨rfl, hall, ?_⟩⟩, by dsimp only; omega⟩
            dsimp only
            rw [hgt hall hlo, List.append_assoc]
      · rw [dif_neg hi']
        have hall : ∀ x ∈ l.drop i, 0 < cmpL x.Key w.Key := fun x hx => by
          rw [List.drop_of_length_le (by omega)] at hx; simp at hx
        refine ⟨_, rfl, ⟨i, hi, rfl, .inr ⟨rfl, hall, ?_⟩⟩, by dsimp only; omega⟩
        dsimp only
        rw [hgt hall hlo, List.append_assoc]
    · -- the write is laid
      by_cases hi' : i < l.length
      · left
        have hdr : l.drop i = l[i] :: l.drop (i + 1) := List.drop_eq_getElem_cons hi'
        rw [if_pos (decide_eq_true (by omega)), if_pos (decide_eq_true (by omega))]
        unfold m36_r09_Over_k4
        dsimp only
        rw [if_neg (by rw [decide_eq_true_eq]; omega), if_neg (by simp)]
        unfold m36_r09_Over_k5
        rw [if_pos (by rfl)]
        dsimp only
        rw [idx_nat, List.getElem?_eq_getElem hi', Option.bind_some]
        unfold m36_r09_Over_k6 m36_r09_Over_k7 m36_r09_Over_k8
        dsimp only
        rw [if_pos (by rfl), if_neg (by decide), if_pos (by rfl), rhas_m _ _ (by have := hk _ (List.getElem_mem hi'); omega), Option.bind_some, hasO, if_pos rfl, if_pos (by rw [List.length_singleton]; omega), wI_id (by omega) (by omega)]
        refine ⟨_, rfl, ⟨i + 1, hi', rfl, .inr ⟨rfl, fun x hx => hhi x (by rw [hdr]; exact List.mem_cons_of_mem _ hx), ?_⟩⟩, by dsimp only; omega⟩
        dsimp only
        rw [← hins, hdr, List.append_assoc]; rfl
      · right
        rw [if_neg (by rw [decide_eq_true_eq]; omega), if_neg (by simp)]
        rw [List.drop_of_length_le (by omega), List.append_nil] at hins
        exact ⟨_, rfl, hins⟩) fuel (0, 0, []) ⟨0, Nat.zero_le _, rfl, .inl ⟨rfl, rfl, by simp⟩⟩ (lt_fuel (by show (l.length - 0) + (1 - 0) ≤ _; omega))
  rw [hv, hr, insW_ov hl]; rfl
end Go.Proofs.Ytdehclinlcnlhaa.Abs
