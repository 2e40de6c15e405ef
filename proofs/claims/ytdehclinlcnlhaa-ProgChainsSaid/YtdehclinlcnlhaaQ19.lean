/-
  Programs that only read; one behind the other; what is not named.
-/
import Derived.Test.YtdehclinlcnlhaaO19
namespace Go.Proofs.Ytdehclinlcnlhaa.Abs

theorem shortL_m (l : List GApiKV) : ∃ v, m11_l19_short l = some v ∧ (v = true → l.length ≤ 60 ∧ ∀ x ∈ l, x.Key.length ≤ 50) := by
  unfold m11_l19_short
  by_cases h1 : (60 : Int) < l.length
  · rw [if_pos (decide_eq_true h1)]; exact ⟨_, rfl, fun h => by cases h⟩
  rw [if_neg (by rw [decide_eq_true_eq]; exact h1)]
  rw [allR l (fun x => !decide (50 < (x.Key.length : Int)) && !decide (100 < (x.Val.length : Int))) false (m11_l19_short_s2 l) (by omega) (fun i x hx => by
    have hlt := (List.getElem?_eq_some_iff.1 hx).1
    unfold m11_l19_short_s2
    rw [if_pos (decide_eq_true (by omega)), idx_nat, hx, Option.bind_some, Option.bind_some, wI_id (by omega) (by omega)]
    cases decide (50 < (x.Key.length : Int)) <;> cases decide (100 < (x.Val.length : Int)) <;> rfl) (by
    unfold m11_l19_short_s2
    rw [if_neg (by rw [decide_eq_true_eq]; omega)])]
  cases ha : l.all (fun x => !decide (50 < (x.Key.length : Int)) && !decide (100 < (x.Val.length : Int))) with
  | true => exact ⟨true, rfl, fun _ => ⟨by omega, fun o ho => by
      have := List.all_eq_true.1 ha o ho
      simp only [Bool.and_eq_true, Bool.not_eq_true', decide_eq_false_iff_not] at this
      omega⟩⟩
  | false => exact ⟨false, rfl, fun h => by cases h⟩
theorem oG_keys {p : GR19Prog} (h : ∀ o ∈ p.Ops, o.Key.length ≤ 50) : ∀ o ∈ (oG p).Ops, o.Key.length ≤ 50 := fun o ho => by
  obtain ⟨w, hw, rfl⟩ := List.mem_map.1 ho
  exact h w hw
theorem ov_keys {b : List GApiWrite} {l : List GApiKV} (hb : Good b) (hl : RiseK kvk l) (hk : ∀ x ∈ l, x.Key.length ≤ 1000000) : ∀ x ∈ ovL b l rO, x.Key.length ≤ 1000000 := fun x hx => by
  rcases (ov_mem hb.rise hl).1 hx with ⟨_, h, _⟩ | ⟨w, hw, _, _, rfl⟩
  · exact hk x h
  · have := key_small hb w hw
    show w.Key.length ≤ 1000000
    omega

theorem progReads_true (a0 : GR19Prog) (a1 : List GApiKV) (a2 : GR19State) : m4_l19_ProgReads a0 a1 a2 = some true := by
  unfold m4_l19_ProgReads
  rw [awake19, Option.bind_some, show (⟨a0.RO, a0.Ops⟩ : GR19Prog) = a0 from rfl]
  obtain ⟨v, hv, hf⟩ := few_m a0
  rw [hv, Option.bind_some]
  cases v with
  | false => rfl
  | true =>
  obtain ⟨hl, hkl⟩ := hf rfl
  rw [if_neg (nn (by rfl))]
  obtain ⟨v, hv, hs⟩ := shortL_m a1
  rw [hv, Option.bind_some]
  cases v with
  | false => rfl
  | true =>
  obtain ⟨hs1, hs2⟩ := hs rfl
  rw [if_neg (nn (by rfl))]
  obtain ⟨v, hv, hr⟩ := rising_m (l := a1) (fun x hx => Nat.le_trans (hs2 x hx) (by decide)) (by omega)
  rw [hv, Option.bind_some]
  cases v with
  | false => rfl
  | true =>
  have hr := hr.1 rfl
  rw [if_neg (nn (by rfl))]
  unfold m4_l19_ProgReads_k2
  have hol : (oG ⟨true, a0.Ops⟩).Ops.length = a0.Ops.length := List.length_map _
  rw [program_m ⟨true, a0.Ops⟩ (by show a0.Ops.length ≤ _; omega), Option.bind_some]
  obtain ⟨sv, hsv, hg⟩ := psane_m (oG ⟨true, a0.Ops⟩) (by omega)
  obtain ⟨b, t, e1, e2, e3, -⟩ := run_m (I := fun b => b = []) (oG ⟨true, a0.Ops⟩) a1 (by omega) hr (by omega) (oG_keys (p := ⟨true, a0.Ops⟩) hkl) rfl (fun hsane u hu hw b hb v d => by
    rw [hsane] at hsv
    cases hsv
    have := (hg rfl).2 rfl u hu
    omega)
  subst e3
  rw [e1, Option.bind_some, ov_nil hr, show m21_l19_state ⟨a2.PC, ⟨a2.Regs.R0, a2.Regs.R1, a2.Regs.R2, a2.Regs.R3, a2.Regs.R4, a2.Regs.R5, a2.Regs.R6, a2.Regs.R7⟩, a2.Stopped⟩ = some (oS a2) from rfl, Option.bind_some,
    show (⟨(oS a2).PC, ⟨(oS a2).Regs.R0, (oS a2).Regs.R1, (oS a2).Regs.R2, (oS a2).Regs.R3, (oS a2).Regs.R4, (oS a2).Regs.R5, (oS a2).Regs.R6, (oS a2).Regs.R7⟩, (oS a2).Stopped⟩ : GProgState) = oS a2 from rfl]
  have hfin : ∃ q u ok, m18_prog_Next (oG ⟨true, a0.Ops⟩) (oS a2) = some (q, u, ok) ∧ (ok = true → q.Kind = 3 ∨ q.Kind = 6) := by
    cases sv with
    | false => exact ⟨_, _, _, next_no _ _ (.inl hsv), fun h => by cases h⟩
    | true =>
      by_cases h0 : a2.PC < 0
      · exact ⟨_, _, _, next_no _ _ (.inr ⟨hsv, h0⟩), fun h => by cases h⟩
      · rcases next_m (oG ⟨true, a0.Ops⟩) (oS a2) (by omega) hsv (hg rfl).1 (by show 0 ≤ a2.PC; omega) with ⟨q, t, u, f1, f2, f3, f4, f5, f6, f7, f8, -⟩ | ⟨t, f1, -⟩
        · refine ⟨_, _, _, f1, fun _ => ?_⟩
          have := (hg rfl).2 rfl u (List.mem_of_getElem? (idx_eq f6).2)
          omega
        · exact ⟨_, _, _, f1, fun h => by cases h⟩
  obtain ⟨q, u, ok, f1, f2⟩ := hfin
  rw [f1, Option.bind_some, if_pos rfl]
  dsimp only
  rw [kvs_m (by omega), Option.bind_some, if_pos rfl]
  cases ok with
  | false => rfl
  | true =>
    rw [if_neg (nn (by rfl))]
    rcases f2 rfl with h | h
    · rw [if_pos (decide_eq_true h)]
    · rw [decide_eq_true h]
      split <;> rfl

theorem progChains_true (a0 a1 : GR19Prog) (a2 : List GApiKV) : m8_l19_ProgChains a0 a1 a2 = some true := by
  unfold m8_l19_ProgChains
  rw [awake19, Option.bind_some]
  obtain ⟨v, hv, hf⟩ := few_m a0
  rw [hv, Option.bind_some]
  cases v with
  | false => rfl
  | true =>
  obtain ⟨hl, hkl⟩ := hf rfl
  rw [if_neg (nn (by rfl))]
  obtain ⟨v, hv, hf⟩ := few_m a1
  rw [hv, Option.bind_some]
  cases v with
  | false => rfl
  | true =>
  obtain ⟨hl1, hkl1⟩ := hf rfl
  rw [if_neg (nn (by rfl))]
  obtain ⟨v, hv, hs⟩ := shortL_m a2
  rw [hv, Option.bind_some]
  cases v with
  | false => rfl
  | true =>
  obtain ⟨hs1, hs2⟩ := hs rfl
  rw [if_neg (nn (by rfl))]
  have hk2 : ∀ x ∈ a2, x.Key.length ≤ 1000000 := fun x hx => Nat.le_trans (hs2 x hx) (by decide)
  obtain ⟨v, hv, hr⟩ := rising_m (l := a2) hk2 (by omega)
  rw [hv, Option.bind_some]
  cases v with
  | false => rfl
  | true =>
  have hr := hr.1 rfl
  rw [if_neg (nn (by rfl))]
  unfold m8_l19_ProgChains_k2
  have hol : (oG a0).Ops.length = a0.Ops.length := List.length_map _
  have hol1 : (oG a1).Ops.length = a1.Ops.length := List.length_map _
  obtain ⟨b, t, e1, e2, -, e4, -⟩ := run_m (I := fun _ => True) (oG a0) a2 (by omega) hr (by omega) (oG_keys hkl) trivial (fun _ _ _ _ _ _ _ _ => trivial)
  have hr1 := ov_rise rO e2.rise hr
  have hk1 := ov_keys e2 hr hk2
  have hlen1 := ov_len b a2 rO
  rw [program_m a0 (by omega), Option.bind_some, e1, Option.bind_some, program_m a1 (by omega), Option.bind_some]
  dsimp only
  generalize ovL b a2 rO = x at *
  obtain ⟨b', t', f1, f2, -, f4, -⟩ := run_m (I := fun _ => True) (oG a1) x (by omega) hr1 (by omega) (oG_keys hkl1) trivial (fun _ _ _ _ _ _ _ _ => trivial)
  have hr2 := ov_rise rO f2.rise hr1
  have hk3 := ov_keys f2 hr1 hk1
  have hlen2 := ov_len b' x rO
  simp only [f1, Option.bind_some]
  generalize ovL b' x rO = y at *
  obtain ⟨b'', t'', g1, g2, -, g4, g5, g6⟩ := run_m (I := fun _ => True) ⟨false, []⟩ y (by show 0 ≤ 1000; omega) hr2 (by omega) (fun o ho => by cases ho) trivial (fun _ _ _ _ _ _ _ _ => trivial)
  have e0 : b'' = [] := List.eq_nil_of_length_eq_zero (by have : b''.length ≤ 0 := g4; omega)
  subst e0
  rw [ov_nil hr2] at g1
  have g6 : t''.PC ≤ (0 : Int) := g6
  rw [g1]
  simp only [Option.bind_some]
  rw [if_pos (by trivial), kvs_m (by omega), Option.bind_some, if_pos rfl]
  unfold m17_l19_stated
  rw [Option.bind_some, Option.bind_some]
  dsimp only
  rw [eq8, if_pos rfl, decide_eq_true (p := t''.PC = 0) (by omega)]
  obtain ⟨v, hv, hrr⟩ := rising_m hk3 (by omega)
  rw [hv, hrr.2 hr2]
  rfl

theorem progTouches_true (a0 : GR19Prog) (a1 : List GApiKV) : m6_l19_ProgTouches a0 a1 = some true := by
  unfold m6_l19_ProgTouches
  rw [awake19, Option.bind_some]
  obtain ⟨v, hv, hf⟩ := few_m a0
  rw [hv, Option.bind_some]
  cases v with
  | false => rfl
  | true =>
  obtain ⟨hl, hkl⟩ := hf rfl
  rw [if_neg (nn (by rfl))]
  obtain ⟨v, hv, hs⟩ := shortL_m a1
  rw [hv, Option.bind_some]
  cases v with
  | false => rfl
  | true =>
  obtain ⟨hs1, hs2⟩ := hs rfl
  rw [if_neg (nn (by rfl))]
  have hk1 : ∀ x ∈ a1, x.Key.length ≤ 1000000 := fun x hx => Nat.le_trans (hs2 x hx) (by decide)
  obtain ⟨v, hv, hr⟩ := rising_m (l := a1) hk1 (by omega)
  rw [hv, Option.bind_some]
  cases v with
  | false => rfl
  | true =>
  have hr := hr.1 rfl
  rw [if_neg (nn (by rfl))]
  unfold m6_l19_ProgTouches_k2
  have hol : (oG a0).Ops.length = a0.Ops.length := List.length_map _
  obtain ⟨b, t, e1, e2, e3, e4, -⟩ := run_m (I := fun b => ∀ w ∈ b, ∃ u ∈ a0.Ops, (u.What = 2 ∨ u.What = 3) ∧ u.Key = w.Key) (oG a0) a1 (by omega) hr (by omega) (oG_keys hkl) (fun w hw => by cases hw) (fun _ u hu hw b hb v d w hw' => by
    rcases setR_mem.1 hw' with rfl | ⟨h, -⟩
    · obtain ⟨o, ho, rfl⟩ := List.mem_map.1 hu
      exact ⟨o, ho, hw, rfl⟩
    · exact hb w h)
  have hr1 := ov_rise rO e2.rise hr
  have hk2 := ov_keys e2 hr hk1
  have hlen := ov_len b a1 rO
  have hmem : ∀ x ∈ a1, (∀ u ∈ a0.Ops, (u.What = 2 ∨ u.What = 3) → u.Key ≠ x.Key) → x ∈ ovL b a1 rO := fun x hx hu => by
    rw [ov_mem e2.rise hr]
    refine .inl ⟨hasO _, hx, fun hm => ?_⟩
    obtain ⟨w, hw, hwk⟩ := List.mem_map.1 hm
    obtain ⟨u, hu1, hu2, hu3⟩ := e3 w hw
    exact hu u hu1 hu2 (hu3.trans hwk)
  rw [program_m a0 (by omega), Option.bind_some, e1, Option.bind_some]
  generalize ovL b a1 rO = l at *
  rw [allR a1 (fun _ => true) false (m6_l19_ProgTouches_s7 a0 a1 (l, t)) (by omega) (fun i x hx => by
    have hlt := (List.getElem?_eq_some_iff.1 hx).1
    unfold m6_l19_ProgTouches_s7
    rw [if_pos (decide_eq_true (by omega)), anyB a0.Ops (fun u => (decide (u.What = 2) || decide (u.What = 3)) && (u.Key == x.Key)) (m6_l19_ProgTouches_s16 a0 a1 (i : Int)) (by omega) (fun j u c hu => by
      have hlt' := (List.getElem?_eq_some_iff.1 hu).1
      unfold m6_l19_ProgTouches_s16
      dsimp only
      rw [if_pos (decide_eq_true (by omega)), wI_id (by omega) (by omega)]
      cases c with
      | true => rw [if_pos rfl]; rfl
      | false =>
        rw [if_neg (nn (by rfl)), idx_nat, hu]
        simp only [Option.bind_some]
        rw [idx_nat, hx]
        simp only [Option.bind_some]
        by_cases h2 : u.What = 2
        · simp [h2]
        · by_cases h3 : u.What = 3
          · simp [h3]
          · simp [h2, h3]) (fun c => by
      unfold m6_l19_ProgTouches_s16
      dsimp only
      rw [if_neg (by rw [decide_eq_true_eq]; omega)]), Option.bind_some]
    unfold m6_l19_ProgTouches_k8
    rw [anyB l (fun y => (y.Key == x.Key) && (y.Val == x.Val)) (m6_l19_ProgTouches_s10 a1 (l, t) (i : Int)) (by omega) (fun j y c hy => by
      have hlt' := (List.getElem?_eq_some_iff.1 hy).1
      unfold m6_l19_ProgTouches_s10
      dsimp only
      rw [if_pos (decide_eq_true (by omega)), wI_id (by omega) (by omega)]
      cases c with
      | true => rw [if_pos rfl]; rfl
      | false =>
        rw [if_neg (nn (by rfl)), idx_nat, hy]
        simp only [Option.bind_some]
        rw [idx_nat, hx]
        simp only [Option.bind_some]
        by_cases h2 : y.Key = x.Key
        · simp [h2]
        · simp [h2]) (fun c => by
      unfold m6_l19_ProgTouches_s10
      dsimp only
      rw [if_neg (by rw [decide_eq_true_eq]; omega)]), Option.bind_some]
    unfold m6_l19_ProgTouches_k9
    rw [wI_id (by omega) (by omega), if_pos rfl]
    cases hn : (a0.Ops.any fun u => (decide (u.What = 2) || decide (u.What = 3)) && (u.Key == x.Key)) with
    | true => rfl
    | false =>
      have hin := hmem x (List.mem_of_getElem? hx) (fun u hu hw hkey => Bool.eq_false_iff.1 hn (List.any_eq_true.2 ⟨u, hu, by rcases hw with hw | hw <;> simp [hw, hkey]⟩))
      rw [show (l.any fun y => (y.Key == x.Key) && (y.Val == x.Val)) = true from List.any_eq_true.2 ⟨x, hin, by simp⟩]
      rfl) (by
    unfold m6_l19_ProgTouches_s7
    rw [if_neg (by rw [decide_eq_true_eq]; omega)]), show (a1.all fun _ => true) = true from List.all_eq_true.2 fun _ _ => rfl, if_pos rfl, Option.bind_some]
  dsimp only
  unfold m6_l19_ProgTouches_k5
  obtain ⟨v, hv, hrr⟩ := rising_m hk2 (by omega)
  rw [if_pos rfl]
  dsimp only
  rw [hv, hrr.2 hr1, Option.bind_some, if_pos rfl, wI_id (by omega) (by omega), decide_eq_true (by omega)]
end Go.Proofs.Ytdehclinlcnlhaa.Abs
