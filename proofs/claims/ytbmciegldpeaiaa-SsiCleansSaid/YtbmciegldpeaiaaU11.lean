/-
  SsiStill, SsiCleans.
-/
import Derived.Test.YtbmciegldpeaiaaQ11
namespace Go.Proofs.Ytbmciegldpeaiaa.Abs


def dT (x : GSsiTx) : GR11Tx := ⟨x.ID, x.Begin, x.End, x.State, x.In, x.Out, x.RO, x.Keys⟩
theorem theirs_m (c : GSsiCert) (h1 : c.Txs.length ≤ 1000000) (h2 : c.Reads.L.length ≤ 1000000) : m21_l11_theirs c = some ⟨c.Txs.map dT, ⟨c.Reads.L.map tR⟩⟩ := by
  unfold m21_l11_theirs
  rw [collB c.Txs (fun x => [dT x]) (m21_l11_theirs_s8 c) 1 (fun x => by simp) (by omega) (fun i x acc hx ha => by
    have hlt := (List.getElem?_eq_some_iff.1 hx).1
    unfold m21_l11_theirs_s8 m26_l11_done
    dsimp only
    rw [if_pos (decide_eq_true (by omega)), idx_nat, hx, Option.bind_some, Option.bind_some, if_pos (by rw [List.length_singleton]; omega), wI_id (by omega) (by omega)]
    rfl) (fun acc => by
    unfold m21_l11_theirs_s8
    dsimp only
    rw [if_neg (by rw [decide_eq_true_eq]; omega)]), Option.bind_some, flat_one]
  unfold m21_l11_theirs_k1
  rw [collB c.Reads.L (fun x => [tR x]) (m21_l11_theirs_s3 c) 1 (fun x => by simp) (by omega) (fun i x acc hx ha => by
    have hlt := (List.getElem?_eq_some_iff.1 hx).1
    unfold m21_l11_theirs_s3
    dsimp only
    rw [if_pos (decide_eq_true (by omega)), idx_nat, hx, Option.bind_some, Option.bind_some, if_pos (by rw [List.length_singleton]; omega), wI_id (by omega) (by omega)]
    rfl) (fun acc => by
    unfold m21_l11_theirs_s3
    dsimp only
    rw [if_neg (by rw [decide_eq_true_eq]; omega)]), Option.bind_some, flat_one]
  rfl
theorem sameTx_m (x : GR11Tx) (h : x.Keys.length ≤ 1000000) : m25_r11_SameTx x x = some true := by
  unfold m25_r11_SameTx
  simp only [decide_true, Bool.not_true, beq_self_eq_true, Bool.false_eq_true, if_false]
  unfold m25_r11_SameTx_k1
  rw [allT x.Keys (m25_r11_SameTx_s3 x x) (by omega) (fun i k hk => by
    have hlt := (List.getElem?_eq_some_iff.1 hk).1
    unfold m25_r11_SameTx_s3
    rw [if_pos (decide_eq_true (by omega)), idx_nat, hk, Option.bind_some, Option.bind_some, wI_id (by omega) (by omega), if_neg (by simp)]
    rfl) (by
    unfold m25_r11_SameTx_s3
    rw [if_neg (by rw [decide_eq_true_eq]; omega)]), Option.bind_some]
  rfl
theorem same11_m (c : GR11Cert) (h1 : c.Txs.length ≤ 1000000) (h2 : c.Reads.L.length ≤ 1000000) (h3 : ∀ x ∈ c.Txs, x.Keys.length ≤ 1000000) : m22_r11_Same c c = some true := by
  unfold m22_r11_Same
  rw [if_neg (by simp), sameT_m h2, Option.bind_some, if_neg (by decide)]
  unfold m22_r11_Same_k1
  rw [allT c.Txs (m22_r11_Same_s3 c c) (by omega) (fun i x hx => by
    have hlt := (List.getElem?_eq_some_iff.1 hx).1
    unfold m22_r11_Same_s3
    rw [if_pos (decide_eq_true (by omega)), idx_nat, hx, Option.bind_some, Option.bind_some, sameTx_m x (h3 x (List.mem_of_getElem? hx)), Option.bind_some, wI_id (by omega) (by omega), if_neg (by decide)]
    rfl) (by
    unfold m22_r11_Same_s3
    rw [if_neg (by rw [decide_eq_true_eq]; omega)]), Option.bind_some]
  rfl
theorem same11_no (c : GR11Cert) (h : c.Txs ≠ []) : m22_r11_Same c ⟨[], ⟨[]⟩⟩ = some false := by
  unfold m22_r11_Same
  rw [if_pos]
  rw [decide_eq_false (fun e => h (List.eq_nil_of_length_eq_zero (by
    have e : (c.Txs.length : Int) = (0 : Nat) := e
    omega)))]; rfl
theorem same11_nil : m22_r11_Same ⟨[], ⟨[]⟩⟩ ⟨[], ⟨[]⟩⟩ = some true := same11_m ⟨[], ⟨[]⟩⟩ (by decide) (by decide) (by simp)
theorem theirs_nil : m21_l11_theirs ⟨[], ⟨[]⟩⟩ = some ⟨[], ⟨[]⟩⟩ := theirs_m ⟨[], ⟨[]⟩⟩ (by decide) (by decide)
/-- An answer: an error and nothing, or something and no error. -/
theorem told_m {e : GSsiCert × Int} (h : e.2 ≠ 0 ∧ e.1 = cN ∨ e.2 = 0 ∧ e.1.Txs ≠ [] ∧ e.1.Txs.length ≤ 1000000 ∧ e.1.Reads.L.length ≤ 1000000) :
    ∃ v, m21_l11_theirs (⟨e.1.Txs, ⟨e.1.Reads.L⟩⟩ : GSsiCert) = some v ∧ ∃ b, m22_r11_Same ⟨v.Txs, ⟨v.Reads.L⟩⟩ ⟨[], ⟨[]⟩⟩ = some b ∧ (!((decide (e.2 = 0)) == b)) = true := by
  rcases h with ⟨h1, h2⟩ | ⟨h1, h2, h3, h4⟩
  · rw [h2]
    exact ⟨_, theirs_nil, _, same11_nil, by rw [decide_eq_false h1]; rfl⟩
  · refine ⟨_, theirs_m _ h3 h4, _, same11_no _ ?_, by rw [decide_eq_true h1]; rfl⟩
    intro e'
    exact h2 (List.map_eq_nil_iff.1 e')

theorem ssiStill_true (a0 : List GL11Act) (a1 : GL11Act) : m6_l11_SsiStill a0 a1 = some true := by
  unfold m6_l11_SsiStill
  rw [awake11, Option.bind_some]
  obtain ⟨v, hv, hs⟩ := small_m a0
  rw [hv, Option.bind_some]
  cases v with
  | false => rfl
  | true =>
  obtain ⟨hl, hk⟩ := hs rfl
  rw [if_neg (by decide), show (⟨a1.What, a1.N, a1.RO, ⟨a1.Rng.Lo, a1.Rng.Hi, a1.Rng.Open⟩, a1.Keys⟩ : GL11Act) = a1 from rfl]
  obtain ⟨v, hv, hs1⟩ := small_m [a1]
  rw [hv, Option.bind_some]
  cases v with
  | false => rfl
  | true =>
  have hk1 : a1.Keys.length ≤ 10 := (hs1 rfl).2 a1 (List.mem_singleton_self _)
  rw [if_neg (by decide)]
  unfold m6_l11_SsiStill_k2
  refine run_s _ (m6_l11_SsiStill_s20 a0) hl hk (fun s => rfl) fun w h hb => ?_
  have b1 := hb.now
  have b2 := hb.beg
  have hsc := h.sc
  have hlen := h.len
  have hgl := h.gr.len
  have hmt : w.now ≤ maxTs := by show w.now ≤ 1099511627776; omega
  unfold m6_l11_SsiStill_k3
  rw [show (⟨(tup w).1, ⟨(tup w).2.1⟩⟩ : GSsiCert) = w.c from rfl, show (tup w).2.2.2.1 = w.begun from rfl, theirs_m _ (by omega) (by omega), Option.bind_some]
  have hgo : ∀ id : Int, 0 ≤ id → m6_l11_SsiStill_k5 a1 true (tup w) ⟨w.c.Txs.map dT, ⟨w.c.Reads.L.map tR⟩⟩ id = some true := fun id h0 => by
    unfold m6_l11_SsiStill_k5
    rw [show (⟨(tup w).1, ⟨(tup w).2.1⟩⟩ : GSsiCert) = w.c from rfl, show (tup w).2.2.2.1 = w.begun from rfl, show (tup w).2.2.1 = w.now from rfl, show (⟨a1.Rng.Lo, a1.Rng.Hi, a1.Rng.Open⟩ : GApiRange) = a1.Rng from rfl, wI_id (by have := h.now0; omega) (by omega)]
    have hB : ∃ e, m17_ssi_Begin w.c (w.begun.length : Int) w.now a1.RO = some e ∧ (e.2 ≠ 0 ∧ e.1 = cN ∨ e.2 = 0 ∧ e.1.Txs ≠ [] ∧ e.1.Txs.length ≤ 1000000 ∧ e.1.Reads.L.length ≤ 1000000) := by
      rcases begin_m hsc (w.begun.length : Int) w.now a1.RO (Int.natCast_nonneg _) h.now0 hmt with ⟨_, e⟩ | ⟨_, ⟨_, e⟩ | ⟨hl, e⟩⟩
      · exact ⟨_, e, .inl ⟨by decide, rfl⟩⟩
      · exact ⟨_, e, .inl ⟨by decide, rfl⟩⟩
      · exact ⟨_, e, .inr ⟨rfl, by simp, by simp; omega, by dsimp only; omega⟩⟩
    have hR : ∃ e, m19_ssi_Read w.c id a1.Rng = some e ∧ (e.2 ≠ 0 ∧ e.1 = cN ∨ e.2 = 0 ∧ e.1.Txs ≠ [] ∧ e.1.Txs.length ≤ 1000000 ∧ e.1.Reads.L.length ≤ 1000000) := by
      rcases read_m hsc id a1.Rng with ⟨_, e⟩ | ⟨a, ha, e1, h1, ⟨x, hx, e⟩ | ⟨_, e⟩ | ⟨rs, hg, r1, r2, r3, r4, r5, e⟩⟩
      · exact ⟨_, e, .inl ⟨by decide, rfl⟩⟩
      · exact ⟨_, e, .inl ⟨by dsimp only; omega, rfl⟩⟩
      · exact ⟨_, e, .inl ⟨by decide, rfl⟩⟩
      · refine ⟨_, e, .inr ⟨rfl, fun hc => ?_, by dsimp only; rw [List.length_map]; omega, by dsimp only; omega⟩⟩
        have hc : w.c.Txs.map _ = [] := hc
        rw [List.map_eq_nil_iff.1 hc] at ha; simp at ha
    have hC : ∃ e, m20_ssi_Commit w.c id (w.now + 1) a1.Keys = some e ∧ (e.2 ≠ 0 ∧ e.1 = cN ∨ e.2 = 0 ∧ e.1.Txs ≠ [] ∧ e.1.Txs.length ≤ 1000000 ∧ e.1.Reads.L.length ≤ 1000000) := by
      rcases commit_m hsc id (w.now + 1) a1.Keys hk1 with ⟨_, e⟩ | ⟨a, ha, e1, h1, ⟨_, e⟩ | ⟨hm, ⟨_, e⟩ | ⟨hcf, ⟨_, e⟩ | ⟨hno, hpv, e⟩⟩⟩⟩
      · exact ⟨_, e, .inl ⟨by decide, rfl⟩⟩
      · exact ⟨_, e, .inl ⟨by decide, rfl⟩⟩
      · exact ⟨_, e, .inl ⟨by decide, rfl⟩⟩
      · exact ⟨_, e, .inl ⟨by decide, rfl⟩⟩
      · refine ⟨_, e, .inr ⟨rfl, fun hc => ?_, by dsimp only; rw [List.length_map]; omega, by dsimp only; omega⟩⟩
        have hc : w.c.Txs.map _ = [] := hc
        rw [List.map_eq_nil_iff.1 hc] at ha; simp at ha
    obtain ⟨eB, qB, pB⟩ := hB
    obtain ⟨eR, qR, pR⟩ := hR
    obtain ⟨eC, qC, pC⟩ := hC
    obtain ⟨cA, qA, _⟩ := inv_abort h id
    obtain ⟨cL, qL, _⟩ := inv_clean h
    obtain ⟨tB, uB, vB, wB, zB⟩ := told_m pB
    obtain ⟨tR', uR, vR, wR, zR⟩ := told_m pR
    obtain ⟨tC, uC, vC, wC, zC⟩ := told_m pC
    rw [qB, Option.bind_some, qR, Option.bind_some, qC, Option.bind_some, qA, Option.bind_some, qL, Option.bind_some, if_pos rfl, theirs_m _ (by omega) (by omega), Option.bind_some]
    rw [same11_m _ (by dsimp only; rw [List.length_map]; omega) (by dsimp only; rw [List.length_map]; omega) (fun x hx => by
      obtain ⟨y, hy, rfl⟩ := List.mem_map.1 hx
      have := hsc.keys y hy
      show y.Keys.length ≤ _; omega), Option.bind_some, if_pos rfl, uB, Option.bind_some, wB, Option.bind_some, if_pos zB, uR, Option.bind_some, wR, Option.bind_some, if_pos zR, uC, Option.bind_some, wC, Option.bind_some]
    rw [zC]
  by_cases h0 : (0 : Int) < w.begun.length
  · rw [if_pos (decide_eq_true h0), if_pos (by omega)]
    obtain ⟨k, e, _⟩ := idOf a1.N w.begun (by omega)
    rw [e]
    exact hgo _ (Int.natCast_nonneg _)
  · rw [if_neg (by rw [decide_eq_true_eq]; exact h0)]
    exact hgo 0 (Int.le_refl _)

theorem ssiCleans_true (a0 : List GL11Act) : m7_l11_SsiCleans a0 = some true := by
  unfold m7_l11_SsiCleans
  rw [awake11, Option.bind_some]
  obtain ⟨v, hv, hs⟩ := small_m a0
  rw [hv, Option.bind_some]
  cases v with
  | false => rfl
  | true =>
  obtain ⟨hl, hk⟩ := hs rfl
  rw [if_neg (by decide)]
  refine run_s _ (m7_l11_SsiCleans_s26 a0) hl hk (fun s => rfl) fun w h hb => ?_
  have hsc := h.sc
  have hlen := h.len
  have hgl := h.gr.len
  unfold m7_l11_SsiCleans_k3
  rw [show (⟨(tup w).1, ⟨(tup w).2.1⟩⟩ : GSsiCert) = w.c from rfl]
  obtain ⟨c, e, hi, hc⟩ := inv_clean h
  have hcsc := hi.sc
  have hcsc : SC c := hcsc
  have hcl := hcsc.len
  have hcg := hcsc.gr.len
  have hst : ∀ x, x ∈ c.Txs ↔ x ∈ w.c.Txs ∧ goneV w.c.Txs x = false := fun x => by
    rw [hc]
    show x ∈ List.filter _ _ ↔ _
    rw [List.mem_filter]; simp
  have hrm : ∀ r, r ∈ c.Reads.L ↔ r ∈ w.c.Reads.L ∧ r.Tx ∉ (w.c.Txs.filter (goneV w.c.Txs)).map (·.ID) := fun r => by
    rw [hc]
    show r ∈ onlyV _ _ _ ↔ _
    rw [onlyV_mem]; simp
  rw [e, Option.bind_some, oldest_m _ _ (by omega), Option.bind_some]
  have hgone : ∀ x ∈ w.c.Txs, goneV w.c.Txs x = false ↔ (x.State = 1 ∨ oldV w.c.Txs 1099511627776 < x.End) := fun x hx => by
    have hle : x.End ≤ oldV w.c.Txs 1099511627776 ↔ ∀ a ∈ w.c.Txs, a.State = 1 → x.End ≤ a.Begin := by
      rw [oldV_le]
      refine ⟨fun h => h.2, fun hh => ⟨?_, hh⟩⟩
      rcases (h.each x hx).st with ⟨_, e, _⟩ | ⟨_, _, e, _⟩
      · omega
      · exact e
    constructor
    · intro hg
      rcases h.st hx with hs | hs
      · exact .inl hs
      · right
        have : ¬ x.End ≤ oldV w.c.Txs 1099511627776 := fun hle' => by
          rw [goneV_iff.2 ⟨hs, hle.1 hle'⟩] at hg; cases hg
        omega
    · intro hh
      cases hg : goneV w.c.Txs x with
      | false => rfl
      | true =>
        obtain ⟨g1, g2⟩ := goneV_iff.1 hg
        rcases hh with hh | hh
        · rw [g1] at hh; cases hh
        · have := hle.2 g2; omega
  rw [allT w.c.Txs (m7_l11_SsiCleans_s18 (tup w) c (oldV w.c.Txs 1099511627776)) (by omega) (fun i x hx => by
    have hlt := (List.getElem?_eq_some_iff.1 hx).1
    have hxm := List.mem_of_getElem? hx
    unfold m7_l11_SsiCleans_s18
    rw [show (tup w).1 = w.c.Txs from rfl, if_pos (decide_eq_true (by omega)), idx_nat, hx, Option.bind_some, show (⟨c.Txs, ⟨c.Reads.L⟩⟩ : GSsiCert) = c from rfl]
    have hk : ∀ b, (b = true ↔ goneV w.c.Txs x = false) → ∃ v20, m24_ssi_Find c x.ID = some v20 ∧ m7_l11_SsiCleans_k21 (i : Int) x v20 b = some (.cont ((i + 1 : Nat) : Int)) := fun b hb => by
      rcases find_c c x.ID (by omega) with ⟨hno, z, e⟩ | ⟨y, hy, ey, e⟩
      · refine ⟨_, e, ?_⟩
        have hbf : b = false := by
          cases b with
          | false => rfl
          | true => exact absurd rfl (hno x ((hst x).2 ⟨hxm, hb.1 rfl⟩))
        unfold m7_l11_SsiCleans_k21
        rw [hbf, wI_id (by omega) (by omega)]; rfl
      · refine ⟨_, e, ?_⟩
        obtain ⟨y1, y2⟩ := (hst y).1 hy
        have : y = x := h.one y1 hxm ey
        subst this
        unfold m7_l11_SsiCleans_k21 m26_l11_done
        rw [hb.2 y2]
        dsimp only
        rw [if_neg (by decide), if_pos rfl, Option.bind_some, Option.bind_some, sameTx_m _ (by have := hsc.keys y y1; show y.Keys.length ≤ _; omega), Option.bind_some, wI_id (by omega) (by omega)]; rfl
    by_cases hs1 : x.State = 1
    · obtain ⟨v, e1, e2⟩ := hk true ⟨fun _ => (hgone x hxm).2 (.inl hs1), fun _ => rfl⟩
      rw [e1, Option.bind_some, if_pos (decide_eq_true hs1), e2]
    · obtain ⟨v, e1, e2⟩ := hk (decide (oldV w.c.Txs 1099511627776 < x.End)) ⟨fun hh => (hgone x hxm).2 (.inr (of_decide_eq_true hh)), fun hh => by
        rcases (hgone x hxm).1 hh with hh | hh
        · exact absurd hh hs1
        · exact decide_eq_true hh⟩
      rw [e1, Option.bind_some, if_neg (by rw [decide_eq_true_eq]; exact hs1), e2]) (by
    unfold m7_l11_SsiCleans_s18
    rw [if_neg (by rw [decide_eq_true_eq]; show ¬ ((w.c.Txs.length : Int) < w.c.Txs.length); omega)]), Option.bind_some]
  show m7_l11_SsiCleans_k6 true (tup w) c () = some true
  unfold m7_l11_SsiCleans_k6
  let p : GReadsRead → Bool := fun r => !decide (r.Tx ∈ (w.c.Txs.filter (goneV w.c.Txs)).map (·.ID))
  have hcl' : c.Reads.L = w.c.Reads.L.filter p := by
    rw [hc]
    refine List.filter_congr fun r _ => ?_
    show (decide _ == false) = !decide _
    cases decide (r.Tx ∈ (w.c.Txs.filter (goneV w.c.Txs)).map (·.ID)) <;> rfl
  obtain ⟨v, hv, hr⟩ := iterB_inv (f := m7_l11_SsiCleans_s14 (tup w) c) (P := fun s => ∃ i : Nat, i ≤ w.c.Reads.L.length ∧ s = ((((w.c.Reads.L.take i).filter p).length : Int), (i : Int))) (μ := fun s => w.c.Reads.L.length - s.2.toNat) (R := fun v => v = ((w.c.Reads.L.filter p).length : Int)) (by
    rintro _ ⟨i, hi, rfl⟩
    unfold m7_l11_SsiCleans_s14
    dsimp only
    rw [show (tup w).2.1 = w.c.Reads.L from rfl]
    rcases Nat.lt_or_ge i w.c.Reads.L.length with hlt | hge
    · have hx := List.getElem?_eq_getElem hlt
      have hxm := List.getElem_mem hlt
      have htk : (w.c.Reads.L.take (i + 1)).filter p = (w.c.Reads.L.take i).filter p ++ [w.c.Reads.L[i]].filter p := by
        rw [List.take_succ_eq_append_getElem hlt, List.filter_append]
      have hlf : ((w.c.Reads.L.take i).filter p).length ≤ 128 := by
        have := List.length_filter_le p (w.c.Reads.L.take i)
        rw [List.length_take] at this; omega
      generalize w.c.Reads.L[i] = r at hx hxm htk
      rw [if_pos (decide_eq_true (by omega)), idx_nat, hx, Option.bind_some, show (⟨c.Txs, ⟨c.Reads.L⟩⟩ : GSsiCert) = c from rfl, wI_id (by omega) (by omega), wI_id (by omega) (by omega)]
      left
      obtain ⟨x, hxT, ex⟩ := h.ri r hxm
      have hpx : p r = true ↔ goneV w.c.Txs x = false := by
        show (!decide (r.Tx ∈ (w.c.Txs.filter (goneV w.c.Txs)).map (·.ID))) = true ↔ _
        rw [Bool.not_eq_true', decide_eq_false_iff_not]
        constructor
        · intro hn
          cases hg : goneV w.c.Txs x with
          | false => rfl
          | true => exact absurd (List.mem_map.2 ⟨x, List.mem_filter.2 ⟨hxT, hg⟩, ex⟩) hn
        · intro hg hm
          obtain ⟨y, hy, ey⟩ := List.mem_map.1 hm
          obtain ⟨y1, y2⟩ := List.mem_filter.1 hy
          have ey : y.ID = r.Tx := ey
          rw [h.one y1 hxT (ey.trans ex.symm), hg] at y2; cases y2
      rcases find_c c r.Tx (by omega) with ⟨hno, z, e⟩ | ⟨y, hy, ey, e⟩
      · rw [e, Option.bind_some, if_neg (by show ¬ (false = true); decide)]
        have hpf : p r = false := by
          cases hp : p r with
          | false => rfl
          | true => exact absurd ex (hno x ((hst x).2 ⟨hxT, hpx.1 hp⟩))
        refine ⟨_, rfl, ⟨i + 1, hlt, ?_⟩, by dsimp only; omega⟩
        rw [htk, List.filter_cons, hpf]; simp
      · rw [e, Option.bind_some, if_pos rfl]
        obtain ⟨y1, y2⟩ := (hst y).1 hy
        have hyx : y = x := h.one y1 hxT (ey.trans ex.symm)
        subst hyx
        refine ⟨_, rfl, ⟨i + 1, hlt, ?_⟩, by dsimp only; omega⟩
        rw [htk, List.filter_cons, hpx.2 y2]; simp
    · have e : i = w.c.Reads.L.length := by omega
      subst e
      rw [if_neg (by rw [decide_eq_true_eq]; omega), List.take_length]
      exact .inr ⟨_, rfl, rfl⟩) fuel (0, 0) ⟨0, Nat.zero_le _, rfl⟩ (lt_fuel (by show w.c.Reads.L.length - 0 ≤ _; omega))
  rw [hv, Option.bind_some, hr, ← hcl']
  unfold m7_l11_SsiCleans_k7
  have hgn : ∀ x ∈ c.Txs, goneV c.Txs x = false := fun x hx => by
    obtain ⟨x1, x2⟩ := (hst x).1 hx
    cases hg : goneV c.Txs x with
    | false => rfl
    | true =>
      obtain ⟨g1, g2⟩ := goneV_iff.1 hg
      rw [goneV_iff.2 ⟨g1, fun a ha h1 => g2 a ((hst a).2 ⟨ha, by
        cases hg' : goneV w.c.Txs a with
        | false => rfl
        | true => rw [(goneV_iff.1 hg').1] at h1; cases h1⟩) h1⟩] at x2
      cases x2
  have hcc : m16_ssi_Clean c = some c := by
    obtain ⟨c2, e2, _, hc2⟩ := inv_clean hi
    have e2 : m16_ssi_Clean c = some c2 := e2
    have hc2 : c2 = ⟨c.Txs.filter (fun x => !goneV c.Txs x), ⟨onlyV c.Reads.L ((c.Txs.filter (goneV c.Txs)).map (·.ID)) false⟩⟩ := hc2
    rw [e2, hc2]
    have f1 : c.Txs.filter (fun x => !goneV c.Txs x) = c.Txs := List.filter_eq_self.2 fun x hx => by rw [hgn x hx]; rfl
    have f2 : c.Txs.filter (goneV c.Txs) = [] := List.filter_eq_nil_iff.2 fun x hx => by rw [hgn x hx]; decide
    have f3 : onlyV c.Reads.L [] false = c.Reads.L := List.filter_eq_self.2 fun r _ => rfl
    rw [f1, f2, List.map_nil, f3]
  rw [if_pos rfl, if_pos (decide_eq_true rfl), show (⟨c.Txs, ⟨c.Reads.L⟩⟩ : GSsiCert) = c from rfl, sane_c hcsc, Option.bind_some, if_pos rfl, hcc, Option.bind_some, show (⟨c.Txs, ⟨c.Reads.L⟩⟩ : GSsiCert) = c from rfl, theirs_m _ (by omega) (by omega), Option.bind_some, Option.bind_some, sameT_m (by dsimp only; rw [List.length_map]; omega), Option.bind_some, if_pos rfl, Option.bind_some, decide_eq_true rfl]
end Go.Proofs.Ytbmciegldpeaiaa.Abs
