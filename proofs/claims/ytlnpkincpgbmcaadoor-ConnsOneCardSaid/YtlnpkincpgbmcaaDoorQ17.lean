/-
  ConnsOne.
-/
import Derived.Test.YtlnpkincpgbmcaaDoorK17b
namespace Go.Proofs.YtlnpkincpgbmcaaDoor.Abs
open Cn

theorem awake17 : m6_l17_awake = some true := by decide +kernel

abbrev nconn (n : Int) : GConnsConn := GConnsConn.mk n (-1) 0 (-1) (GStreamStream.mk ([] : List UInt8) 0) (GPipePipe.mk (GSeqsWindow.mk 0 (0#64)) 0 ([] : List GMsgReq) ([] : List GMsgReply))
theorem sc_new (n : Int) : m25_conns_saneConn (nconn n) = some true := by
  have e : m25_conns_saneConn (nconn n) = m25_conns_saneConn (nconn 0) := rfl
  rw [e]
  decide +kernel

structure Jo (who last best : Int) (L : List GConnsConn) (N : Int) : Prop where
  s : SaneT ⟨L, N⟩
  t : ∀ c ∈ L, Tc c
  l0 : last < N
  b0 : -1 ≤ best
  ep : 0 ≤ who → ∀ c ∈ L, c.Who = who → c.Epoch = best
  ex : 0 ≤ who → ((∃ c ∈ L, c.Who = who) ↔ 0 ≤ best)

theorem count_le {L : List GConnsConn} {N who : Int} (h : SaneT ⟨L, N⟩) (hw : 0 ≤ who) : (L.filter (fun c => decide (c.Who = who))).length ≤ 1 := by
  have hp := h.2.2.2.2.filter (fun c => decide (c.Who = who))
  have hm : ∀ c ∈ L.filter (fun c => decide (c.Who = who)), c.Who = who := fun c hc => of_decide_eq_true (List.mem_filter.1 hc).2
  generalize L.filter (fun c => decide (c.Who = who)) = l at hp hm
  match l, hp, hm with
  | [], _, _ => exact Nat.zero_le _
  | [_], _, _ => exact Nat.le_refl _
  | a :: b :: r, hp, hm =>
    have h1 := (clash_no.1 ((List.pairwise_cons.1 hp).1 b List.mem_cons_self)).2.1 (by rw [hm a List.mem_cons_self, hm b (List.mem_cons_of_mem _ List.mem_cons_self)])
    rw [hm a List.mem_cons_self] at h1
    omega

theorem k4_m (who : Int) (s3 : Int × Int × Int × (List GConnsConn) × Int) (last best : Int) (L : List GConnsConn) (N : Int) (h : Jo who last best L N) (hi : 0 ≤ s3.2.2.1 ∧ s3.2.2.1 ≤ 1000) :
    m3_l17_ConnsOne_k4 who s3 (last, best, L, N) = some (.cont (last, best, s3.2.2.1 + 1, L, N)) := by
  have hl := h.s.1
  have hl : L.length ≤ 8 := hl
  unfold m3_l17_ConnsOne_k4
  obtain ⟨b, hb, hr⟩ := iter_inv (f := m3_l17_ConnsOne_s8 who (last, best, L, N)) (P := fun s => ∃ j : Nat, j ≤ L.length ∧ s = (((if 0 ≤ who then ((L.take j).filter (fun c => decide (c.Who = who))).length else 0 : Nat) : Int), (j : Int))) (μ := fun s => L.length - s.2.toNat)
    (R := fun r => r = .inr (((if 0 ≤ who then (L.filter (fun c => decide (c.Who = who))).length else 0 : Nat) : Int))) (by
      rintro _ ⟨j, hj, rfl⟩
      unfold m3_l17_ConnsOne_s8
      dsimp only
      rcases Nat.lt_or_ge j L.length with hlt | hge
      · left
        have hx := List.getElem?_eq_getElem hlt
        have hcl : ((L.take j).filter (fun c => decide (c.Who = who))).length ≤ j := Nat.le_trans (List.length_filter_le _ _) (by rw [List.length_take]; omega)
        have htk : (L.take (j + 1)).filter (fun c => decide (c.Who = who)) = (L.take j).filter (fun c => decide (c.Who = who)) ++ (if L[j].Who = who then [L[j]] else []) := by
          rw [List.take_succ_eq_append_getElem hlt, List.filter_append]
          congr 1
          by_cases hw : L[j].Who = who
          · simp [hw]
          · simp [hw]
        refine ⟨(((if 0 ≤ who then ((L.take (j + 1)).filter (fun c => decide (c.Who = who))).length else 0 : Nat) : Int), ((j + 1 : Nat) : Int)), ?_, ⟨j + 1, hlt, rfl⟩, by simp only [Int.toNat_natCast]; omega⟩
        rw [if_pos (decide_eq_true (by omega)), idx_nat, hx, Option.bind_some, Option.bind_some, htk]
        by_cases hw : L[j].Who = who
        · rw [if_pos (decide_eq_true hw), if_pos hw]
          by_cases h0 : 0 ≤ who
          · rw [if_pos (decide_eq_true h0), if_neg (by rw [h.ep h0 L[j] (List.getElem_mem hlt) hw]; simp), if_pos h0, if_pos h0, List.length_append, List.length_singleton, wI_id (by omega) (by omega), wI_id (by omega) (by omega)]
            rfl
          · rw [if_neg (by rw [decide_eq_true_eq]; exact h0), if_neg h0, if_neg h0, wI_id (by omega) (by omega)]
            rfl
        · rw [if_neg (by rw [decide_eq_true_eq]; exact hw), if_neg hw, List.append_nil, wI_id (by omega) (by omega)]
          rfl
      · have e : j = L.length := by omega
        subst e
        refine .inr (.inl ⟨_, ?_, rfl⟩)
        rw [if_neg (by rw [decide_eq_true_eq]; omega), List.take_length]) fuel (0, 0) ⟨0, Nat.zero_le _, by simp⟩ (lt_fuel (by show L.length - 0 ≤ _; omega))
  rw [hb, hr, Option.bind_some]
  show m3_l17_ConnsOne_k5 who s3 (last, best, L, N) _ = _
  obtain ⟨b, hb, hb'⟩ := sane_m ⟨L, N⟩ h.t
  have : b = true := hb'.2 h.s
  subst this
  unfold m3_l17_ConnsOne_k5
  dsimp only
  by_cases h0 : 0 ≤ who
  · have hc := count_le h.s h0
    have hex := h.ex h0
    have hcx : (L.filter (fun c => decide (c.Who = who))).length = 1 ↔ 0 ≤ best := by
      rw [← hex]
      constructor
      · intro e
        obtain ⟨x, hx⟩ := List.exists_mem_of_length_pos (l := L.filter (fun c => decide (c.Who = who))) (by omega)
        exact ⟨x, (List.mem_filter.1 hx).1, of_decide_eq_true (List.mem_filter.1 hx).2⟩
      · rintro ⟨x, hx, hxw⟩
        have := List.length_pos_of_mem (List.mem_filter.2 ⟨hx, decide_eq_true hxw⟩ : x ∈ L.filter (fun c => decide (c.Who = who)))
        omega
    rw [if_pos h0, if_neg (by rw [decide_eq_true_eq]; omega), if_pos (decide_eq_true h0), if_neg (by
      by_cases hbst : 0 ≤ best
      · rw [decide_eq_true hbst, decide_eq_true (by have := hcx.2 hbst; omega)]; decide
      · rw [decide_eq_false hbst, decide_eq_false (by intro e; exact hbst (hcx.1 (by omega)))]; decide), hb, Option.bind_some, if_neg (by decide), wI_id (by omega) (by omega)]
  · rw [if_neg h0, if_neg (by decide), if_neg (by rw [decide_eq_true_eq]; exact h0), hb, Option.bind_some, if_neg (by decide), wI_id (by omega) (by omega)]

theorem open_m (t : GConnsTable) (hs : SaneT t) (ht : ∀ c ∈ t.L, Tc c) : (∃ e, e ≠ 0 ∧ ∃ v, m7_conns_Open t = some (v, 0, e)) ∨ m7_conns_Open t = some (⟨t.L ++ [nconn t.Next], t.Next + 1⟩, t.Next, 0) ∧ t.L.length < 8 ∧ t.Next < 1099511627776 := by
  have hl := hs.1
  unfold m7_conns_Open
  obtain ⟨b, hb, hb'⟩ := sane_m t ht
  have : b = true := hb'.2 hs
  subst this
  show (∃ e, e ≠ 0 ∧ ∃ v, (m10_conns_Sane t).bind _ = _) ∨ (m10_conns_Sane t).bind _ = _ ∧ _
  rw [hb, Option.bind_some, if_neg (by decide)]
  by_cases h1 : 1099511627776 ≤ t.Next
  · rw [if_pos (decide_eq_true h1)]; exact .inl ⟨11, by decide, _, rfl⟩
  rw [if_neg (by rw [decide_eq_true_eq]; exact h1)]
  by_cases h2 : 8 ≤ (t.L.length : Int)
  · rw [if_pos (decide_eq_true h2)]; exact .inl ⟨8, by decide, _, rfl⟩
  rw [if_neg (by rw [decide_eq_true_eq]; exact h2)]
  have hn := hs.2.1
  refine .inr ⟨?_, by omega, by omega⟩
  rw [m20_slices_Concat_m [t.L, [nconn t.Next]] (by simp only [List.flatten_cons, List.flatten_nil, List.append_nil, List.length_append, List.length_singleton]; omega) (by show 2 ≤ _; decide), Option.bind_some, wI_id (by omega) (by omega)]
  simp only [List.flatten_cons, List.flatten_nil, List.append_nil]

theorem mem_set_ne {α : Type} {l : List α} {i : Nat} {x y z : α} (hi : l[i]? = some z) (hx : x ∈ l) (hne : x ≠ z) : x ∈ l.set i y := by
  obtain ⟨j, hj⟩ := List.mem_iff_getElem?.1 hx
  have : i ≠ j := fun e => by subst e; rw [hi] at hj; exact hne (Option.some.inj hj).symm
  exact List.mem_iff_getElem?.2 ⟨j, by rw [List.getElem?_set_ne this]; exact hj⟩

theorem Jo.opened {who last best : Int} {L : List GConnsConn} {N : Int} (h : Jo who last best L N) (hl : L.length < 8) (hn : N < 1099511627776) : Jo who N best (L ++ [nconn N]) (N + 1) := by
  have h2 : 0 ≤ N := h.s.2.1
  have h4 := h.s.2.2.2.1
  have htn := Tc_of (sc_new N)
  refine ⟨⟨by show (L ++ [_]).length ≤ 8; rw [List.length_append, List.length_singleton]; omega, by show 0 ≤ N + 1; omega, by show N + 1 ≤ _; omega, fun c hc => ?_, ?_⟩, fun c hc => ?_, by omega, h.b0, fun h0 c hc hcw => ?_, fun h0 => ?_⟩
  · rcases List.mem_append.1 hc with hc | hc
    · have := h4 c hc
      exact ⟨this.1, by show c.ID < N + 1; have := this.2.1; have : c.ID < N := this; omega, this.2.2⟩
    · rw [List.mem_singleton.1 hc]
      exact ⟨h2, by show N < N + 1; omega, htn.2⟩
  · refine List.pairwise_append.2 ⟨h.s.2.2.2.2, List.pairwise_singleton _ _, fun a ha b hb => ?_⟩
    rw [List.mem_singleton.1 hb]
    exact clash_no.2 ⟨(h4 a ha).2.1, fun e => e, fun e => e⟩
  · rcases List.mem_append.1 hc with hc | hc
    · exact h.t c hc
    · rw [List.mem_singleton.1 hc]; exact htn.1
  · rcases List.mem_append.1 hc with hc | hc
    · exact h.ep h0 c hc hcw
    · rw [List.mem_singleton.1 hc] at hcw
      have : (-1 : Int) = who := hcw
      omega
  · rw [← h.ex h0]
    constructor
    · rintro ⟨c, hc, hcw⟩
      rcases List.mem_append.1 hc with hc | hc
      · exact ⟨c, hc, hcw⟩
      · rw [List.mem_singleton.1 hc] at hcw
        have : (-1 : Int) = who := hcw
        omega
    · rintro ⟨c, hc, hcw⟩
      exact ⟨c, List.mem_append_left _ hc, hcw⟩

theorem Jo.closed {who last best : Int} {L : List GConnsConn} {N : Int} (h : Jo who last best L N) {c : GConnsConn} (hc : c ∈ L) : Jo who last (if c.Who = who then -1 else best) (L.filter (fun x => !decide (x.ID = c.ID))) N := by
  have hmem : ∀ x, x ∈ L.filter (fun x => !decide (x.ID = c.ID)) ↔ x ∈ L ∧ x ≠ c := fun x => by
    rw [List.mem_filter, Bool.not_eq_true', decide_eq_false_iff_not]
    constructor
    · rintro ⟨h1, h2⟩
      exact ⟨h1, fun e => h2 (by rw [e])⟩
    · rintro ⟨h1, h2⟩
      exact ⟨h1, fun e => h2 (h.s.id_inj h1 hc e)⟩
  refine ⟨h.s.filter _, fun x hx => h.t x ((hmem x).1 hx).1, h.l0, by split; exact Int.le_refl _; exact h.b0, fun h0 x hx hxw => ?_, fun h0 => ?_⟩
  · obtain ⟨h1, h2⟩ := (hmem x).1 hx
    split
    · next hcw =>
      exfalso
      have hp := count_le h.s h0
      obtain ⟨i, hi, rfl⟩ := List.getElem_of_mem h1
      obtain ⟨j, hj, rfl⟩ := List.getElem_of_mem hc
      have hij : i ≠ j := fun e => by subst e; exact h2 rfl
      have hpw : ∀ (i j : Nat) (hi : i < L.length) (hj : j < L.length), i < j → clashB L[i] L[j] = false := List.pairwise_iff_getElem.1 h.s.2.2.2.2
      rcases Nat.lt_or_gt_of_ne hij with hlt | hgt
      · have := (clash_no.1 (hpw i j hi hj hlt)).2.1 (hxw.trans hcw.symm); omega
      · have := (clash_no.1 (hpw j i hj hi hgt)).2.1 (hcw.trans hxw.symm); omega
    · exact h.ep h0 x h1 hxw
  · split
    · next hcw =>
      constructor
      · rintro ⟨x, hx, hxw⟩
        exfalso
        obtain ⟨h1, h2⟩ := (hmem x).1 hx
        obtain ⟨i, hi, rfl⟩ := List.getElem_of_mem h1
        obtain ⟨j, hj, rfl⟩ := List.getElem_of_mem hc
        have hij : i ≠ j := fun e => by subst e; exact h2 rfl
        have hpw : ∀ (i j : Nat) (hi : i < L.length) (hj : j < L.length), i < j → clashB L[i] L[j] = false := List.pairwise_iff_getElem.1 h.s.2.2.2.2
        rcases Nat.lt_or_gt_of_ne hij with hlt | hgt
        · have := (clash_no.1 (hpw i j hi hj hlt)).2.1 (hxw.trans hcw.symm); omega
        · have := (clash_no.1 (hpw j i hj hi hgt)).2.1 (hcw.trans hxw.symm); omega
      · intro e; omega
    · next hcw =>
      rw [← h.ex h0]
      constructor
      · rintro ⟨x, hx, hxw⟩
        exact ⟨x, ((hmem x).1 hx).1, hxw⟩
      · rintro ⟨x, hx, hxw⟩
        exact ⟨x, (hmem x).2 ⟨hx, fun e => hcw (e ▸ hxw)⟩, hxw⟩

theorem Jo.said {who last best : Int} {L : List GConnsConn} {N : Int} (h : Jo who last best L N) {w ep : Int} {i : Nat} {c : GConnsConn} (hep : 0 ≤ ep ∧ ep ≤ 65535) (hcw : c.Who = -1)
    (hi : (heard ⟨L, N⟩ w)[i]? = some c) (hs : SaneT ⟨(heard ⟨L, N⟩ w).set i { c with Who := w, Epoch := ep }, N⟩) (ht : Tc { c with Who := w, Epoch := ep }) :
    Jo who last (if w = who then ep else best) ((heard ⟨L, N⟩ w).set i { c with Who := w, Epoch := ep }) N := by
  have hmem : ∀ x, x ∈ heard ⟨L, N⟩ w ↔ x ∈ L ∧ x.Who ≠ w := fun x => by
    unfold heard
    rw [List.mem_filter, Bool.not_eq_true', decide_eq_false_iff_not]
  refine ⟨hs, fun x hx => ?_, h.l0, by split; omega; exact h.b0, fun h0 x hx hxw => ?_, fun h0 => ?_⟩
  · rcases List.mem_or_eq_of_mem_set hx with hx | rfl
    · exact h.t x ((hmem x).1 hx).1
    · exact ht
  · rcases List.mem_or_eq_of_mem_set hx with hx | rfl
    · obtain ⟨h1, h2⟩ := (hmem x).1 hx
      rw [if_neg (fun e => h2 (by rw [e]; exact hxw))]
      exact h.ep h0 x h1 hxw
    · have : w = who := hxw
      rw [if_pos this]
  · by_cases hww : w = who
    · rw [if_pos hww]
      exact ⟨fun _ => hep.1, fun _ => ⟨_, List.mem_iff_getElem?.2 ⟨i, by rw [List.getElem?_set_self (List.getElem?_eq_some_iff.1 hi).1]⟩, hww⟩⟩
    · rw [if_neg hww, ← h.ex h0]
      constructor
      · rintro ⟨x, hx, hxw⟩
        rcases List.mem_or_eq_of_mem_set hx with hx | rfl
        · exact ⟨x, ((hmem x).1 hx).1, hxw⟩
        · exact absurd hxw hww
      · rintro ⟨x, hx, hxw⟩
        exact ⟨x, mem_set_ne hi ((hmem x).2 ⟨hx, fun e => hww (e.symm.trans hxw)⟩) (fun e => by rw [e, hcw] at hxw; omega), hxw⟩

theorem connsOne_true (a0 : List GL17Act) (a1 : Int) : m3_l17_ConnsOne a0 a1 = some true := by
  unfold m3_l17_ConnsOne
  rw [awake17, Option.bind_some]
  by_cases hl : 100 < (a0.length : Int)
  · rw [if_pos (decide_eq_true hl)]
  rw [if_neg (by rw [decide_eq_true_eq]; exact hl)]
  obtain ⟨b, hb, hr⟩ := iter_inv (f := m3_l17_ConnsOne_s3 a0 a1) (P := fun s => ∃ j : Nat, j ≤ a0.length ∧ s.2.2.1 = (j : Int) ∧ Jo a1 s.1 s.2.1 s.2.2.2.1 s.2.2.2.2) (μ := fun s => a0.length - s.2.2.1.toNat)
    (R := fun r => ∃ b, r = .inr b) (by
      rintro ⟨last, best, _, L, N⟩ ⟨j, hj, rfl, h⟩
      have h : Jo a1 last best L N := h
      unfold m3_l17_ConnsOne_s3
      dsimp only
      rcases Nat.lt_or_ge j a0.length with hlt | hge
      rotate_left
      · refine .inr (.inl ⟨(L, N), ?_, (L, N), rfl⟩)
        rw [if_neg (by rw [decide_eq_true_eq]; omega)]
      left
      have hx := List.getElem?_eq_getElem hlt
      rw [if_pos (decide_eq_true (by omega)), idx_nat, hx]
      simp only [Option.bind_some]
      generalize a0[j] = x
      have fin : ∀ last' best' L' N', Jo a1 last' best' L' N' → ∃ s', m3_l17_ConnsOne_k4 a1 (last, best, (j : Int), L, N) (last', best', L', N') = some (.cont s') ∧ (∃ j' : Nat, j' ≤ a0.length ∧ s'.2.2.1 = (j' : Int) ∧ Jo a1 s'.1 s'.2.1 s'.2.2.2.1 s'.2.2.2.2) ∧ a0.length - s'.2.2.1.toNat < a0.length - (j : Int).toNat := fun last' best' L' N' h' =>
        ⟨_, k4_m a1 (last, best, (j : Int), L, N) last' best' L' N' h' ⟨by show 0 ≤ (j : Int); omega, by show (j : Int) ≤ 1000; omega⟩, ⟨j + 1, hlt, by show (j : Int) + 1 = _; omega, h'⟩, by show a0.length - ((j : Int) + 1).toNat < _; omega⟩
      by_cases hw1 : x.What ≤ 1
      · rw [if_pos (decide_eq_true hw1)]
        rcases open_m ⟨L, N⟩ h.s h.t with ⟨e, he, v, ho⟩ | ⟨ho, ho1, ho2⟩
        · rw [ho]
          simp only [Option.bind_some]
          rw [if_neg (by rw [decide_eq_true_eq]; exact he)]
          exact fin _ _ _ _ h
        · rw [ho]
          simp only [Option.bind_some]
          rw [if_pos (decide_eq_true trivial), if_neg (by rw [decide_eq_true_eq]; have := h.l0; omega)]
          exact fin _ _ _ _ (h.opened ho1 ho2)
      rw [if_neg (by rw [decide_eq_true_eq]; exact hw1)]
      by_cases hw4 : x.What ≤ 4
      · rw [if_pos (decide_eq_true hw4)]
        rcases hello_m ⟨L, N⟩ x.ID x.Who x.Epoch h.t with ⟨e, he, hh⟩ | ⟨i, c, hs, hw, hep, hc, hid, hcw, hlow, hi, hh, hs2, htc2⟩
        · rw [hh]
          simp only [Option.bind_some]
          rw [if_neg (by rw [decide_eq_true_eq]; exact he)]
          exact fin _ _ _ _ h
        · rw [hh]
          simp only [Option.bind_some]
          rw [if_pos (decide_eq_true trivial)]
          have hJ := h.said hep hcw hi hs2 htc2
          by_cases hww : x.Who = a1
          · rw [if_pos (decide_eq_true hww), if_neg (by
              rw [decide_eq_true_eq]
              by_cases hb : 0 ≤ best
              · obtain ⟨y, hy, hyw⟩ := (h.ex (by omega)).2 hb
                have h1 := h.ep (by omega) y hy hyw
                have h2 := hlow y hy (by rw [hyw, hww])
                omega
              · omega)]
            rw [if_pos hww] at hJ
            exact fin _ _ _ _ hJ
          · rw [if_neg (by rw [decide_eq_true_eq]; exact hww)]
            rw [if_neg hww] at hJ
            exact fin _ _ _ _ hJ
      · rw [if_neg (by rw [decide_eq_true_eq]; exact hw4)]
        rcases close_m ⟨L, N⟩ x.ID h.s h.t with ⟨hc, _⟩ | ⟨c, hc, hcm, hid⟩
        · rw [hc]
          simp only [Option.bind_some]
          rw [if_neg (fun h => Bool.noConfusion h)]
          exact fin _ _ _ _ h
        · rw [hc]
          simp only [Option.bind_some]
          rw [if_pos trivial]
          have hJ := h.closed hcm
          rw [hid] at hJ
          by_cases hww : c.Who = a1
          · rw [if_pos (decide_eq_true hww)]
            rw [if_pos hww] at hJ
            exact fin _ _ _ _ hJ
          · rw [if_neg (by rw [decide_eq_true_eq]; exact hww)]
            rw [if_neg hww] at hJ
            exact fin _ _ _ _ hJ) fuel (-1, -1, 0, [], 0) ⟨0, Nat.zero_le _, rfl, ⟨⟨Nat.zero_le _, Int.le_refl _, by decide, fun c h => (by cases h), List.Pairwise.nil⟩, fun c h => (by cases h), by decide, by decide, fun _ c h => (by cases h), fun _ => ⟨fun ⟨c, h, _⟩ => (by cases h), fun h => absurd h (by decide)⟩⟩⟩ (lt_fuel (by show a0.length - 0 ≤ _; omega))
  obtain ⟨v, rfl⟩ := hr
  rw [hb, Option.bind_some]
  rfl
end Go.Proofs.YtlnpkincpgbmcaaDoor.Abs
