/-
  Connections: what Set, Hello and Open compute.
-/
import Derived.Test.YtlnpkincpgbmcaaDoorK17
namespace Go.Proofs.YtlnpkincpgbmcaaDoor.Abs.Cn

theorem set_m (t : GConnsTable) (c' : GConnsConn) (ht : ∀ c ∈ t.L, Tc c) (hc : Tc c') :
    (m14_conns_Set t c' = some (⟨[], 0⟩, 1) ∧ ¬ SaneT t) ∨ (m14_conns_Set t c' = some (⟨[], 0⟩, 6) ∧ ∀ c ∈ t.L, c.ID ≠ c'.ID) ∨
    ∃ (i : Nat) (x : GConnsConn), SaneT t ∧ t.L[i]? = some x ∧ x.ID = c'.ID ∧ ((m14_conns_Set t c' = some (⟨[], 0⟩, 1) ∧ ¬ SaneT ⟨t.L.set i c', t.Next⟩) ∨ (m14_conns_Set t c' = some (⟨t.L.set i c', t.Next⟩, 0) ∧ SaneT ⟨t.L.set i c', t.Next⟩)) := by
  unfold m14_conns_Set
  obtain ⟨b, hb, hb'⟩ := sane_m t ht
  rw [hb, Option.bind_some]
  cases b with
  | false => exact .inl ⟨rfl, fun h => by have := hb'.2 h; cases this⟩
  | true =>
    have hs := hb'.1 rfl
    have hl := hs.1
    rw [if_neg (by decide)]
    rcases place_m t c'.ID (by omega) with ⟨e, h⟩ | ⟨i, x, e, h1, h2⟩
    · refine .inr (.inl ⟨?_, h⟩)
      rw [e]; rfl
    · refine .inr (.inr ⟨i, x, hs, h1, h2, ?_⟩)
      have hcl : m29_slices_Cloneo t.L = some t.L := by
        unfold m29_slices_Cloneo
        rw [if_pos (by simp only [List.length_nil]; omega)]
        rfl
      rw [e, Option.bind_some, if_neg (by rw [decide_eq_true_eq]; omega), hcl, Option.bind_some, idx_nat, h1, Option.bind_some, Int.toNat_natCast]
      show ((m10_conns_Sane ⟨t.L.set i c', t.Next⟩).bind _ = _ ∧ _) ∨ ((m10_conns_Sane ⟨t.L.set i c', t.Next⟩).bind _ = _ ∧ _)
      obtain ⟨b2, hb2, hb2'⟩ := sane_m ⟨t.L.set i c', t.Next⟩ (fun c h => by
        rcases List.mem_or_eq_of_mem_set h with h | rfl
        · exact ht c h
        · exact hc)
      rw [hb2, Option.bind_some]
      cases b2 with
      | false => exact .inl ⟨rfl, fun h => by have := hb2'.2 h; cases this⟩
      | true => exact .inr ⟨rfl, hb2'.1 rfl⟩

/-- One that is nobody's and may be may be somebody's. -/
theorem sc_owned {c : GConnsConn} (hw : c.Who = -1) (hs : m25_conns_saneConn c = some true) {who ep : Int} (h1 : 0 ≤ who ∧ who ≤ 1099511627776) (h2 : 0 ≤ ep ∧ ep ≤ 65535) : m25_conns_saneConn { c with Who := who, Epoch := ep } = some true := by
  unfold m25_conns_saneConn at hs ⊢
  rw [within_m, Option.bind_some, hw, if_neg (by decide), if_pos (by decide)] at hs
  have hk : m25_conns_saneConn_k1 c true = some true := by
    by_cases he : c.Epoch = 0
    · rw [decide_eq_true he] at hs; exact hs
    · rw [decide_eq_false he] at hs
      exact absurd (Option.some.inj hs) (by decide)
  rw [within_m, Option.bind_some]
  rw [if_pos (by simp only [Bool.and_eq_true, decide_eq_true_eq]; exact h1), within_m, Option.bind_some, if_pos (by simp only [Bool.and_eq_true, decide_eq_true_eq]; exact h2)]
  exact hk

theorem close_tab (t : GConnsTable) (id : Int) (hs : SaneT t) (ht : ∀ c ∈ t.L, Tc c) : ∃ v, m9_conns_Close t id = some v ∧ v.1 = ⟨t.L.filter (fun c => !decide (c.ID = id)), t.Next⟩ := by
  rcases close_m t id hs ht with ⟨e, h⟩ | ⟨c, e, _, _⟩
  · refine ⟨_, e, ?_⟩
    have : t.L.filter (fun c => !decide (c.ID = id)) = t.L := List.filter_eq_self.2 fun c hc => by simpa using h c hc
    rw [this]
  · exact ⟨_, e, rfl⟩

theorem closes_m (t : GConnsTable) (hs : SaneT t) (ht : ∀ c ∈ t.L, Tc c) (e0 : Int) (gone : List GConnsConn) (hg : gone.length ≤ 8) :
    iterB (m8_conns_Hello_s8 (e0, gone)) fuel (0, t.L, t.Next) = some (t.L.filter (fun c => gone.all fun g => !decide (c.ID = g.ID)), t.Next) := by
  obtain ⟨b, hb, hr⟩ := iterB_inv (f := m8_conns_Hello_s8 (e0, gone)) (P := fun s => ∃ i : Nat, i ≤ gone.length ∧ s = ((i : Int), t.L.filter (fun c => (gone.take i).all fun g => !decide (c.ID = g.ID)), t.Next)) (μ := fun s => gone.length - s.1.toNat)
    (R := fun b => b = (t.L.filter (fun c => gone.all fun g => !decide (c.ID = g.ID)), t.Next)) (by
      rintro _ ⟨i, hi, rfl⟩
      rcases Nat.lt_or_ge i gone.length with hlt | hge
      · left
        have hx := List.getElem?_eq_getElem hlt
        obtain ⟨v, hv, hv'⟩ := close_tab ⟨t.L.filter (fun c => (gone.take i).all fun g => !decide (c.ID = g.ID)), t.Next⟩ gone[i].ID (hs.filter _) (fun c hc => ht c (List.mem_filter.1 hc).1)
        refine ⟨(((i + 1 : Nat) : Int), t.L.filter (fun c => (gone.take (i + 1)).all fun g => !decide (c.ID = g.ID)), t.Next), ?_, ⟨i + 1, hlt, rfl⟩, by simp only [Int.toNat_natCast]; omega⟩
        unfold m8_conns_Hello_s8
        rw [if_pos (decide_eq_true (by show (i : Int) < (gone.length : Int); omega))]
        show (idx gone (i : Int)).bind _ = _
        rw [idx_nat, hx, Option.bind_some]
        show (m9_conns_Close ⟨t.L.filter (fun c => (gone.take i).all fun g => !decide (c.ID = g.ID)), t.Next⟩ gone[i].ID).bind _ = _
        rw [hv, Option.bind_some, hv', wI_id (by omega) (by omega)]
        have e : (t.L.filter (fun c => (gone.take i).all fun g => !decide (c.ID = g.ID))).filter (fun c => !decide (c.ID = gone[i].ID)) = t.L.filter (fun c => (gone.take (i + 1)).all fun g => !decide (c.ID = g.ID)) := by
          rw [List.filter_filter]
          congr 1
          funext c
          rw [List.take_succ_eq_append_getElem hlt, List.all_append, Bool.and_comm]
          simp
        show some (LB.cont ((i : Int) + 1, (t.L.filter (fun c => (gone.take i).all fun g => !decide (c.ID = g.ID))).filter (fun c => !decide (c.ID = gone[i].ID)), t.Next)) = _
        rw [e]
        rfl
      · right
        have e : i = gone.length := by omega
        subst e
        refine ⟨_, ?_, rfl⟩
        unfold m8_conns_Hello_s8
        rw [if_neg (by rw [decide_eq_true_eq]; show ¬ ((gone.length : Int) < (gone.length : Int)); omega), List.take_length]) fuel (0, t.L, t.Next) ⟨0, Nat.zero_le _, by
          have : t.L.filter (fun c => (gone.take 0).all fun g => !decide (c.ID = g.ID)) = t.L := List.filter_eq_self.2 fun c _ => rfl
          rw [this]; rfl⟩ (lt_fuel (by show gone.length - 0 ≤ _; omega))
  rw [hb, hr]

theorem rangeL_hello (ep : Int) : ∀ (l : List (Int × GConnsConn)) (e0 : Int) (acc : List GConnsConn), (acc.length + l.length) * 136 ≤ 140737488355328 →
    (∃ acc' x, x ∈ l ∧ ep ≤ x.2.Epoch ∧ rangeL (m8_conns_Hello_r3 ep) l (e0, acc) = some (.inr (0, (14, acc')))) ∨ ((∀ x ∈ l, x.2.Epoch < ep) ∧ rangeL (m8_conns_Hello_r3 ep) l (e0, acc) = some (.inl (e0, acc ++ l.map (·.2))))
  | [], e0, acc, _ => .inr ⟨fun x h => (by cases h), (by simp [rangeL])⟩
  | x :: l, e0, acc, h => by
    rw [List.length_cons] at h
    by_cases he : ep ≤ x.2.Epoch
    · refine .inl ⟨acc, x, List.mem_cons_self, he, ?_⟩
      have e : m8_conns_Hello_r3 ep (e0, acc) x = some (.inr (0, (14, acc))) := by
        unfold m8_conns_Hello_r3
        rw [if_pos (decide_eq_true he)]
      rw [rangeL, e]
    · have e : m8_conns_Hello_r3 ep (e0, acc) x = some (.inl (e0, acc ++ [x.2])) := by
        unfold m8_conns_Hello_r3
        rw [if_neg (by rw [decide_eq_true_eq]; exact he), if_pos (by simp only [List.length_cons, List.length_nil]; omega)]
      rw [rangeL, e]
      rcases rangeL_hello ep l e0 (acc ++ [x.2]) (by rw [List.length_append, List.length_singleton]; omega) with ⟨acc', y, h1, h2, h3⟩ | ⟨h1, h2⟩
      · exact .inl ⟨acc', y, List.mem_cons_of_mem _ h1, h2, h3⟩
      · refine .inr ⟨fun y hy => ?_, ?_⟩
        · rcases List.mem_cons.1 hy with rfl | hy
          · omega
          · exact h1 y hy
        · show rangeL (m8_conns_Hello_r3 ep) l (e0, acc ++ [x.2]) = _
          rw [h2, List.map_cons, List.append_assoc]
          rfl

def heard (t : GConnsTable) (who : Int) : List GConnsConn := t.L.filter (fun x => !decide (x.Who = who))

theorem hello_m (t : GConnsTable) (id who ep : Int) (ht : ∀ c ∈ t.L, Tc c) :
    (∃ e, e ≠ 0 ∧ m8_conns_Hello t id who ep = some (⟨[], 0⟩, [], e)) ∨
    ∃ (i : Nat) (c : GConnsConn), SaneT t ∧ (0 ≤ who ∧ who ≤ 1099511627776) ∧ (0 ≤ ep ∧ ep ≤ 65535) ∧ c ∈ t.L ∧ c.ID = id ∧ c.Who = -1 ∧ (∀ x ∈ t.L, x.Who = who → x.Epoch < ep) ∧ (heard t who)[i]? = some c ∧
      m8_conns_Hello t id who ep = some (⟨(heard t who).set i { c with Who := who, Epoch := ep }, t.Next⟩, t.L.filter (fun x => decide (x.Who = who)), 0) ∧
      SaneT ⟨(heard t who).set i { c with Who := who, Epoch := ep }, t.Next⟩ ∧ Tc { c with Who := who, Epoch := ep } := by
  unfold m8_conns_Hello
  show (∃ e, e ≠ 0 ∧ (m10_conns_Sane t).bind _ = _) ∨ ∃ (i : Nat) (c : GConnsConn), SaneT t ∧ _ ∧ _ ∧ _ ∧ _ ∧ _ ∧ _ ∧ _ ∧ (m10_conns_Sane t).bind _ = _ ∧ _ ∧ _
  obtain ⟨b, hb, hb'⟩ := sane_m t ht
  rw [hb, Option.bind_some]
  cases b with
  | false => exact .inl ⟨1, by decide, rfl⟩
  | true =>
  have hs := hb'.1 rfl
  have hl := hs.1
  rw [if_neg (by decide), within_m, Option.bind_some]
  by_cases hw : 0 ≤ who ∧ who ≤ 1099511627776
  rotate_left
  · rw [if_pos (by simp only [Bool.not_eq_true', Bool.and_eq_false_iff, decide_eq_false_iff_not]; omega)]
    exact .inl ⟨1, by decide, rfl⟩
  rw [if_neg (by simp only [Bool.not_eq_true', Bool.and_eq_false_iff, decide_eq_false_iff_not]; omega), within_m, Option.bind_some]
  by_cases hep : 0 ≤ ep ∧ ep ≤ 65535
  rotate_left
  · rw [if_pos (by simp only [Bool.not_eq_true', Bool.and_eq_false_iff, decide_eq_false_iff_not]; omega)]
    exact .inl ⟨1, by decide, rfl⟩
  rw [if_neg (by simp only [Bool.not_eq_true', Bool.and_eq_false_iff, decide_eq_false_iff_not]; omega)]
  unfold m8_conns_Hello_k1
  show (∃ e, e ≠ 0 ∧ (m11_conns_Find t id).bind _ = _) ∨ ∃ (i : Nat) (c : GConnsConn), SaneT t ∧ _ ∧ _ ∧ _ ∧ _ ∧ _ ∧ _ ∧ _ ∧ (m11_conns_Find t id).bind _ = _ ∧ _ ∧ _
  rcases find_m t id (by omega) with ⟨e, h⟩ | ⟨c, e, h1, h2⟩
  · rw [e]; exact .inl ⟨6, by decide, rfl⟩
  rw [e, Option.bind_some]
  by_cases hcw : c.Who = -1
  rotate_left
  · refine .inl ⟨7, by decide, ?_⟩
    show (if (!decide (c.Who = -1)) = true then _ else _) = _
    rw [if_pos (by rw [decide_eq_false hcw]; rfl)]
  have hfl := fl_snd (fun c => decide (c.Who = who)) t.L 0
  have hfll : (fl (fun c => decide (c.Who = who)) 0 t.L).length ≤ 8 := by
    have := congrArg List.length hfl
    rw [List.length_map] at this
    have h3 := List.length_filter_le (fun c : GConnsConn => decide (c.Who = who)) t.L
    omega
  have e1 : ∀ r, (if (!(c, true).2) = true then some ((GConnsTable.mk [] 0), ([] : List GConnsConn), (6 : Int)) else if (!decide ((c, true).1.Who = -1)) = true then some ((GConnsTable.mk [] 0), ([] : List GConnsConn), (7 : Int)) else (it39 t (fun c0 => m23_conns_Hello_1s c0 who)).bind fun L3 => (rangeL (m8_conns_Hello_r3 ep) L3 (0, [])).bind fun e => rangeK (m8_conns_Hello_k5 t who ep (c, true)) m8_conns_Hello_k12 (fun _ _ => none) e) = r ↔
      ((rangeL (m8_conns_Hello_r3 ep) (fl (fun c => decide (c.Who = who)) 0 t.L) (0, [])).bind fun e => rangeK (m8_conns_Hello_k5 t who ep (c, true)) m8_conns_Hello_k12 (fun _ _ => none) e) = r := fun r => by
    rw [if_neg (show ¬ ((!(c, true).2) = true) from fun h => Bool.noConfusion (show false = true from h)), if_neg (by rw [decide_eq_true hcw]; decide), it39_fl (hold := fun c0 => m23_conns_Hello_1s c0 who) (p := fun c => decide (c.Who = who)) (fun c => rfl) (by omega), Option.bind_some]
  rcases rangeL_hello ep (fl (fun c => decide (c.Who = who)) 0 t.L) 0 [] (by simp only [List.length_nil]; omega) with ⟨acc', y, hy1, hy2, hy3⟩ | ⟨hlo, hrl⟩
  · refine .inl ⟨14, by decide, (e1 _).2 ?_⟩
    rw [hy3]; rfl
  have hlow : ∀ x ∈ t.L, x.Who = who → x.Epoch < ep := fun x hx hxw => by
    have : x ∈ (fl (fun c => decide (c.Who = who)) 0 t.L).map (·.2) := by rw [hfl]; exact List.mem_filter.2 ⟨hx, decide_eq_true hxw⟩
    obtain ⟨y, hy, rfl⟩ := List.mem_map.1 this
    exact hlo y hy
  rw [hfl, List.nil_append] at hrl
  have hcl := closes_m t hs ht 0 (t.L.filter (fun c => decide (c.Who = who))) (Nat.le_trans (List.length_filter_le _ _) hl)
  have hfe : t.L.filter (fun c => (t.L.filter (fun c => decide (c.Who = who))).all fun g => !decide (c.ID = g.ID)) = heard t who := by
    unfold heard
    refine List.filter_congr fun x hx => ?_
    by_cases hxw : x.Who = who
    · rw [decide_eq_true hxw]
      have : ¬ ((t.L.filter (fun c => decide (c.Who = who))).all fun g => !decide (x.ID = g.ID)) = true := by
        rw [List.all_eq_true]
        intro h
        have := h x (List.mem_filter.2 ⟨hx, decide_eq_true hxw⟩)
        simp at this
      simpa using this
    · rw [decide_eq_false hxw]
      show _ = true
      rw [List.all_eq_true]
      intro g hg
      have hg' := List.mem_filter.1 hg
      have hgw : g.Who = who := of_decide_eq_true hg'.2
      rw [Bool.not_eq_true', decide_eq_false_iff_not]
      intro e
      exact hxw (hs.id_inj hx hg'.1 e ▸ hgw)
  rw [hfe] at hcl
  have hsf : SaneT ⟨heard t who, t.Next⟩ := hs.filter _
  have hch : c ∈ heard t who := List.mem_filter.2 ⟨h1, by rw [hcw, Bool.not_eq_true', decide_eq_false_iff_not]; omega⟩
  have hown := sc_owned hcw (show m25_conns_saneConn c = some true from (hs.2.2.2.1 c h1).2.2 ▸ ht c h1) hw hep
  have htc := (Tc_of hown).1
  have e2 : ∀ r, m14_conns_Set ⟨heard t who, t.Next⟩ { c with Who := who, Epoch := ep } = some (r, 0) → ((rangeL (m8_conns_Hello_r3 ep) (fl (fun c => decide (c.Who = who)) 0 t.L) (0, [])).bind fun e => rangeK (m8_conns_Hello_k5 t who ep (c, true)) m8_conns_Hello_k12 (fun _ _ => none) e) = some (r, t.L.filter (fun x => decide (x.Who = who)), 0) := fun r hr => by
    rw [hrl, Option.bind_some]
    show m8_conns_Hello_k5 t who ep (c, true) (0, _) = _
    unfold m8_conns_Hello_k5
    rw [hcl, Option.bind_some]
    unfold m8_conns_Hello_k6
    show (m14_conns_Set ⟨heard t who, t.Next⟩ { c with Who := who, Epoch := ep }).bind _ = _
    rw [hr]; rfl
  rcases set_m ⟨heard t who, t.Next⟩ { c with Who := who, Epoch := ep } (fun x hx => ht x (List.mem_filter.1 hx).1) htc with ⟨_, h⟩ | ⟨_, h⟩ | ⟨i, x, _, hi1, hi2, hi3⟩
  · exact absurd hsf h
  · exact absurd rfl (h c hch)
  have hxc : x = c := hsf.id_inj (List.mem_of_getElem? hi1) hch hi2
  subst hxc
  have hs2 : SaneT ⟨(heard t who).set i { x with Who := who, Epoch := ep }, t.Next⟩ := by
    refine ⟨by rw [List.length_set]; exact hsf.1, hsf.2.1, hsf.2.2.1, fun y hy => ?_, ?_⟩
    · rcases List.mem_or_eq_of_mem_set hy with hy | rfl
      · exact hsf.2.2.2.1 y hy
      · exact ⟨(hsf.2.2.2.1 x hch).1, (hsf.2.2.2.1 x hch).2.1, (Tc_of hown).2⟩
    · have hp := List.pairwise_iff_getElem.1 hsf.2.2.2.2
      refine List.pairwise_iff_getElem.2 fun j k hj hk hjk => ?_
      rw [List.length_set] at hj hk
      have h0 := clash_no.1 (hp j k hj hk hjk)
      have hgi := (List.getElem?_eq_some_iff.1 hi1)
      have hne : ∀ m (hm : m < (heard t who).length), (heard t who)[m].Who ≠ who := fun m hm => by
        have := (List.mem_filter.1 (show (heard t who)[m] ∈ t.L.filter _ from List.getElem_mem hm)).2
        simpa using this
      rw [List.getElem_set, List.getElem_set]
      split
      · next hij =>
        subst hij
        rw [if_neg (by omega)]
        rw [hgi.2] at h0
        exact clash_no.2 ⟨h0.1, fun e => absurd e.symm (hne k hk), h0.2.2⟩
      · split
        · next hij hik =>
          subst hik
          rw [hgi.2] at h0
          exact clash_no.2 ⟨h0.1, fun e => absurd e (hne j hj), h0.2.2⟩
        · exact clash_no.2 h0
  rcases hi3 with ⟨_, h⟩ | ⟨h, _⟩
  · exact absurd hs2 h
  · exact .inr ⟨i, x, hs, hw, hep, h1, h2, hcw, hlow, hi1, (e1 _).2 (e2 _ h), hs2, htc⟩
end Go.Proofs.YtlnpkincpgbmcaaDoor.Abs.Cn
