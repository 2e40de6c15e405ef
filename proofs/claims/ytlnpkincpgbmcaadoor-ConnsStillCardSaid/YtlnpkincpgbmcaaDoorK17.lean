/-
  Connections: what the calls compute.
-/
import Derived.Test.YtlnpkincpgbmcaaDoorS17
namespace Go.Proofs.YtlnpkincpgbmcaaDoor.Abs.Cn

theorem iter_scan {α : Type} (xs : List α) (p : Nat → α → Bool) (f : Int → Option (LR Int Unit Bool)) (hl : xs.length ≤ 1000000000000000000)
    (h : ∀ (i : Nat) x, xs[i]? = some x → f (i : Int) = some (if p i x then .ret false else .cont ((i + 1 : Nat) : Int))) (hend : f (xs.length : Int) = some (.brk ())) :
    (∃ i x, xs[i]? = some x ∧ p i x = true ∧ iter f fuel 0 = some (.inl false)) ∨ ((∀ (i : Nat) x, xs[i]? = some x → p i x = false) ∧ iter f fuel 0 = some (.inr ())) := by
  obtain ⟨b, hb, hr⟩ := iter_inv (f := f) (P := fun s => ∃ i : Nat, i ≤ xs.length ∧ s = (i : Int) ∧ ∀ j x, j < i → xs[j]? = some x → p j x = false) (μ := fun s => xs.length - s.toNat)
    (R := fun r => (r = .inl false ∧ ∃ i x, xs[i]? = some x ∧ p i x = true) ∨ (r = .inr () ∧ ∀ (i : Nat) x, xs[i]? = some x → p i x = false)) (by
      rintro _ ⟨i, hi, rfl, hp⟩
      rcases Nat.lt_or_ge i xs.length with hlt | hge
      · have hx := List.getElem?_eq_getElem hlt
        have hf := h i _ hx
        cases hpx : p i xs[i] with
        | true =>
          rw [hpx, if_pos rfl] at hf
          exact .inr (.inr ⟨false, hf, .inl ⟨rfl, i, _, hx, hpx⟩⟩)
        | false =>
          rw [hpx, if_neg (by decide)] at hf
          refine .inl ⟨_, hf, ⟨i + 1, hlt, rfl, fun j x hj hx' => ?_⟩, by simp only [Int.toNat_natCast]; omega⟩
          rcases Nat.lt_succ_iff_lt_or_eq.1 hj with h' | rfl
          · exact hp j x h' hx'
          · rw [hx] at hx'; cases hx'; exact hpx
      · have e : i = xs.length := by omega
        subst e
        exact .inr (.inl ⟨(), hend, .inr ⟨rfl, fun j x hx => hp j x (List.getElem?_eq_some_iff.1 hx).1 hx⟩⟩)) fuel 0 ⟨0, Nat.zero_le _, rfl, fun j x hj => absurd hj (Nat.not_lt_zero _)⟩ (lt_fuel (by show xs.length - 0 ≤ _; omega))
  rcases hr with ⟨rfl, i, x, hx, hp⟩ | ⟨rfl, hp⟩
  · exact .inl ⟨i, x, hx, hp, hb⟩
  · exact .inr ⟨hp, hb⟩

abbrev zconn : GConnsConn := GConnsConn.mk 0 0 0 0 (GStreamStream.mk ([] : List UInt8) 0) (GPipePipe.mk (GSeqsWindow.mk 0 (0#64)) 0 ([] : List GMsgReq) ([] : List GMsgReply))
def clashB (a b : GConnsConn) : Bool := decide (b.ID ≤ a.ID) || (decide (a.Who = b.Who) && !decide (a.Who = -1)) || (decide (a.Tx = b.Tx) && !decide (a.Tx = -1))
theorem clash_m (a b : GConnsConn) : m26_conns_clash a b = some (clashB a b) := by
  unfold m26_conns_clash clashB
  generalize decide (b.ID ≤ a.ID) = x1
  generalize decide (a.Who = b.Who) = x2
  generalize decide (a.Who = -1) = x3
  generalize decide (a.Tx = b.Tx) = x4
  generalize decide (a.Tx = -1) = x5
  cases x1 <;> cases x2 <;> cases x3 <;> cases x4 <;> cases x5 <;> rfl
theorem clash_no {a b : GConnsConn} : clashB a b = false ↔ a.ID < b.ID ∧ (a.Who = b.Who → a.Who = -1) ∧ (a.Tx = b.Tx → a.Tx = -1) := by
  unfold clashB
  simp only [Bool.or_eq_false_iff, Bool.and_eq_false_iff, decide_eq_false_iff_not, Bool.not_eq_false', decide_eq_true_eq, Int.not_le]
  constructor
  · rintro ⟨⟨h1, h2⟩, h3⟩
    exact ⟨h1, fun e => h2.resolve_left (fun h => h e), fun e => h3.resolve_left (fun h => h e)⟩
  · rintro ⟨h1, h2, h3⟩
    exact ⟨⟨h1, by by_cases h : a.Who = b.Who; exact .inr (h2 h); exact .inl h⟩, by by_cases h : a.Tx = b.Tx; exact .inr (h3 h); exact .inl h⟩

def scB (c : GConnsConn) : Bool := (m25_conns_saneConn c).getD false
def Tc (c : GConnsConn) : Prop := m25_conns_saneConn c = some (scB c)
theorem Tc_of {c : GConnsConn} {b : Bool} (h : m25_conns_saneConn c = some b) : Tc c ∧ scB c = b := by
  unfold Tc scB; rw [h]; exact ⟨rfl, rfl⟩

def SaneT (t : GConnsTable) : Prop := t.L.length ≤ 8 ∧ 0 ≤ t.Next ∧ t.Next ≤ 1099511627776 ∧ (∀ c ∈ t.L, 0 ≤ c.ID ∧ c.ID < t.Next ∧ scB c = true) ∧ t.L.Pairwise fun a c => clashB a c = false

theorem within_m (a b : Int) : m21_conns_within a b = some (decide (0 ≤ a) && decide (a ≤ b)) := by
  unfold m21_conns_within
  by_cases h : 0 ≤ a
  · rw [if_pos (decide_eq_true h), decide_eq_true h, Bool.true_and]
  · rw [if_neg (by rw [decide_eq_true_eq]; exact h), decide_eq_false h, Bool.false_and]

theorem inner_m (u : GConnsConn) (l : List GConnsConn) (hl : l.length ≤ 1000000000000000000) : iter (m10_conns_Sane_s8 u l) fuel 0 = some (if l.any (fun a => clashB a u) then .inl false else .inr ()) := by
  rcases iter_scan l (fun _ a => clashB a u) (m10_conns_Sane_s8 u l) hl (fun i x hx => by
    have hlt := (List.getElem?_eq_some_iff.1 hx).1
    unfold m10_conns_Sane_s8
    rw [if_pos (decide_eq_true (by omega)), idx_nat, hx, Option.bind_some]
    show (m26_conns_clash x u).bind _ = _
    rw [clash_m, Option.bind_some]
    cases clashB x u with
    | true => rfl
    | false =>
      show some (LR.cont _) = some (LR.cont _)
      rw [wI_id (by omega) (by omega)]; rfl) (by
    unfold m10_conns_Sane_s8
    rw [if_neg (by rw [decide_eq_true_eq]; omega)]) with ⟨i, x, hx, hp, e⟩ | ⟨hp, e⟩
  · rw [e, if_pos (List.any_eq_true.2 ⟨x, List.mem_of_getElem? hx, hp⟩)]
  · rw [e, if_neg]
    rw [List.any_eq_true]
    rintro ⟨x, hx, h⟩
    obtain ⟨i, hi⟩ := List.mem_iff_getElem?.1 hx
    rw [hp i x hi] at h
    cases h

theorem sane_m (t : GConnsTable) (ht : ∀ c ∈ t.L, Tc c) : ∃ b, m10_conns_Sane t = some b ∧ (b = true ↔ SaneT t) := by
  unfold m10_conns_Sane
  by_cases h8 : 8 < (t.L.length : Int)
  · rw [if_pos (decide_eq_true h8)]
    exact ⟨false, rfl, ⟨fun h => (by cases h), fun h => absurd h.1 (by omega)⟩⟩
  rw [if_neg (by rw [decide_eq_true_eq]; exact h8), within_m, Option.bind_some]
  by_cases hn : 0 ≤ t.Next ∧ t.Next ≤ 1099511627776
  rotate_left
  · rw [if_pos (by simp only [Bool.not_eq_true', Bool.and_eq_false_iff, decide_eq_false_iff_not]; omega)]
    exact ⟨false, rfl, ⟨fun h => (by cases h), fun h => absurd ⟨h.2.1, h.2.2.1⟩ hn⟩⟩
  rw [if_neg (by simp only [Bool.not_eq_true', Bool.and_eq_false_iff, decide_eq_false_iff_not]; omega)]
  unfold m10_conns_Sane_k1
  rcases iter_scan t.L (fun i c => decide (c.ID < 0) || decide (t.Next ≤ c.ID) || !scB c || (t.L.take i).any (fun a => clashB a c)) (m10_conns_Sane_s3 t) (by omega) (fun i x hx => by
    have hlt := (List.getElem?_eq_some_iff.1 hx).1
    unfold m10_conns_Sane_s3
    rw [if_pos (decide_eq_true (by omega)), idx_nat, hx, Option.bind_some]
    by_cases h1 : x.ID < 0
    · rw [if_pos (decide_eq_true h1), decide_eq_true h1]; rfl
    rw [if_neg (by rw [decide_eq_true_eq]; exact h1), decide_eq_false h1, Bool.false_or]
    by_cases h2 : t.Next ≤ x.ID
    · rw [if_pos (decide_eq_true h2), decide_eq_true h2]; rfl
    rw [if_neg (by rw [decide_eq_true_eq]; exact h2), decide_eq_false h2, Bool.false_or]
    show (m25_conns_saneConn x).bind _ = _
    rw [ht x (List.mem_of_getElem? hx), Option.bind_some]
    cases scB x with
    | false => rfl
    | true =>
      rw [if_neg (by decide)]
      unfold m10_conns_Sane_k5
      rw [cut_of (Int.le_refl 0) (Int.natCast_nonneg i) (by omega), Option.bind_some]
      rw [show ((t.L.drop (0 : Int).toNat).take ((i : Int).toNat - (0 : Int).toNat)) = t.L.take i from by simp]
      rw [inner_m _ _ (by rw [List.length_take]; omega), Option.bind_some]
      cases (t.L.take i).any (fun a => clashB a x) with
      | true => rfl
      | false =>
        show m10_conns_Sane_k7 _ _ = _
        unfold m10_conns_Sane_k7
        rw [wI_id (by omega) (by omega)]; rfl) (by
    unfold m10_conns_Sane_s3
    rw [if_neg (by rw [decide_eq_true_eq]; omega)]) with ⟨i, x, hx, hp, e⟩ | ⟨hp, e⟩
  · rw [e, Option.bind_some]
    refine ⟨false, rfl, ⟨fun h => (by cases h), fun h => ?_⟩⟩
    exfalso
    obtain ⟨k1, k2, k3⟩ := h.2.2.2.1 x (List.mem_of_getElem? hx)
    have k4 := h.2.2.2.2
    simp only [Bool.or_eq_true, decide_eq_true_eq, Bool.not_eq_true', List.any_eq_true] at hp
    rcases hp with ((hp | hp) | hp) | ⟨a, ha, hp⟩
    · omega
    · omega
    · rw [k3] at hp; cases hp
    · obtain ⟨j, hj⟩ := List.mem_iff_getElem?.1 ha
      rw [List.getElem?_take] at hj
      split at hj
      next hji =>
        have hlt := (List.getElem?_eq_some_iff.1 hx)
        have hltj := (List.getElem?_eq_some_iff.1 hj)
        have := List.pairwise_iff_getElem.1 k4 j i hltj.1 hlt.1 hji
        rw [hlt.2, hltj.2, hp] at this
        cases this
      next => cases hj
  · rw [e, Option.bind_some]
    refine ⟨true, rfl, ⟨fun _ => ⟨by omega, hn.1, hn.2, fun c hc => ?_, ?_⟩, fun _ => rfl⟩⟩
    · obtain ⟨i, hi⟩ := List.mem_iff_getElem?.1 hc
      have := hp i c hi
      simp only [Bool.or_eq_false_iff, decide_eq_false_iff_not, Bool.not_eq_false'] at this
      exact ⟨by omega, by omega, this.1.2⟩
    · refine List.pairwise_iff_getElem.2 fun j i hj hi hji => ?_
      have := hp i _ (List.getElem?_eq_getElem hi)
      simp only [Bool.or_eq_false_iff, List.any_eq_false] at this
      have := this.2 t.L[j] (List.mem_iff_getElem?.2 ⟨j, by rw [List.getElem?_take, if_pos hji, List.getElem?_eq_getElem hj]⟩)
      simpa using this

/-- Those of which p holds, with their places. -/
def fl (p : GConnsConn → Bool) : Nat → List GConnsConn → List (Int × GConnsConn)
  | _, [] => []
  | i, c :: l => if p c then ((i : Int), c) :: fl p (i + 1) l else fl p (i + 1) l
theorem it39d_fl {hold : GConnsConn → Option Bool} {p : GConnsConn → Bool} (h : ∀ c, hold c = some (p c)) : ∀ (l : List GConnsConn) (i : Nat), it39d hold i l = some (fl p i l)
  | [], _ => rfl
  | c :: l, i => by
    rw [it39d, h, Option.bind_some, it39d_fl h l, Option.bind_some, fl]
theorem it39_fl {t : GConnsTable} {hold : GConnsConn → Option Bool} {p : GConnsConn → Bool} (h : ∀ c, hold c = some (p c)) (hl : t.L.length ≤ 1000000000000000000) : it39 t hold = some (fl p 0 t.L) := by
  unfold it39
  rw [if_pos hl, it39d_fl h]
theorem fl_snd (p : GConnsConn → Bool) : ∀ (l : List GConnsConn) (i : Nat), (fl p i l).map (·.2) = l.filter p
  | [], _ => rfl
  | c :: l, i => by
    rw [fl, List.filter_cons]
    cases p c
    · exact fl_snd p l (i + 1)
    · exact congrArg (c :: ·) (fl_snd p l (i + 1))

theorem place_m (t : GConnsTable) (id : Int) (hl : t.L.length ≤ 1000000000000000000) :
    (m27_conns_place t id = some (-1) ∧ (∀ c ∈ t.L, c.ID ≠ id)) ∨ ∃ (i : Nat) (c : GConnsConn), m27_conns_place t id = some (i : Int) ∧ t.L[i]? = some c ∧ c.ID = id := by
  have e0 : m27_conns_place t id = (rangeL m27_conns_place_r1 (fl (fun c => decide (c.ID = id)) 0 t.L) 0).bind fun e => rangeK m27_conns_place_k2 m27_conns_place_k3 (fun _ _ => none) e := by
    unfold m27_conns_place
    show (it39 t (fun c0 => m42_conns_place_1s c0 id)).bind _ = _
    rw [it39_fl (hold := fun c0 => m42_conns_place_1s c0 id) (p := fun c => decide (c.ID = id)) (fun c => rfl) hl, Option.bind_some]
  rw [e0]
  have key : ∀ (l : List GConnsConn) (k : Nat), (fl (fun c => decide (c.ID = id)) k l = [] ∧ ∀ c ∈ l, c.ID ≠ id) ∨ ∃ i c r, fl (fun c => decide (c.ID = id)) k l = (((k + i : Nat) : Int), c) :: r ∧ l[i]? = some c ∧ c.ID = id := by
    intro l
    induction l with
    | nil => intro k; exact .inl ⟨rfl, fun c h => by cases h⟩
    | cons c l ih =>
      intro k
      rw [fl]
      by_cases h : c.ID = id
      · rw [if_pos (decide_eq_true h)]
        exact .inr ⟨0, c, _, rfl, rfl, h⟩
      · rw [if_neg (by rw [decide_eq_true_eq]; exact h)]
        rcases ih (k + 1) with ⟨e, h'⟩ | ⟨i, c', r, e, h1, h2⟩
        · exact .inl ⟨e, fun x hx => by rcases List.mem_cons.1 hx with rfl | hx; exact h; exact h' x hx⟩
        · exact .inr ⟨i + 1, c', r, by rw [e]; congr 3; omega, h1, h2⟩
  rcases key t.L 0 with ⟨e, h⟩ | ⟨i, c, r, e, h1, h2⟩
  · rw [e]
    exact .inl ⟨rfl, h⟩
  · rw [e]
    refine .inr ⟨i, c, ?_, h1, h2⟩
    show (some (((0 + i : Nat) : Int))) = _
    rw [Nat.zero_add]

theorem find_m (t : GConnsTable) (id : Int) (hl : t.L.length ≤ 1000000000000000000) :
    (m11_conns_Find t id = some (zconn, false) ∧ (∀ c ∈ t.L, c.ID ≠ id)) ∨ ∃ c, m11_conns_Find t id = some (c, true) ∧ c ∈ t.L ∧ c.ID = id := by
  unfold m11_conns_Find
  rcases place_m t id hl with ⟨e, h⟩ | ⟨i, c, e, h1, h2⟩
  · refine .inl ⟨?_, h⟩
    show (m27_conns_place t id).bind _ = _
    rw [e]; rfl
  · refine .inr ⟨c, ?_, List.mem_of_getElem? h1, h2⟩
    show (m27_conns_place t id).bind _ = _
    rw [e, Option.bind_some, if_neg (by rw [decide_eq_true_eq]; omega), idx_nat, h1]
    rfl

theorem rangeL_app (P : GConnsConn → Bool) : ∀ (l : List (Int × GConnsConn)) (acc : List GConnsConn), (acc.length + l.length) * 136 ≤ 140737488355328 → rangeL m9_conns_Close_r3 l acc = some (.inl (acc ++ l.map (·.2)))
  | [], acc, _ => by simp [rangeL]
  | x :: l, acc, h => by
    rw [List.length_cons] at h
    have e : m9_conns_Close_r3 acc x = some (.inl (acc ++ [x.2])) := by
      unfold m9_conns_Close_r3
      rw [if_pos (by simp only [List.length_cons, List.length_nil]; omega)]
    rw [rangeL, e]
    show rangeL m9_conns_Close_r3 l (acc ++ [x.2]) = _
    rw [rangeL_app P l _ (by rw [List.length_append, List.length_singleton]; omega), List.map_cons, List.append_assoc]
    rfl

theorem close_m (t : GConnsTable) (id : Int) (hs : SaneT t) (ht : ∀ c ∈ t.L, Tc c) :
    (m9_conns_Close t id = some (t, zconn, false) ∧ ∀ c ∈ t.L, c.ID ≠ id) ∨ ∃ c, m9_conns_Close t id = some (⟨t.L.filter (fun c => !decide (c.ID = id)), t.Next⟩, c, true) ∧ c ∈ t.L ∧ c.ID = id := by
  have hl := hs.1
  unfold m9_conns_Close
  rcases find_m t id (by omega) with ⟨e, h⟩ | ⟨c, e, h1, h2⟩
  · refine .inl ⟨?_, h⟩
    rw [e]; rfl
  · refine .inr ⟨c, ?_, h1, h2⟩
    rw [e, Option.bind_some]
    show (m10_conns_Sane t).bind _ = _
    obtain ⟨b, hb, hb'⟩ := sane_m t ht
    have : b = true := hb'.2 hs
    subst this
    rw [hb, Option.bind_some]
    show m9_conns_Close_k2 t id (c, true) () = _
    unfold m9_conns_Close_k2
    have hfl : (fl (fun c => !decide (c.ID = id)) 0 t.L).length ≤ 8 := by
      have := congrArg List.length (fl_snd (fun c => !decide (c.ID = id)) t.L 0)
      rw [List.length_map] at this
      have h3 := List.length_filter_le (fun c : GConnsConn => !decide (c.ID = id)) t.L
      omega
    show (it39 t (fun c0 => m24_conns_Close_1s c0 id)).bind _ = _
    rw [it39_fl (hold := fun c0 => m24_conns_Close_1s c0 id) (p := fun c => !decide (c.ID = id)) (fun c => rfl) (by omega), Option.bind_some]
    rw [rangeL_app (fun _ => true) _ _ (by simp only [List.length_nil]; omega), Option.bind_some, fl_snd]
    rfl

theorem SaneT.filter {t : GConnsTable} (h : SaneT t) (p : GConnsConn → Bool) : SaneT ⟨t.L.filter p, t.Next⟩ :=
  ⟨Nat.le_trans (List.length_filter_le _ _) h.1, h.2.1, h.2.2.1, fun c hc => h.2.2.2.1 c (List.mem_filter.1 hc).1, h.2.2.2.2.filter _⟩

theorem SaneT.id_inj {t : GConnsTable} (h : SaneT t) {a b : GConnsConn} (ha : a ∈ t.L) (hb : b ∈ t.L) (e : a.ID = b.ID) : a = b := by
  obtain ⟨i, hi, rfl⟩ := List.getElem_of_mem ha
  obtain ⟨j, hj, rfl⟩ := List.getElem_of_mem hb
  rcases Nat.lt_trichotomy i j with hij | rfl | hij
  · have := (clash_no.1 (List.pairwise_iff_getElem.1 h.2.2.2.2 i j hi hj hij)).1; omega
  · rfl
  · have := (clash_no.1 (List.pairwise_iff_getElem.1 h.2.2.2.2 j i hj hi hij)).1; omega
end Go.Proofs.YtlnpkincpgbmcaaDoor.Abs.Cn
