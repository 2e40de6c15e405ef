/-
  What there is with writes laid over.
-/
import Derived.Test.YtmkcigfeebippaaK09
namespace Go.Proofs.Ytmkcigfeebippaa.Abs

def kvw (w : GApiWrite) : GApiKV := ⟨w.Key, w.Val⟩
def lstep (r : GApiRange) (t : List GApiKV) (x : GApiKV) : List GApiKV := if hasV r x.Key then mputK kvk t x else t
def wstep (r : GApiRange) (t : List GApiKV) (w : GApiWrite) : List GApiKV := if w.Del then mdelK kvk t w.Key else if hasV r w.Key then mputK kvk t (kvw w) else t
def ovL (b : List GApiWrite) (l : List GApiKV) (r : GApiRange) : List GApiKV := srtK kvk (b.foldl (wstep r) (l.foldl (lstep r) []))

theorem lfold_mem {r : GApiRange} : ∀ {l t : List GApiKV}, DistK kvk l → (∀ x ∈ t, ∀ y ∈ l, kvk x ≠ kvk y) → DistK kvk t → (∀ x, x ∈ l.foldl (lstep r) t ↔ x ∈ t ∨ (x ∈ l ∧ hasV r x.Key = true)) ∧ DistK kvk (l.foldl (lstep r) t)
  | [], t, _, _, hd => ⟨fun x => by simp, hd⟩
  | y :: l, t, h, hn, hd => by
    obtain ⟨h1, h2⟩ := List.pairwise_cons.1 h
    rw [List.foldl_cons]
    have hs : (∀ x, x ∈ lstep r t y ↔ x ∈ t ∨ (x = y ∧ hasV r y.Key = true)) ∧ DistK kvk (lstep r t y) := by
      unfold lstep
      cases hh : hasV r y.Key with
      | false => exact ⟨fun x => by simp, hd⟩
      | true =>
        rw [if_pos rfl]
        refine ⟨fun x => ?_, mput_dist hd y⟩
        rw [mput_mem]
        constructor
        · rintro (h | ⟨h, _⟩)
          · exact .inr ⟨h, rfl⟩
          · exact .inl h
        · rintro (h | ⟨h, _⟩)
          · exact .inr ⟨h, hn x h y (List.mem_cons_self ..)⟩
          · exact .inl h
    obtain ⟨i1, i2⟩ := lfold_mem (r := r) h2 (t := lstep r t y) (fun x hx z hz => by
      rcases (hs.1 x).1 hx with h | ⟨h, _⟩
      · exact hn x h z (List.mem_cons_of_mem _ hz)
      · rw [h]; exact h1 z hz) hs.2
    refine ⟨fun x => ?_, i2⟩
    rw [i1, hs.1, List.mem_cons]
    constructor
    · rintro ((h | ⟨h, h'⟩) | ⟨h, h'⟩)
      · exact .inl h
      · exact .inr ⟨.inl h, by rw [h]; exact h'⟩
      · exact .inr ⟨.inr h, h'⟩
    · rintro (h | ⟨h | h, h'⟩)
      · exact .inl (.inl h)
      · exact .inl (.inr ⟨h, by rw [← h]; exact h'⟩)
      · exact .inr ⟨h, h'⟩

theorem wfold_mem {r : GApiRange} : ∀ {b : List GApiWrite} {t : List GApiKV}, DistK wk b → (∀ x ∈ t, hasV r x.Key = true) → DistK kvk t →
    (∀ x, x ∈ b.foldl (wstep r) t ↔ (x ∈ t ∧ x.Key ∉ b.map wk) ∨ ∃ w ∈ b, w.Del = false ∧ hasV r w.Key = true ∧ x = kvw w) ∧ DistK kvk (b.foldl (wstep r) t)
  | [], t, _, _, hd => ⟨fun x => by simp, hd⟩
  | y :: b, t, h, hr, hd => by
    obtain ⟨h1, h2⟩ := List.pairwise_cons.1 h
    rw [List.foldl_cons]
    have hs : (∀ x, x ∈ wstep r t y ↔ (x ∈ t ∧ x.Key ≠ y.Key) ∨ (y.Del = false ∧ hasV r y.Key = true ∧ x = kvw y)) ∧ DistK kvk (wstep r t y) := by
      unfold wstep
      cases hdel : y.Del with
      | true =>
        rw [if_pos rfl]
        refine ⟨fun x => ?_, mdel_dist hd _⟩
        rw [mdel_mem]
        simp [kvk]
      | false =>
        rw [if_neg (by decide)]
        cases hh : hasV r y.Key with
        | false =>
          rw [if_neg (by decide)]
          refine ⟨fun x => ⟨fun hx => .inl ⟨hx, fun e => ?_⟩, fun hx => ?_⟩, hd⟩
          · have := hr x hx; rw [e, hh] at this; cases this
          · rcases hx with ⟨hx, _⟩ | ⟨_, hx, _⟩
            · exact hx
            · cases hx
        | true =>
          rw [if_pos rfl]
          refine ⟨fun x => ?_, mput_dist hd _⟩
          rw [mput_mem]
          constructor
          · rintro (h | h)
            · exact .inr ⟨rfl, rfl, h⟩
            · exact .inl h
          · rintro (h | ⟨_, _, h⟩)
            · exact .inr h
            · exact .inl h
    obtain ⟨i1, i2⟩ := wfold_mem (r := r) h2 (t := wstep r t y) (fun x hx => by
      rcases (hs.1 x).1 hx with ⟨h, _⟩ | ⟨_, h, e⟩
      · exact hr x h
      · rw [e]; exact h) hs.2
    refine ⟨fun x => ?_, i2⟩
    rw [i1, hs.1, List.map_cons, List.mem_cons]
    constructor
    · rintro (⟨⟨h, h'⟩ | ⟨hd', hr', e⟩, hb⟩ | ⟨w, hw, hx⟩)
      · exact .inl ⟨h, fun e => e.elim h' hb⟩
      · exact .inr ⟨y, List.mem_cons_self .., hd', hr', e⟩
      · exact .inr ⟨w, List.mem_cons_of_mem _ hw, hx⟩
    · rintro (⟨h, hb⟩ | ⟨w, hw, hx⟩)
      · exact .inl ⟨.inl ⟨h, fun e => hb (.inl e)⟩, fun e => hb (.inr e)⟩
      · rcases List.mem_cons.1 hw with rfl | hw
        · refine .inl ⟨.inr hx, fun hm => ?_⟩
          obtain ⟨z, hz, hk⟩ := List.mem_map.1 hm
          rw [hx.2.2] at hk
          exact h1 z hz hk.symm
        · exact .inr ⟨w, hw, hx⟩

theorem ov_fold {b : List GApiWrite} {l : List GApiKV} (r : GApiRange) (hb : RiseK wk b) (hl : RiseK kvk l) :
    (∀ x, x ∈ b.foldl (wstep r) (l.foldl (lstep r) []) ↔ (hasV r x.Key = true ∧ x ∈ l ∧ x.Key ∉ b.map wk) ∨ ∃ w ∈ b, w.Del = false ∧ hasV r w.Key = true ∧ x = kvw w) ∧ DistK kvk (b.foldl (wstep r) (l.foldl (lstep r) [])) := by
  obtain ⟨h1, h2⟩ := lfold_mem (r := r) (t := []) hl.dist (fun x hx => by simp at hx) List.Pairwise.nil
  obtain ⟨h3, h4⟩ := wfold_mem (r := r) hb.dist (t := l.foldl (lstep r) []) (fun x hx => by
    rcases (h1 x).1 hx with h | h
    · simp at h
    · exact h.2) h2
  refine ⟨fun x => ?_, h4⟩
  rw [h3, h1]
  simp only [List.not_mem_nil, false_or]
  constructor
  · rintro (⟨⟨a, b⟩, c⟩ | h)
    · exact .inl ⟨b, a, c⟩
    · exact .inr h
  · rintro (⟨b, a, c⟩ | h)
    · exact .inl ⟨⟨a, b⟩, c⟩
    · exact .inr h
theorem ov_mem {b : List GApiWrite} {l : List GApiKV} {r : GApiRange} (hb : RiseK wk b) (hl : RiseK kvk l) {x : GApiKV} :
    x ∈ ovL b l r ↔ (hasV r x.Key = true ∧ x ∈ l ∧ x.Key ∉ b.map wk) ∨ ∃ w ∈ b, w.Del = false ∧ hasV r w.Key = true ∧ x = kvw w := srtK_mem.trans ((ov_fold r hb hl).1 x)
theorem ov_rise {b : List GApiWrite} {l : List GApiKV} (r : GApiRange) (hb : RiseK wk b) (hl : RiseK kvk l) : RiseK kvk (ovL b l r) := srtK_rise (ov_fold r hb hl).2
theorem lfold_len (r : GApiRange) : ∀ (l t : List GApiKV), (l.foldl (lstep r) t).length ≤ t.length + l.length
  | [], t => by simp
  | y :: l, t => by
    have := lfold_len r l (lstep r t y)
    have h2 : (lstep r t y).length ≤ t.length + 1 := by
      unfold lstep mputK
      split
      · have := List.length_filter_le (fun z => !(kvk z == kvk y)) t
        rw [List.length_cons]; omega
      · omega
    rw [List.foldl_cons, List.length_cons]; omega
theorem wfold_len (r : GApiRange) : ∀ (b : List GApiWrite) (t : List GApiKV), (b.foldl (wstep r) t).length ≤ t.length + b.length
  | [], t => by simp
  | y :: l, t => by
    have := wfold_len r l (wstep r t y)
    have h2 : (wstep r t y).length ≤ t.length + 1 := by
      unfold wstep mputK mdelK
      split
      · have := List.length_filter_le (fun z => !(kvk z == y.Key)) t; omega
      · split
        · have := List.length_filter_le (fun z => !(kvk z == kvk (kvw y))) t
          rw [List.length_cons]; omega
        · omega
    rw [List.foldl_cons, List.length_cons]; omega
theorem ov_len (b : List GApiWrite) (l : List GApiKV) (r : GApiRange) : (ovL b l r).length ≤ l.length + b.length := by
  unfold ovL
  rw [(srtK_perm _).length_eq]
  have h1 := wfold_len r b (l.foldl (lstep r) [])
  have h2 := lfold_len r l []
  simp at h2
  omega

theorem risen_m {l : List GApiKV} (h : RiseK kvk l) (hl : l.length ≤ 1000000) : m31_buffer_risen l = some true := by
  unfold m31_buffer_risen
  obtain ⟨v, hv, hr⟩ := iterB_inv (f := m31_buffer_risen_s3 l) (P := fun s => ∃ j : Nat, j ≤ l.length ∧ s = ((j : Int), (l.take j).map kvk)) (μ := fun s => l.length - s.1.toNat) (R := fun v => v = l.map kvk) (by
    rintro _ ⟨j, hj, rfl⟩
    unfold m31_buffer_risen_s3
    dsimp only
    rcases Nat.lt_or_ge j l.length with hlt | hge
    · left
      rw [if_pos (decide_eq_true (by omega)), idx_nat, List.getElem?_eq_getElem hlt, Option.bind_some, if_pos (by rw [List.length_map, List.length_take, List.length_singleton]; omega), wI_id (by omega) (by omega)]
      refine ⟨_, rfl, ⟨j + 1, hlt, ?_⟩, by dsimp only; omega⟩
      rw [List.take_succ_eq_append_getElem hlt, List.map_append]; rfl
    · right
      have e : j = l.length := by omega
      subst e
      rw [if_neg (by rw [decide_eq_true_eq]; omega)]
      exact ⟨_, rfl, by rw [List.take_length]⟩) fuel (0, []) ⟨0, Nat.zero_le _, by simp⟩ (lt_fuel (by show l.length - 0 ≤ _; omega))
  rw [hv, hr]
  show m31_buffer_risen_k1 _ = _
  unfold m31_buffer_risen_k1
  rw [sorted_m (List.pairwise_map.2 h) (by rw [List.length_map]; omega)]
  rfl

theorem over_m {b : List GApiWrite} {l : List GApiKV} (r : GApiRange) {n : Int} (hb : Good b) (hl : RiseK kvk l) (hn : l.length ≤ 1000000) (h1 : 1 ≤ n) : m18_buffer_Over ⟨b⟩ l r n = some ((ovL b l r).take n.toNat) := by
  have hbl := hb.len
  unfold m18_buffer_Over
  rw [sane_m hb, Option.bind_some, if_neg (by decide), risen_m hl hn, Option.bind_some, if_neg (by decide), if_neg (by rw [decide_eq_true_eq]; omega)]
  have e1 := iterB_fold (f := overs1 l r) (fun (t : List GApiKV) (i : Nat) => ((i : Int), t)) l (lstep r) (fun t => t) (by omega) (fun acc i x hx => by
    have hlt := (List.getElem?_eq_some_iff.1 hx).1
    unfold overs1
    dsimp only
    rw [if_pos (decide_eq_true (by omega)), idx_nat, hx, Option.bind_some, has_m, Option.bind_some, wI_id (by omega) (by omega)]
    rfl) (fun acc => by
    unfold overs1
    dsimp only
    rw [if_neg (by rw [decide_eq_true_eq]; omega)]) []
  have e2 := iterB_fold (f := overs2 ⟨b⟩ r) (fun (t : List GApiKV) (i : Nat) => ((i : Int), t)) b (wstep r) (fun t => t) (by omega) (fun acc i x hx => by
    have hlt := (List.getElem?_eq_some_iff.1 hx).1
    unfold overs2 wstep
    dsimp only
    rw [if_pos (decide_eq_true (by omega)), idx_nat, hx, Option.bind_some, wI_id (by omega) (by omega)]
    cases hd : x.Del with
    | true => rfl
    | false =>
      rw [if_neg (by decide), has_m, Option.bind_some]
      rfl) (fun acc => by
    unfold overs2
    dsimp only
    rw [if_neg (by rw [decide_eq_true_eq]; omega)]) (l.foldl (lstep r) [])
  have e1' : iterB (overs1 l r) fuel (0, []) = some (l.foldl (lstep r) []) := e1
  have e2' : iterB (overs2 ⟨b⟩ r) fuel (0, l.foldl (lstep r) []) = some (b.foldl (wstep r) (l.foldl (lstep r) [])) := e2
  rw [e1', Option.bind_some]
  unfold overk1
  rw [e2', Option.bind_some]
  unfold overk2
  have hlen := ov_len b l r
  have hlen' : (b.foldl (wstep r) (l.foldl (lstep r) [])).length = (ovL b l r).length := (srtK_perm (kf := kvk) _).length_eq.symm
  rw [if_pos (by omega)]
  show cut (ovL b l r) 0 (if n < ((ovL b l r).length : Int) then n else ((ovL b l r).length : Int)) = _
  split
  · rw [cut_of (by omega) (by omega) (by omega)]; simp
  · rw [cut_of (by omega) (by omega) (by omega), List.take_of_length_le (l := ovL b l r) (by omega)]; simp

/-- Rising, as the document says it. -/
theorem rising_m {l : List GApiKV} (hk : ∀ x ∈ l, x.Key.length ≤ 1000000) (hl : l.length ≤ 1000000) : ∃ v, m16_r09_Rising l = some v ∧ (v = true ↔ RiseK kvk l) := by
  rcases Nat.lt_or_ge l.length 1 with h0 | h0
  · have : l = [] := List.eq_nil_of_length_eq_zero (by omega)
    subst this
    exact ⟨true, by decide +kernel, fun _ => List.Pairwise.nil, fun _ => rfl⟩
  obtain ⟨v, hv, hr⟩ := iter_inv (f := m16_r09_Rising_s2 l) (P := fun s => ∃ i : Nat, 1 ≤ i ∧ i ≤ l.length ∧ s = (i : Int) ∧ RiseK kvk (l.take i)) (μ := fun s => l.length - s.toNat)
    (R := fun x => match x with | .inl r => r = false ∧ ¬ RiseK kvk l | .inr _ => RiseK kvk l) (by
      rintro _ ⟨i, h1, hi, rfl, hp⟩
      unfold m16_r09_Rising_s2
      rcases Nat.lt_or_ge i l.length with hlt | hge
      · have hlt' : i - 1 < l.length := by omega
        rw [if_pos (decide_eq_true (by omega)), wI_id (by omega) (by omega), show (i : Int) - 1 = ((i - 1 : Nat) : Int) by omega, idx_nat, idx_nat, List.getElem?_eq_getElem hlt, List.getElem?_eq_getElem hlt', Option.bind_some, Option.bind_some, rcmp_m _ _ (by have := hk _ (List.getElem_mem hlt'); omega), Option.bind_some, wI_id (by omega) (by omega)]
        by_cases hc : 0 ≤ cmpL l[i - 1].Key l[i].Key
        · rw [if_pos (decide_eq_true hc)]
          refine .inr (.inr ⟨_, rfl, rfl, fun h => ?_⟩)
          have := (List.pairwise_iff_getElem.1 h) (i - 1) i hlt' hlt (by omega)
          have : cmpL l[i - 1].Key l[i].Key < 0 := this
          omega
        · rw [if_neg (by rw [decide_eq_true_eq]; exact hc)]
          refine .inl ⟨_, rfl, ⟨i + 1, by omega, by omega, rfl, ?_⟩, by simp only [Int.toNat_natCast]; omega⟩
          rw [List.take_succ_eq_append_getElem hlt]
          refine List.pairwise_append.2 ⟨hp, List.pairwise_singleton _ _, fun a ha c hc' => ?_⟩
          rw [List.mem_singleton.1 hc']
          have hlast : l.take i = l.take (i - 1) ++ [l[i - 1]] := by
            have := List.take_succ_eq_append_getElem hlt'
            rwa [show i - 1 + 1 = i by omega] at this
          have hc2 : cmpL (kvk l[i - 1]) (kvk l[i]) < 0 := by show cmpL l[i - 1].Key l[i].Key < 0; omega
          rw [hlast] at ha hp
          rcases List.mem_append.1 ha with ha | ha
          · have := (List.pairwise_append.1 hp).2.2 a ha _ (List.mem_singleton.2 rfl)
            exact (cmpL_trans (Int.le_of_lt this) (Int.le_of_lt hc2)).2 (.inl this)
          · rw [List.mem_singleton.1 ha]; exact hc2
      · have e : i = l.length := by omega
        subst e
        rw [if_neg (by rw [decide_eq_true_eq]; omega)]
        refine .inr (.inl ⟨_, rfl, ?_⟩)
        rw [List.take_length] at hp
        exact hp) fuel 1 ⟨1, Nat.le_refl _, h0, rfl, by
          match l, h0 with
          | x :: l, _ => exact List.pairwise_singleton _ _⟩ (lt_fuel (by show l.length - 1 ≤ _; omega))
  unfold m16_r09_Rising
  rw [hv]
  cases v with
  | inl r => exact ⟨r, rfl, fun h => (by rw [hr.1] at h; cases h), fun h => absurd h hr.2⟩
  | inr b => exact ⟨true, rfl, fun _ => hr, fun _ => rfl⟩

theorem key_small {b : List GApiWrite} (h : Good b) : ∀ w ∈ b, w.Key.length ≤ 1000 := fun w hw => by
  have h1 := h.sw w hw
  have h2 := sw_m w
  rw [h1] at h2
  unfold m23_buffer_saneWrite m35_keys_Sane at h2
  by_cases hc : (w.Key.length : Int) ≤ 16
  · omega
  · exfalso
    revert h2
    simp [hc]
    try split <;> simp
end Go.Proofs.Ytmkcigfeebippaa.Abs
