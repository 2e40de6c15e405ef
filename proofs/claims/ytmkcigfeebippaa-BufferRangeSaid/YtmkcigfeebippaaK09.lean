/-
  What writes are: laid in, got, laid over what there is.
-/
import Derived.Test.YtmkcigfeebippaaP09
namespace Go.Proofs.Ytmkcigfeebippaa.Abs

theorem scanR {α ρ : Type} (xs : List α) (p : α → Bool) (g : α → ρ) (f : Int → Option (LR Int Unit ρ)) (hl : xs.length ≤ 1000000000000000000)
    (h : ∀ (i : Nat) x, xs[i]? = some x → f (i : Int) = some (if p x then .ret (g x) else .cont ((i + 1 : Nat) : Int))) (hend : f (xs.length : Int) = some (.brk ())) :
    iter f fuel 0 = some (match xs.find? p with | some x => .inl (g x) | none => .inr ()) := by
  obtain ⟨v, hv, hr⟩ := iter_inv (f := f) (P := fun s => ∃ i : Nat, i ≤ xs.length ∧ s = (i : Int) ∧ xs.find? p = (xs.drop i).find? p) (μ := fun s => xs.length - s.toNat)
    (R := fun r => r = (match xs.find? p with | some x => Sum.inl (g x) | none => Sum.inr ())) (by
      rintro _ ⟨i, hi, rfl, hp⟩
      rcases Nat.lt_or_ge i xs.length with hlt | hge
      · have hx := List.getElem?_eq_getElem hlt
        have hf := h i _ hx
        have hd : xs.drop i = xs[i] :: xs.drop (i + 1) := List.drop_eq_getElem_cons hlt
        cases hpx : p xs[i] with
        | true =>
          rw [hpx, if_pos rfl] at hf
          refine .inr (.inr ⟨_, hf, ?_⟩)
          rw [hp, hd, List.find?_cons, hpx]
        | false =>
          rw [hpx, if_neg (by decide)] at hf
          refine .inl ⟨_, hf, ⟨i + 1, hlt, rfl, ?_⟩, by simp only [Int.toNat_natCast]; omega⟩
          rw [hp, hd, List.find?_cons, hpx]
      · have e : i = xs.length := by omega
        subst e
        refine .inr (.inl ⟨(), hend, ?_⟩)
        rw [hp, List.drop_length]; rfl) fuel 0 ⟨0, Nat.zero_le _, rfl, rfl⟩ (lt_fuel (by show xs.length - 0 ≤ _; omega))
  rw [hv, hr]

def wk (x : GApiWrite) : List UInt8 := x.Key
def swV (w : GApiWrite) : Bool := (m23_buffer_saneWrite w).getD false
theorem sw_m (w : GApiWrite) : m23_buffer_saneWrite w = some (swV w) := by
  have : ∃ b, m23_buffer_saneWrite w = some b := by
    unfold m23_buffer_saneWrite m35_keys_Sane
    repeat' (first | exact ⟨_, rfl⟩ | split | dsimp only [Option.bind_some])
  obtain ⟨b, hb⟩ := this
  unfold swV
  rw [hb]; rfl

structure Good (b : List GApiWrite) : Prop where
  sw : ∀ w ∈ b, swV w = true
  len : b.length ≤ 16
  rise : RiseK wk b
theorem Good.nil : Good [] := ⟨fun w h => (by simp at h), by decide, List.Pairwise.nil⟩

theorem pw_rise {α : Type} {kf : α → List UInt8} {l : List α} : PW (l.map kf) ↔ RiseK kf l := List.pairwise_map

theorem keysOf_m {b : List GApiWrite} (hb : b.length ≤ 1000000) : m25_buffer_keysOf ⟨b⟩ = some (b.map wk) := by
  unfold m25_buffer_keysOf
  obtain ⟨v, hv, hr⟩ := iterB_inv (f := m25_buffer_keysOf_s2 ⟨b⟩) (P := fun s => ∃ j : Nat, j ≤ b.length ∧ s = ((j : Int), (b.take j).map wk)) (μ := fun s => b.length - s.1.toNat) (R := fun v => v = b.map wk) (by
    rintro _ ⟨j, hj, rfl⟩
    unfold m25_buffer_keysOf_s2
    dsimp only
    rcases Nat.lt_or_ge j b.length with hlt | hge
    · left
      rw [if_pos (decide_eq_true (by omega)), idx_nat, List.getElem?_eq_getElem hlt, Option.bind_some, if_pos (by rw [List.length_map, List.length_take, List.length_singleton]; omega), wI_id (by omega) (by omega)]
      refine ⟨_, rfl, ⟨j + 1, hlt, ?_⟩, by dsimp only; omega⟩
      rw [List.take_succ_eq_append_getElem hlt, List.map_append]; rfl
    · right
      have e : j = b.length := by omega
      subst e
      rw [if_neg (by rw [decide_eq_true_eq]; omega)]
      exact ⟨_, rfl, by rw [List.take_length]⟩) fuel (0, []) ⟨0, Nat.zero_le _, by simp⟩ (lt_fuel (by show b.length - 0 ≤ _; omega))
  rw [hv, hr]; rfl

theorem find_none {α : Type} {xs : List α} {p : α → Bool} (h : ∀ x ∈ xs, p x = false) : xs.find? p = none := List.find?_eq_none.2 fun x hx => by rw [h x hx]; decide

theorem sane_m {b : List GApiWrite} (h : Good b) : m13_buffer_Sane ⟨b⟩ = some true := by
  have hl := h.len
  unfold m13_buffer_Sane
  rw [scanR b (fun w => !swV w) (fun _ => false) (m13_buffer_Sane_s4 ⟨b⟩) (by omega) (fun i x hx => by
    have hlt := (List.getElem?_eq_some_iff.1 hx).1
    unfold m13_buffer_Sane_s4
    dsimp only
    rw [if_pos (decide_eq_true (by omega)), idx_nat, hx, Option.bind_some, sw_m, Option.bind_some, wI_id (by omega) (by omega)]
    cases swV x <;> rfl) (by
    unfold m13_buffer_Sane_s4
    dsimp only
    rw [if_neg (by rw [decide_eq_true_eq]; omega)]), find_none (fun x hx => by rw [h.sw x hx]; rfl)]
  show m13_buffer_Sane_k1 ⟨b⟩ () = _
  unfold m13_buffer_Sane_k1
  dsimp only
  rw [if_pos (decide_eq_true (by omega)), keysOf_m (by omega), Option.bind_some, sorted_m (pw_rise.2 h.rise) (by rw [List.length_map]; omega), Option.bind_some]

/-- What a write more makes. -/
def setR (b : List GApiWrite) (w : GApiWrite) : List GApiWrite := srtK wk (mputK wk b w)
theorem mput_dist {α : Type} {kf : α → List UInt8} {t : List α} (h : DistK kf t) (x : α) : DistK kf (mputK kf t x) := by
  refine List.pairwise_cons.2 ⟨fun y hy => ?_, h.sublist (List.filter_sublist ..)⟩
  have := (List.mem_filter.1 hy).2
  intro e
  rw [e] at this
  simp at this
theorem mdel_dist {α : Type} {kf : α → List UInt8} {t : List α} (h : DistK kf t) (k : List UInt8) : DistK kf (mdelK kf t k) := h.sublist (List.filter_sublist ..)
theorem mput_mem {α : Type} {kf : α → List UInt8} {t : List α} {x y : α} : y ∈ mputK kf t x ↔ y = x ∨ (y ∈ t ∧ kf y ≠ kf x) := by
  unfold mputK
  rw [List.mem_cons, List.mem_filter]
  simp
theorem mdel_mem {α : Type} {kf : α → List UInt8} {t : List α} {k : List UInt8} {y : α} : y ∈ mdelK kf t k ↔ y ∈ t ∧ kf y ≠ k := by
  unfold mdelK
  rw [List.mem_filter]
  simp
theorem setR_mem {b : List GApiWrite} {w x : GApiWrite} : x ∈ setR b w ↔ x = w ∨ (x ∈ b ∧ wk x ≠ wk w) := srtK_mem.trans mput_mem
theorem setR_rise {b : List GApiWrite} (h : RiseK wk b) (w : GApiWrite) : RiseK wk (setR b w) := srtK_rise (mput_dist h.dist w)

theorem kat_mem {b : List GApiWrite} (h : RiseK wk b) {k : List UInt8} : hit (b.map wk) k = true ↔ k ∈ b.map wk := hit_iff (pw_rise.2 h)

/-- In place of the one that the key had. -/
theorem set_there {b : List GApiWrite} (h : RiseK wk b) {w : GApiWrite} (hh : hit (b.map wk) (wk w) = true) : b.set (kat (b.map wk) (wk w)) w = setR b w := by
  have hk : (b.map wk)[kat (b.map wk) (wk w)]? = some (wk w) := by
    unfold hit at hh
    exact beq_iff_eq.1 hh
  obtain ⟨p1, _, p3⟩ := mput_at (List.Perm.refl b) h.dist (x := w) hk
  refine rise_eq ?_ (setR_rise h w) (p1.trans (srtK_perm _).symm)
  have e : (b.set (kat (b.map wk) (wk w)) w).map wk = b.map wk := (mput_at (List.Perm.refl b) h.dist (x := w) hk).2.1
  exact pw_rise.1 (by rw [e]; exact pw_rise.2 h)
theorem set_new {b : List GApiWrite} (h : RiseK wk b) {w : GApiWrite} (hh : hit (b.map wk) (wk w) = false) : b.take (kat (b.map wk) (wk w)) ++ w :: b.drop (kat (b.map wk) (wk w)) = setR b w := by
  have hk : wk w ∉ b.map wk := fun hm => by rw [(kat_mem h).2 hm] at hh; cases hh
  have hp : (b.take (kat (b.map wk) (wk w)) ++ w :: b.drop (kat (b.map wk) (wk w))).Perm (w :: b) := by
    refine List.perm_middle.trans ?_
    rw [List.take_append_drop]
  have hf : mputK wk b w = w :: b := by unfold mputK; rw [filt_none hk]
  refine rise_eq ?_ (setR_rise h w) (hp.trans (by rw [← hf]; exact (srtK_perm _).symm))
  have hi := ins_pw (k := wk w) (pw_rise.2 h)
  unfold ins at hi
  rw [if_neg (by rw [hh]; decide)] at hi
  refine pw_rise.1 ?_
  rw [List.map_append, List.map_cons, List.map_take, List.map_drop]
  exact hi
theorem setR_len {b : List GApiWrite} (h : RiseK wk b) (w : GApiWrite) : (setR b w).length = if hit (b.map wk) (wk w) = true then b.length else b.length + 1 := by
  cases hh : hit (b.map wk) (wk w) with
  | true => rw [← set_there h hh, if_pos rfl, List.length_set]
  | false =>
    rw [← set_new h hh, if_neg (by decide), List.length_append, List.length_cons, List.length_take, List.length_drop]
    have := kat_le (b.map wk) (wk w)
    rw [List.length_map] at this
    omega

theorem set_ok {b : List GApiWrite} (h : Good b) {w : GApiWrite} (hw : swV w = true) (hr : wk w ∈ b.map wk ∨ b.length < 16) : m10_buffer_Set ⟨b⟩ w = some (⟨setR b w⟩, 0) ∧ Good (setR b w) := by
  have hl := h.len
  have hg : Good (setR b w) := by
    refine ⟨fun x hx => ?_, ?_, setR_rise h.rise w⟩
    · rcases setR_mem.1 hx with rfl | ⟨hx, _⟩
      · exact hw
      · exact h.sw x hx
    · rw [setR_len h.rise]
      split
      · exact hl
      · rename_i hn
        rcases hr with hr | hr
        · exact absurd ((kat_mem h.rise).2 hr) hn
        · omega
  refine ⟨?_, hg⟩
  unfold m10_buffer_Set
  rw [show (⟨(GBufferBuf.mk b).L⟩ : GBufferBuf) = ⟨b⟩ from rfl, sane_m h, Option.bind_some, show (⟨w.Key, w.Val, w.Del⟩ : GApiWrite) = w from rfl, sw_m, Option.bind_some, hw]
  unfold m10_buffer_Set_k1
  rw [keysOf_m (by omega), Option.bind_some, find_m _ _ (by rw [List.length_map]; omega), Option.bind_some]
  dsimp only
  rw [m26_slices_Cloneo_m _ (by omega), Option.bind_some]
  have hkl := kat_le (b.map wk) (wk w)
  rw [List.length_map] at hkl
  rw [if_neg (by decide), if_neg (by decide)]
  cases hh : hit (b.map wk) w.Key with
  | true =>
    have hlt := hit_lt hh
    rw [List.length_map] at hlt
    rw [if_pos rfl, idx_nat, List.getElem?_eq_getElem hlt, Option.bind_some, Int.toNat_natCast]
    exact congrArg (fun l => some (GBufferBuf.mk l, (0 : Int))) (set_there h.rise hh)
  | false =>
    have hlt : b.length < 16 := by
      rcases hr with hr | hr
      · have := (kat_mem h.rise).2 hr
        rw [show wk w = w.Key from rfl, hh] at this; cases this
      · exact hr
    rw [if_neg (by decide), if_neg (by rw [decide_eq_true_eq]; omega)]
    unfold m27_slices_Insert insM
    dsimp only
    rw [if_pos ⟨⟨Int.natCast_nonneg _, by show ((kat (b.map wk) (wk w) : Nat) : Int) ≤ _; omega⟩, by omega⟩, Option.bind_some, Int.toNat_natCast]
    exact congrArg (fun l => some (GBufferBuf.mk l, (0 : Int))) (set_new h.rise hh)

theorem set_bad {b : List GApiWrite} (h : Good b) {w : GApiWrite} (hn : ¬ (swV w = true ∧ (wk w ∈ b.map wk ∨ b.length < 16))) : ∃ e : Int, e ≠ 0 ∧ (swV w = true → e = 8) ∧ m10_buffer_Set ⟨b⟩ w = some (⟨[]⟩, e) := by
  have hl := h.len
  unfold m10_buffer_Set
  rw [show (⟨(GBufferBuf.mk b).L⟩ : GBufferBuf) = ⟨b⟩ from rfl, sane_m h, Option.bind_some, show (⟨w.Key, w.Val, w.Del⟩ : GApiWrite) = w from rfl, sw_m, Option.bind_some, if_neg (by decide)]
  cases hw : swV w with
  | false => exact ⟨1, by decide, fun h => (by cases h), rfl⟩
  | true =>
    have hn2 : ¬ (wk w ∈ b.map wk ∨ b.length < 16) := fun h => hn ⟨hw, h⟩
    have hh : hit (b.map wk) w.Key = false := by
      cases hh : hit (b.map wk) w.Key with
      | false => rfl
      | true => exact absurd (.inl ((kat_mem h.rise).1 hh)) hn2
    unfold m10_buffer_Set_k1
    rw [if_neg (by decide), keysOf_m (by omega), Option.bind_some, find_m _ _ (by rw [List.length_map]; omega), Option.bind_some]
    dsimp only
    rw [m26_slices_Cloneo_m _ (by omega), Option.bind_some, hh, if_neg (by decide), if_pos (decide_eq_true (by omega))]
    exact ⟨8, by decide, fun _ => rfl, rfl⟩

/-- A write laid in, or not: all that may come of it. -/
theorem set_any {b : List GApiWrite} (h : Good b) (w : GApiWrite) : (m10_buffer_Set ⟨b⟩ w = some (⟨setR b w⟩, 0) ∧ Good (setR b w) ∧ swV w = true) ∨ ∃ e : Int, e ≠ 0 ∧ m10_buffer_Set ⟨b⟩ w = some (⟨[]⟩, e) := by
  by_cases hc : swV w = true ∧ (wk w ∈ b.map wk ∨ b.length < 16)
  · obtain ⟨h1, h2⟩ := set_ok h hc.1 hc.2
    exact .inl ⟨h1, h2, hc.1⟩
  · obtain ⟨e, h1, _, h2⟩ := set_bad h hc
    exact .inr ⟨e, h1, h2⟩

theorem get_m {b : List GApiWrite} (hl : b.length ≤ 1000000) (k : List UInt8) : m11_buffer_Get ⟨b⟩ k = some (match b.find? (fun w => w.Key == k) with | some w => (w, true) | none => (⟨[], [], false⟩, false)) := by
  unfold m11_buffer_Get
  rw [scanR b (fun w => w.Key == k) (fun w => (w, true)) (m11_buffer_Get_s2 ⟨b⟩ k) (by omega) (fun i x hx => by
    have hlt := (List.getElem?_eq_some_iff.1 hx).1
    unfold m11_buffer_Get_s2 m28_bytes_Equal
    dsimp only
    rw [if_pos (decide_eq_true (by omega)), idx_nat, hx, Option.bind_some, Option.bind_some, wI_id (by omega) (by omega)]
    cases (x.Key == k) <;> rfl) (by
    unfold m11_buffer_Get_s2
    dsimp only
    rw [if_neg (by rw [decide_eq_true_eq]; omega)])]
  cases b.find? (fun w => w.Key == k) <;> rfl
theorem get_some {α : Type} {kf : α → List UInt8} {b : List α} (h : DistK kf b) {w : α} (hw : w ∈ b) : b.find? (fun x => kf x == kf w) = some w := by
  induction b with
  | nil => simp at hw
  | cons x b ih =>
    obtain ⟨h1, h2⟩ := List.pairwise_cons.1 h
    rcases List.mem_cons.1 hw with rfl | hw
    · rw [List.find?_cons]; simp
    · rw [List.find?_cons, show (kf x == kf w) = false from by simpa using h1 w hw]
      exact ih h2 hw
theorem get_none {α : Type} {kf : α → List UInt8} {b : List α} {k : List UInt8} (h : ∀ w ∈ b, kf w ≠ k) : b.find? (fun x => kf x == k) = none := find_none fun x hx => by simpa using h x hx

theorem same_m {xs : List GApiWrite} (hl : xs.length ≤ 1000000) : m12_r09_Same xs xs = some true := by
  unfold m12_r09_Same
  rw [decide_eq_true rfl, if_neg (by decide), scanR xs (fun _ => false) (fun _ => false) (m12_r09_Same_s2 xs xs) (by omega) (fun i x hx => by
    have hlt := (List.getElem?_eq_some_iff.1 hx).1
    unfold m12_r09_Same_s2
    rw [if_pos (decide_eq_true (by omega)), idx_nat, hx, Option.bind_some, Option.bind_some, wI_id (by omega) (by omega)]
    simp) (by
    unfold m12_r09_Same_s2
    rw [if_neg (by rw [decide_eq_true_eq]; omega)]), find_none (fun _ _ => rfl)]
  rfl
theorem kvs_m {xs : List GApiKV} (hl : xs.length ≤ 1000000) : m21_r05_KVs xs xs = some true := by
  unfold m21_r05_KVs
  rw [decide_eq_true rfl, if_neg (by decide), scanR xs (fun _ => false) (fun _ => false) (m21_r05_KVs_s2 xs xs) (by omega) (fun i x hx => by
    have hlt := (List.getElem?_eq_some_iff.1 hx).1
    unfold m21_r05_KVs_s2
    rw [if_pos (decide_eq_true (by omega)), idx_nat, hx, Option.bind_some, Option.bind_some, wI_id (by omega) (by omega)]
    simp) (by
    unfold m21_r05_KVs_s2
    rw [if_neg (by rw [decide_eq_true_eq]; omega)]), find_none (fun _ _ => rfl)]
  rfl
theorem fewW_m (l : List GApiWrite) : ∃ b, m9_r08_FewWrites l = some b ∧ (b = true → l.length ≤ 140 ∧ ∀ w ∈ l, w.Key.length ≤ 50) := by
  unfold m9_r08_FewWrites
  by_cases h : 140 < (l.length : Int)
  · rw [if_pos (decide_eq_true h)]; exact ⟨false, rfl, fun h => (by cases h)⟩
  rw [if_neg (by rw [decide_eq_true_eq]; exact h), scanR l (fun w => decide (50 < (w.Key.length : Int)) || decide (100 < (w.Val.length : Int))) (fun _ => false) (m9_r08_FewWrites_s2 l) (by omega) (fun i x hx => by
    have hlt := (List.getElem?_eq_some_iff.1 hx).1
    unfold m9_r08_FewWrites_s2
    rw [if_pos (decide_eq_true (by omega)), idx_nat, hx, Option.bind_some, Option.bind_some, wI_id (by omega) (by omega)]
    cases decide (50 < (x.Key.length : Int)) <;> cases decide (100 < (x.Val.length : Int)) <;> rfl) (by
    unfold m9_r08_FewWrites_s2
    rw [if_neg (by rw [decide_eq_true_eq]; omega)])]
  cases hf : l.find? (fun w => decide (50 < (w.Key.length : Int)) || decide (100 < (w.Val.length : Int))) with
  | some w => exact ⟨false, rfl, fun h => (by cases h)⟩
  | none =>
    refine ⟨true, rfl, fun _ => ⟨by omega, fun w hw => ?_⟩⟩
    have := List.find?_eq_none.1 hf w hw
    simp at this
    omega
theorem short_l (l : List GApiKV) : ∃ b, m14_l09_short l = some b ∧ (b = true → l.length ≤ 60 ∧ ∀ w ∈ l, w.Key.length ≤ 50) := by
  unfold m14_l09_short
  by_cases h : 60 < (l.length : Int)
  · rw [if_pos (decide_eq_true h)]; exact ⟨false, rfl, fun h => (by cases h)⟩
  rw [if_neg (by rw [decide_eq_true_eq]; exact h), scanR l (fun w => decide (50 < (w.Key.length : Int)) || decide (100 < (w.Val.length : Int))) (fun _ => false) (m14_l09_short_s2 l) (by omega) (fun i x hx => by
    have hlt := (List.getElem?_eq_some_iff.1 hx).1
    unfold m14_l09_short_s2
    rw [if_pos (decide_eq_true (by omega)), idx_nat, hx, Option.bind_some, Option.bind_some, wI_id (by omega) (by omega)]
    cases decide (50 < (x.Key.length : Int)) <;> cases decide (100 < (x.Val.length : Int)) <;> rfl) (by
    unfold m14_l09_short_s2
    rw [if_neg (by rw [decide_eq_true_eq]; omega)])]
  cases hf : l.find? (fun w => decide (50 < (w.Key.length : Int)) || decide (100 < (w.Val.length : Int))) with
  | some w => exact ⟨false, rfl, fun h => (by cases h)⟩
  | none =>
    refine ⟨true, rfl, fun _ => ⟨by omega, fun w hw => ?_⟩⟩
    have := List.find?_eq_none.1 hf w hw
    simp at this
    omega

theorem awake09 : m8_l09_awake = some true := by decide +kernel
end Go.Proofs.Ytmkcigfeebippaa.Abs
