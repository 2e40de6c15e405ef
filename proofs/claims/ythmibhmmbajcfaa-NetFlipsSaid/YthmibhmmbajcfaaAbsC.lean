/-
  A walk over abstract states: its rules, part C.
-/
import Derived.Test.YthmibhmmbajcfaaAbsA
import Derived.SizedLaws
import Derived.OpenShut
import Derived.Test.YthmibhmmbajcfaaAbsB
/-
  The frame, where each slice that came is no longer than may be.
-/
namespace Go.Proofs.Ythmibhmmbajcfaa.Abs
open Go.RowKit
def arrF (P : Program) (n : Nat) (e : TypeId) : List Field := (List.range n).map fun i => { name := "", type := e, offset := i * P.cellsOf e, embedded := false, tag := "", pkgPath := "", byteOffset := 0 }
def okZ (P : Program) : Sh → TypeId ⊕ (List Field × Nat) → Bool
  | .int k, .inl t => match P.underlying t with | some (.int k') => k' == k | _ => false
  | .bool, .inl t => match P.underlying t with | some .bool => true | _ => false
  | .str, .inl t => match P.underlying t with | some .string => true | _ => false
  | .sl e, .inl t => match P.underlying t with | some (.slice t') => okZ P e (.inl t') && (P.cellsOf t' == e.cells && decide (0 < e.cells)) | _ => false
  | .st r, .inl t => match P.underlying t with
    | some (.struct fs) => okZ P r (.inr (fs.toList, 0)) && P.cellsOf t == r.cells
    | some (.array n e) => okZ P r (.inr (arrF P n e, 0)) && P.cellsOf t == r.cells
    | _ => false
  | .unit, .inr ([], _) => true
  | .pair a r, .inr (f :: fs, off) => f.offset == off && (P.cellsOf f.type == a.cells && (okZ P a (.inl f.type) && okZ P r (.inr (fs, off + a.cells))))
  | _, _ => false
def okParamsZ (P : Program) : List Sh → List TypeId → Bool
  | [], [] => true
  | sh :: shs, t :: ts => okZ P sh (.inl t) && (P.readableRec t && (decide (t < P.types.size) && okParamsZ P shs ts))
  | _, _ => false
def Fz (P : Program) : Sh → TypeId ⊕ List Field → List Lf → Prop
  | .int k, _, ls => Fits (.int k) ls
  | .bool, _, ls => Fits .bool ls
  | .str, _, ls => Fits .str ls
  | .sl e, .inl t, ls => ∃ (t' : TypeId) (rows : List (List Lf)), P.underlying t = some (.slice t') ∧ rows.length ≤ maxLen ∧ rows.length * P.bytesOf t' ≤ reachBytes ∧ (∀ r ∈ rows, Fz P e (.inl t') r) ∧ ls = [.sl rows.length rows.flatten]
  | .st r, .inl t, ls => (∃ fs, P.underlying t = some (.struct fs) ∧ Fz P r (.inr fs.toList) ls) ∨ ∃ n e, P.underlying t = some (.array n e) ∧ Fz P r (.inr (arrF P n e)) ls
  | .unit, _, ls => ls = []
  | .pair a r, .inr (f :: fs), ls => ∃ x y, Fz P a (.inl f.type) x ∧ Fz P r (.inr fs) y ∧ ls = x ++ y
  | _, _, _ => False
theorem fz_fits {P : Program} : ∀ {sh : Sh} {m : TypeId ⊕ List Field} {ls : List Lf}, Fz P sh m ls → Fits sh ls := by
  intro sh
  induction sh with
  | int k => intro m ls h; exact h
  | bool => intro m ls h; exact h
  | str => intro m ls h; exact h
  | sl e ih =>
    intro m ls h
    cases m with
    | inr _ => exact h.elim
    | inl t =>
      obtain ⟨t', rows, _, h1, _, h2, rfl⟩ := h
      exact ⟨rows, h1, fun r hr => ih (h2 r hr), rfl⟩
  | st r ih =>
    intro m ls h
    cases m with
    | inr _ => exact h.elim
    | inl t =>
      rcases h with ⟨fs, _, h⟩ | ⟨n, e, _, h⟩ <;> exact ih h
  | unit => intro m ls h; exact h
  | pair a r iha ihr =>
    intro m ls h
    cases m with
    | inl t => exact h.elim
    | inr fs =>
      cases fs with
      | nil => exact h.elim
      | cons f fs =>
        obtain ⟨x, y, h1, h2, rfl⟩ := h
        exact ⟨x, y, iha h1, ihr h2, rfl⟩
section
variable {H : Type} {enc : TypeId × Value → H} {P : Program} {w : World} {spare : Nat → Bool} {held : Bool} {base : Nat}
theorem weights_mem_all {e : TypeId} : ∀ {l : List (DataW H)} {d : DataW H}, d ∈ l → ∀ n ∈ d.weights P e, n ∈ DataW.weightsAll P e l
  | x :: l, d, h, n, hn => by
    simp only [DataW.weightsAll, List.mem_append]
    rcases List.mem_cons.1 h with rfl | h
    · exact .inl hn
    · exact .inr (weights_mem_all h n hn)
theorem openedz (sh : Sh) :
    (∀ (t : TypeId) (fuel : Nat) (cs : List Value) (x : DataW H × List MemPlace), okZ P sh (.inl t) = true → DataW.trod enc P w base spare held fuel t cs = some x → (∀ n ∈ x.1.weights P t, n ≤ reachBytes) →
      ∃ ls, Fz P sh (.inl t) ls ∧ ls.length = sh.cells ∧ LsR (Rep w (allS w)) ls cs) ∧
    (∀ (fs : List Field) (off fuel : Nat) (cs : List Value), okZ P sh (.inr (fs, off)) = true → off + sh.cells = cs.length →
      (∀ f ∈ fs, ∃ x, DataW.trod enc P w base spare held fuel f.type ((cs.drop f.offset).take (P.cellsOf f.type)) = some x ∧ ∀ n ∈ x.1.weights P f.type, n ≤ reachBytes) →
      ∃ ls, Fz P sh (.inr fs) ls ∧ ls.length = sh.cells ∧ LsR (Rep w (allS w)) ls (cs.drop off)) := by
  have lsone : ∀ {l : Lf} {v : Value}, Rep w (allS w) l v → LsR (Rep w (allS w)) [l] [v] := fun {l v} h => ⟨rfl, fun j a b h1 h2 => by
    cases j with
    | zero => simp at h1 h2; subst h1; subst h2; exact h
    | succ j => simp at h1⟩
  induction sh with
  | int k =>
    refine ⟨fun t fuel cs x ht h hz => ?_, fun fs off fuel cs ht => by simp [okZ] at ht⟩
    simp only [okZ] at ht
    split at ht
    · rename_i k' hu
      have hk : k' = k := by simpa using ht
      subst hk
      obtain ⟨n, hcs, hx, hw⟩ := DataW.trod_int hu h
      subst hcs
      exact ⟨_, ⟨n, hw, rfl⟩, rfl, lsone (.i _ _)⟩
    · cases ht
  | bool =>
    refine ⟨fun t fuel cs x ht h hz => ?_, fun fs off fuel cs ht => by simp [okZ] at ht⟩
    simp only [okZ] at ht
    split at ht
    · rename_i hu
      obtain ⟨b, hcs, _⟩ := DataW.trod_bool hu h
      subst hcs
      exact ⟨_, ⟨b, rfl⟩, rfl, lsone (.b _)⟩
    · cases ht
  | str =>
    refine ⟨fun t fuel cs x ht h hz => ?_, fun fs off fuel cs ht => by simp [okZ] at ht⟩
    simp only [okZ] at ht
    split at ht
    · rename_i hu
      obtain ⟨b, hcs, _, hs⟩ := DataW.trod_string hu h
      subst hcs
      exact ⟨_, ⟨b, hs, rfl⟩, rfl, lsone (.s _)⟩
    · cases ht
  | sl e ih =>
    refine ⟨fun t fuel cs x ht h hz => ?_, fun fs off fuel cs ht => by simp [okZ] at ht⟩
    simp only [okZ] at ht
    split at ht
    · rename_i t' hu
      simp only [Bool.and_eq_true, beq_iff_eq, decide_eq_true_eq] at ht
      obtain ⟨hok, hcell, hpos⟩ := ht
      rcases DataW.trod_slice hu h with ⟨hcs, _⟩ | ⟨a, len, cap, elems, rest, fuel, rfl, hcs, hxe, _, hlc, hcm, hl, hi, _⟩
      · subst hcs
        exact ⟨[.sl 0 []], ⟨t', [], hu, by simp, by simp, fun r hr => by simp at hr, rfl⟩, rfl, lsone (.sl0 _ _)⟩
      · subst hcs
        by_cases h0 : len = 0
        · subst h0
          exact ⟨[.sl 0 []], ⟨t', [], hu, by simp, by simp, fun r hr => by simp at hr, rfl⟩, rfl, lsone (.sl0 _ _)⟩
        · have helem : ∀ i, i < len → ∃ ys, w.cells? base (a.add (i * P.cellsOf t')) (P.cellsOf t') = some ys ∧ ∃ x, DataW.trod enc P w base spare held fuel t' ys = some x ∧ ∀ n ∈ x.1.weights P t', n ≤ reachBytes := by
            intro i hlt
            have hx := hi i hlt
            have : elems[i]? = some (elems[i]'(by omega)) := List.getElem?_eq_getElem _
            rw [this] at hx
            cases hc : w.cells? base (a.add (i * P.cellsOf t')) (P.cellsOf t') with
            | none => rw [hc] at hx; simp at hx
            | some ys =>
              rw [hc] at hx
              refine ⟨ys, rfl, _, hx, fun m hm => hz m ?_⟩
              rw [hxe]
              simp only [DataW.weights, hu]
              exact List.mem_cons_of_mem _ (List.mem_append_left _ (weights_mem_all (List.mem_map.2 ⟨_, List.getElem_mem _, rfl⟩) m hm))
          have hspot : a.spot = none := by
            obtain ⟨ys, hc, _⟩ := helem 0 (by omega)
            obtain ⟨hyl, hyc⟩ := cells_get hc
            have hy := hyc 0 (by omega)
            rw [List.getElem?_eq_getElem (by omega)] at hy
            have := (cell_lt hy).2
            simpa [Addr.add] using this
          have hadd : ∀ n m, (a.add n).add m = ⟨a.block, a.off + (n + m), none⟩ := by
            intro n m
            obtain ⟨ab, ao, asp⟩ := a
            simp only at hspot
            subst hspot
            unfold Addr.add
            by_cases hn : n = 0 <;> by_cases hm : m = 0 <;> simp [hn, hm] <;> omega
          obtain ⟨rows, r1, r2, r3, r4⟩ := rows_built (w := w) (bk := a.block) (off := a.off) (sz := e.cells) (Q := Fz P e (.inl t')) len (fun i hlt => by
            obtain ⟨ys, hc, x, hx, hw⟩ := helem i hlt
            obtain ⟨ls, f1, f2, f3⟩ := ih.1 t' fuel ys x hok hx hw
            obtain ⟨hyl, hyc⟩ := cells_get hc
            refine ⟨ls, f1, f2, fun j l hj => ?_⟩
            obtain ⟨v, hv, hr⟩ := f3.get hj
            have hjl : j < ys.length := (List.getElem?_eq_some_iff.1 hv).1
            have := hyc j (by omega)
            rw [hadd, hv, hcell] at this
            exact ⟨v, this, hr⟩)
          have hb : rows.length * P.bytesOf t' ≤ reachBytes := by
            have := hz ((elems.length + rest.length) * P.bytesOf t') (by rw [hxe]; simp [DataW.weights, hu])
            rw [r1, ← hl]
            exact Nat.le_trans (Nat.mul_le_mul_right _ (Nat.le_add_right _ _)) this
          refine ⟨[.sl rows.length rows.flatten], ⟨t', rows, hu, by omega, hb, r2, rfl⟩, rfl, lsone ?_⟩
          have ea : a = ⟨a.block, a.off, none⟩ := by
            obtain ⟨ab, ao, asp⟩ := a
            simp only at hspot
            subst hspot
            rfl
          rw [ea, r1]
          refine Rep.sl len rows.flatten a.block a.off cap (fun j => (w.cell? ⟨a.block, a.off + j, none⟩).getD undef) hlc hcm (fun j l hj => ?_) (fun j l hj => ?_)
          · obtain ⟨v, hv, _⟩ := r4 j l hj
            exact ⟨(cell_lt hv).1, by rw [hv]; rfl⟩
          · obtain ⟨v, hv, hr⟩ := r4 j l hj
            show Rep w (allS w) l ((w.cell? ⟨a.block, a.off + j, none⟩).getD undef)
            rw [hv]; exact hr
    · cases ht
  | st r ih =>
    refine ⟨fun t fuel cs x ht h hz => ?_, fun fs off fuel cs ht => by simp [okZ] at ht⟩
    simp only [okZ] at ht
    split at ht
    · rename_i fs hu
      simp only [Bool.and_eq_true, beq_iff_eq] at ht
      obtain ⟨xs, n, rfl, hxe, hlen, hxl, hi⟩ := DataW.trod_struct hu h
      obtain ⟨ls, f1, f2, f3⟩ := ih.2 fs.toList 0 n cs ht.1 (by omega) (fun f hf => by
        obtain ⟨i, hlt, rfl⟩ := List.mem_iff_getElem.1 hf
        have := hi i fs[i] (by simp)
        simp only [Array.getElem_toList] at this ⊢
        rw [this]
        refine ⟨xs[i]'(by simp at hlt; omega), List.getElem?_eq_getElem _, fun m hm => hz m ?_⟩
        rw [hxe]
        simp only [DataW.weights, hu]
        have hlt' : i < fs.size := by simpa using hlt
        exact DataW.weights_mem_each (j := i) (t := fs[i].type) (d := (xs[i]'(by omega)).1) (by rw [List.getElem?_map, List.getElem?_eq_getElem hlt]; simp) (by rw [List.getElem?_map, List.getElem?_eq_getElem (by omega)]; rfl) m hm)
      exact ⟨ls, .inl ⟨fs, hu, f1⟩, f2, by simpa using f3⟩
    · rename_i n e hu
      simp only [Bool.and_eq_true, beq_iff_eq] at ht
      obtain ⟨xs, m, rfl, hxe, hlen, hxl, hi⟩ := DataW.trod_array hu h
      obtain ⟨ls, f1, f2, f3⟩ := ih.2 (arrF P n e) 0 m cs ht.1 (by omega) (fun f hf => by
        obtain ⟨i, hlt, rfl⟩ := List.mem_map.1 hf
        have hlt := List.mem_range.1 hlt
        have := hi i hlt
        refine ⟨xs[i]'(by omega), by rw [this]; exact List.getElem?_eq_getElem _, fun k hk => hz k ?_⟩
        rw [hxe]
        simp only [DataW.weights, hu]
        exact weights_mem_all (List.mem_map.2 ⟨xs[i]'(by omega), List.getElem_mem _, rfl⟩) k hk)
      exact ⟨ls, .inr ⟨n, e, hu, f1⟩, f2, by simpa using f3⟩
    · cases ht
  | unit =>
    refine ⟨fun t fuel cs x ht => by simp [okZ] at ht, fun fs off fuel cs ht hl h => ?_⟩
    refine ⟨[], rfl, rfl, ?_⟩
    rw [List.drop_of_length_le (by simp only [Sh.cells] at hl; omega)]
    exact ⟨rfl, fun j l v h1 => by simp at h1⟩
  | pair a r iha ihr =>
    refine ⟨fun t fuel cs x ht => by simp [okZ] at ht, fun fs off fuel cs ht hl h => ?_⟩
    cases fs with
    | nil => simp [okZ] at ht
    | cons f fs =>
      simp only [okZ, Bool.and_eq_true, beq_iff_eq] at ht
      obtain ⟨h1, h2, h3, h4⟩ := ht
      simp only [Sh.cells] at hl
      obtain ⟨x, hx, hz⟩ := h f (List.mem_cons_self ..)
      obtain ⟨l1, a1, a2, a3⟩ := iha.1 f.type fuel _ x h3 hx hz
      obtain ⟨l2, b1, b2, b3⟩ := ihr.2 fs (off + a.cells) fuel cs h4 (by omega) (fun g hg => h g (List.mem_cons_of_mem _ hg))
      rw [h1, h2] at a3
      refine ⟨l1 ++ l2, ⟨l1, l2, a1, b1, rfl⟩, by simp [Sh.cells, a2, b2], ?_⟩
      refine ⟨by rw [List.length_append, a2, b2, List.length_drop]; omega, fun j l v hj hv => ?_⟩
      by_cases hlt : j < l1.length
      · rw [List.getElem?_append_left hlt] at hj
        refine a3.2 j l v hj ?_
        rw [List.getElem?_take, if_pos (by omega)]
        exact hv
      · rw [List.getElem?_append_right (by omega)] at hj
        refine b3.2 (j - l1.length) l v hj ?_
        rw [← hv, List.getElem?_drop, List.getElem?_drop, a2]
        congr 1
        omega
theorem opened_argz {sh : Sh} {t : TypeId} {v : Value} {d : DataW H} {ps : List MemPlace} {r : Reach} {b0 : Nat} (ht : okZ P sh (.inl t) = true) (hval : Value.okWide P w r b0 t v) (h : DataW.Trod enc P w base spare held t v d ps) (hz : ∀ n ∈ d.weights P t, n ≤ reachBytes) :
    ∃ ls, Fz P sh (.inl t) ls ∧ SVR (Rep w (allS w)) (svOf sh ls) v := by
  obtain ⟨fuel, h⟩ := h
  obtain ⟨ls, f1, f2, f3⟩ := (openedz sh).1 t fuel _ _ ht h hz
  refine ⟨ls, f1, ?_⟩
  have one : ∀ {l : Lf}, ls = [l] → (∀ cs, v ≠ .agg cs) → SVR (Rep w (allS w)) (.one l) v := by
    intro l hl hne
    subst hl
    have hc : v.cells = #[v] := by
      cases v <;> first | rfl | exact absurd rfl (hne _)
    rw [hc] at f3
    exact f3.2 0 l v rfl rfl
  cases sh with
  | int k =>
    simp only [okZ] at ht
    split at ht
    · rename_i k' hu
      obtain ⟨n, rfl⟩ := WideShapes.okWide_int hu hval
      obtain ⟨m, _, rfl⟩ := f1
      exact one rfl (fun _ h => by cases h)
    · cases ht
  | bool =>
    simp only [okZ] at ht
    split at ht
    · rename_i hu
      obtain ⟨n, rfl⟩ := WideShapes.okWide_bool hu hval
      obtain ⟨m, rfl⟩ := f1
      exact one rfl (fun _ h => by cases h)
    · cases ht
  | str =>
    simp only [okZ] at ht
    split at ht
    · rename_i hu
      obtain ⟨n, rfl⟩ := WideShapes.okWide_string hu hval
      obtain ⟨m, _, rfl⟩ := f1
      exact one rfl (fun _ h => by cases h)
    · cases ht
  | sl e =>
    simp only [okZ] at ht
    split at ht
    · rename_i t' hu
      obtain ⟨a, n, c, rfl⟩ := WideShapes.okWide_slice hu hval
      obtain ⟨_, rows, _, _, _, _, rfl⟩ := f1
      exact one rfl (fun _ h => by cases h)
    · cases ht
  | st r =>
    simp only [okZ] at ht
    split at ht
    · rename_i fs hu
      obtain ⟨cs, rfl, _⟩ := WideShapes.okWide_struct hu hval
      exact ⟨cs, rfl, f3⟩
    · rename_i n e hu
      obtain ⟨cs, rfl, _⟩ : ∃ cs, v = .agg cs ∧ cs.size = P.cellsOf t := by
        simp only [Value.okWide, hu] at hval
        obtain ⟨cs, h1, h2, _⟩ := hval
        exact ⟨cs, h1, h2⟩
      exact ⟨cs, rfl, f3⟩
    · cases ht
  | unit => simp [okZ] at ht
  | pair a r => simp [okZ] at ht
end
def FzAll (P : Program) : List Sh → List TypeId → List SV → Prop
  | [], [], [] => True
  | sh :: shs, t :: ts, x :: xs => (∃ ls, Fz P sh (.inl t) ls ∧ x = svOf sh ls) ∧ FzAll P shs ts xs
  | _, _, _ => False
section
variable {H : Type} {enc : TypeId × Value → H} {P : Program} {W W' : World}
theorem open_allz : ∀ {shs : List Sh} {ts us : List TypeId} {vs : List Value} {ds gs : List (DataW H)} {ps : List MemPlace} {base : Nat}, okParamsZ P shs ts = true → DataW.TrodAll enc P W 0 (fun _ => true) true ts vs ds ps →
    (∀ (j : Nat) t v, ts[j]? = some t → vs[j]? = some v → Value.okWide P W .any base t v) → (∀ n ∈ DataW.weightsEach P (ts ++ us) (ds ++ gs), n ≤ reachBytes) → ∃ xs, FzAll P shs ts xs ∧ SvsR (Rep W (allS W)) xs vs
  | [], [], _, [], [], _, _, _, _, _, _, _ => ⟨[], trivial, rfl, fun j x v h => by simp at h⟩
  | [], _ :: _, _, _, _, _, _, _, h, _, _, _ => by simp [okParamsZ] at h
  | _ :: _, [], _, _, _, _, _, _, h, _, _, _ => by simp [okParamsZ] at h
  | sh :: shs, t :: ts, us, v :: vs, d :: ds, gs, ps, base, h, hd, hv, hz => by
    simp only [okParamsZ, Bool.and_eq_true] at h
    obtain ⟨p, q, h1, h2, _⟩ := hd
    obtain ⟨ls, f1, f2⟩ := opened_argz h.1 (hv 0 t v rfl rfl) h1 (fun n hn => hz n (by simp only [List.cons_append, DataW.weightsEach, List.mem_append]; exact .inl hn))
    obtain ⟨xs, g1, g2⟩ := open_allz (us := us) (gs := gs) h.2.2.2 h2 (fun j t' v' e1 e2 => hv (j + 1) t' v' e1 e2) (fun n hn => hz n (by simp only [List.cons_append, DataW.weightsEach, List.mem_append]; exact .inr hn))
    refine ⟨svOf sh ls :: xs, ⟨⟨ls, f1, rfl⟩, g1⟩, by simp [g2.1], fun j x u e1 e2 => ?_⟩
    cases j with
    | zero => simp at e1 e2; subst e1; subst e2; exact f2
    | succ j => exact g2.2 j x u e1 e2
theorem again_allz (hl : laidOutB P = true) (hb : Below W.heap.size W W') : ∀ {shs : List Sh} {ts : List TypeId} {vs : List Value} {ds : List (DataW H)} {ps : List MemPlace}, okParamsZ P shs ts = true → DataW.TrodAll enc P W 0 (fun _ => true) true ts vs ds ps → (∀ x ∈ ps, x.block < W.heap.size) →
    DataW.TrodAll enc P W' 0 (fun b => decide (b < W.heap.size)) true ts vs ds ps
  | [], [], [], [], _, _, h, _ => h
  | [], _ :: _, _, _, _, h, _, _ => by simp [okParamsZ] at h
  | _ :: _, [], _, _, _, h, _, _ => by simp [okParamsZ] at h
  | sh :: shs, t :: ts, v :: vs, d :: ds, ps, h, hd, hlt => by
    simp only [okParamsZ, Bool.and_eq_true, decide_eq_true_eq] at h
    obtain ⟨p, q, h1, h2, rfl⟩ := hd
    exact ⟨p, q, Below.trod hl h.2.1 h.2.2.1 h1 hb (fun x hx => hlt x (List.mem_append_left _ hx)), again_allz hl hb h.2.2.2 h2 (fun x hx => hlt x (List.mem_append_right _ hx)), rfl⟩
theorem law_contractz {f : FuncId} {fn : Func} {s : ChangeSpec} {apart fresh handsOn : Bool} {tb : TypeId} (hl : laidOutB P = true) (shs : List Sh) (hp : okParamsZ P shs fn.params.toList = true) (hres : fn.resultTypes = #[tb]) (htb : P.underlying tb = some .bool)
    (hvars : s.vars = []) (hs : ∀ ds : List (DataW H), ds.length = fn.params.toList.length → s.fn H ds = { results := [.lit (.bool true)], args := ds })
    (hf : ∀ xs, FzAll P shs fn.params.toList xs → CallsA P f xs (· = .s (.one (.b true)))) (hG : GLR W (allS W))
    (base : Nat) (args : Array Value) (ds gs : List (DataW H)) (before : List MemPlace)
    (hval : ∀ (j : Nat) t v, fn.params[j]? = some t → args[j]? = some v → Value.okWide P W .any base t v) (hW : DataW.Whole enc P fn.params.toList s.vars apart W args.toList ds gs before)
    {us : List TypeId} (hz : (DataW.weightsEach P (fn.params.toList ++ us) (ds ++ gs)).all (· ≤ reachBytes) = true) :
    Calls P f args W fun e W' => ∃ v, e = .returned v ∧ s.post enc P fn apart fresh handsOn false W args v W' := by
  have hlt := hW.lt
  have hW' := hW
  obtain ⟨p, q, hA, hV, hpq, _, _⟩ := hW'
  obtain ⟨xs, h1, h2⟩ := open_allz (us := us) (gs := gs) hp hA (fun j t v e1 e2 => hval j t v (by simpa using e1) (by simpa using e2)) (fun n hn => by simpa using List.all_eq_true.1 hz n hn)
  refine (hf xs h1 W (allS W) args (allS_in W hG) h2).mono ?_
  rintro e W' ⟨v, x, S', rfl, rfl, hext, _, hv⟩
  have hv : v = .bool true := rep_b hv
  subst hv
  have hlen : ds.length = fn.params.toList.length := by
    have : ∀ {ts : List TypeId} {vs : List Value} {ds : List (DataW H)} {ps : List MemPlace}, DataW.TrodAll enc P W 0 (fun _ => true) true ts vs ds ps → ds.length = ts.length := by
      intro ts
      induction ts with
      | nil => intro vs ds ps h; cases vs <;> cases ds <;> simp_all [DataW.TrodAll]
      | cons t ts ih =>
        intro vs ds ps h
        cases vs <;> cases ds <;> simp only [DataW.TrodAll] at h
        obtain ⟨p, q, _, h2, _⟩ := h
        simp [ih h2]
    exact this hA
  rw [hvars] at hV
  have hgs : gs = [] ∧ q = [] := by
    cases gs with
    | nil => exact ⟨rfl, hV⟩
    | cons g gs => exact hV.elim
  obtain ⟨rfl, rfl⟩ := hgs
  refine ⟨_, rfl, ds, [], before, [], p, [], hW, ?_, ?_, ?_, hext.below.frame _, fun h => by cases h⟩
  · rw [List.append_nil, hs ds hlen, hres]
    exact ⟨[], [], ⟨1, by simp [DataW.trod, Value.cells, htb]⟩, rfl, rfl⟩
  · rw [List.append_nil, hs ds hlen]
    exact again_allz hl hext.below hp hA (fun x hx => hlt x (by rw [hpq]; exact List.mem_append_left _ hx))
  · rw [List.append_nil, hs ds hlen, hvars]
    rfl
end
end Go.Proofs.Ythmibhmmbajcfaa.Abs

/-
  Small arrays, as structs of equal parts: their places.
-/
namespace Go.Proofs.Ythmibhmmbajcfaa.Abs
open Go.RowKit
section
variable {P : Program} {c : Ctx} {st : AS} {ty : TypeId}
theorem opv_ixcp {t n e sz o : Nat} {x y : Operand} {k : IntKind} {j : Int} {cs : List Lf} (ai : AI P t n e sz) (hx : opnd st x = .s (.one (.cp cs))) (hy : opnd st y = .s (.one (.i k j))) (h : (0 ≤ j ∧ j < n) ∧ j.toNat * sz = o) :
    OpV P c st (.indexAddr t x y) ty (.s (.one (.cp (cs.drop o)))) := by
  have := opv_indexAddr_arr (P := P) (c := c) (ty := ty) ai hx rfl hy (fun _ _ _ h => by cases h) h.1.1 h.1.2
  rwa [h.2] at this
end
end Go.Proofs.Ythmibhmmbajcfaa.Abs

