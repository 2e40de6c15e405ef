/-
  What stands beneath the four laws of the timers, part D.
-/
import Derived.Test.YtnphcnhejgpjgaaC
import Derived.SizedLaws
import Derived.OpenShut
import Derived.ChangeKeysEq
import Derived.WalkKit
import Derived.LaidEql
import Derived.Stop.Asserts
import Derived.Stop.IfaceNil
import Derived.RowKitTokens
import Derived.Lib.IfaceEq
import Derived.Test.YtnphcnhejgpjgaaProg
import Derived.Shelf.Abstract
import Derived.Shelf.SlSortCmp.WholeK
import Derived.Shelf.SlSortCmp.NoneTotal
import Derived.Lib.Small
import Derived.Lib.Walk
set_option linter.unusedVariables false
set_option linter.unusedSimpArgs false
section
namespace Go.Proofs.Ytnphcnhejgpjgaa.Abs
open Go.Proofs.Ytnphcnhejgpjgaa.Co
variable [Env]
open Go.RowKit
def arrF (P : Program) (n : Nat) (e : TypeId) : List Field := (List.range n).map fun i => { name := "", type := e, offset := i * P.cellsOf e, embedded := false, tag := "", pkgPath := "", byteOffset := 0 }
def okZ (P : Program) : Sh → TypeId ⊕ (List Field × Nat) → Bool
  | .int k, .inl t => match P.underlying t with | some (.int k') => k' == k | _ => false
  | .bool, .inl t => match P.underlying t with | some .bool => true | _ => false
  | .str, .inl t => match P.underlying t with | some .string => true | _ => false
  | .sl e, .inl t => match P.underlying t with | some (.slice t') => okZ P e (.inl t') && (P.cellsOf t' == e.cells && decide (0 < e.cells)) | _ => false
  | .st r, .inl t => match P.underlying t with
    | some (.struct fs) => okZ P r (.inr (fs.toList, 0)) && P.cellsOf t == r.cells
    | some (.array n e) => okZ P r (.inr (arrF P n e, 0)) && P.cellsOf t == r.cells
    | _ => false
  | .unit, .inr ([], _) => true
  | .pair a r, .inr (f :: fs, off) => f.offset == off && (P.cellsOf f.type == a.cells && (okZ P a (.inl f.type) && okZ P r (.inr (fs, off + a.cells))))
  | _, _ => false
def okParamsZ (P : Program) : List Sh → List TypeId → Bool
  | [], [] => true
  | sh :: shs, t :: ts => okZ P sh (.inl t) && (P.readableRec t && (decide (t < P.types.size) && okParamsZ P shs ts))
  | _, _ => false
def Fz (P : Program) : Sh → TypeId ⊕ List Field → List Lf → Prop
  | .int k, _, ls => Fits (.int k) ls
  | .bool, _, ls => Fits .bool ls
  | .str, _, ls => Fits .str ls
  | .sl e, .inl t, ls => ∃ (t' : TypeId) (rows : List (List Lf)), P.underlying t = some (.slice t') ∧ rows.length ≤ maxLen ∧ rows.length * P.bytesOf t' ≤ reachBytes ∧ (∀ r ∈ rows, Fz P e (.inl t') r) ∧ ls = [.sl rows.length rows.flatten]
  | .st r, .inl t, ls => (∃ fs, P.underlying t = some (.struct fs) ∧ Fz P r (.inr fs.toList) ls) ∨ ∃ n e, P.underlying t = some (.array n e) ∧ Fz P r (.inr (arrF P n e)) ls
  | .unit, _, ls => ls = []
  | .pair a r, .inr (f :: fs), ls => ∃ x y, Fz P a (.inl f.type) x ∧ Fz P r (.inr fs) y ∧ ls = x ++ y
  | _, _, _ => False
omit [Env] in
theorem fz_fits {P : Program} [Nice P] : ∀ {sh : Sh} {m : TypeId ⊕ List Field} {ls : List Lf}, Fz P sh m ls → Fits sh ls := by
  intro sh
  induction sh with
  | int k => intro m ls h; exact h
  | bool => intro m ls h; exact h
  | str => intro m ls h; exact h
  | sl e ih =>
    intro m ls h
    cases m with
    | inr _ => exact h.elim
    | inl t =>
      obtain ⟨t', rows, _, h1, _, h2, rfl⟩ := h
      exact ⟨rows, h1, fun r hr => ih (h2 r hr), rfl⟩
  | st r ih =>
    intro m ls h
    cases m with
    | inr _ => exact h.elim
    | inl t =>
      rcases h with ⟨fs, _, h⟩ | ⟨n, e, _, h⟩ <;> exact ih h
  | unit => intro m ls h; exact h
  | pair a r iha ihr =>
    intro m ls h
    cases m with
    | inl t => exact h.elim
    | inr fs =>
      cases fs with
      | nil => exact h.elim
      | cons f fs =>
        obtain ⟨x, y, h1, h2, rfl⟩ := h
        exact ⟨x, y, iha h1, ihr h2, rfl⟩
section
variable {H : Type} {enc : TypeId × Value → H} {P : Program} [Nice P] {w : World} {spare : Nat → Bool} {held : Bool} {base : Nat}
omit [Env] [Nice P] in
theorem weights_mem_all {e : TypeId} : ∀ {l : List (DataW H)} {d : DataW H}, d ∈ l → ∀ n ∈ d.weights P e, n ∈ DataW.weightsAll P e l
  | x :: l, d, h, n, hn => by
    simp only [DataW.weightsAll, List.mem_append]
    rcases List.mem_cons.1 h with rfl | h
    · exact .inl hn
    · exact .inr (weights_mem_all h n hn)
omit [Env] [Nice P] in
theorem openedz (sh : Sh) :
    (∀ (t : TypeId) (fuel : Nat) (cs : List Value) (x : DataW H × List MemPlace), okZ P sh (.inl t) = true → DataW.trod enc P w base spare held fuel t cs = some x → (∀ n ∈ x.1.weights P t, n ≤ reachBytes) →
      ∃ ls, Fz P sh (.inl t) ls ∧ ls.length = sh.cells ∧ LsR (Rep w (allS w)) ls cs) ∧
    (∀ (fs : List Field) (off fuel : Nat) (cs : List Value), okZ P sh (.inr (fs, off)) = true → off + sh.cells = cs.length →
      (∀ f ∈ fs, ∃ x, DataW.trod enc P w base spare held fuel f.type ((cs.drop f.offset).take (P.cellsOf f.type)) = some x ∧ ∀ n ∈ x.1.weights P f.type, n ≤ reachBytes) →
      ∃ ls, Fz P sh (.inr fs) ls ∧ ls.length = sh.cells ∧ LsR (Rep w (allS w)) ls (cs.drop off)) := by
  have lsone : ∀ {l : Lf} {v : Value}, Rep w (allS w) l v → LsR (Rep w (allS w)) [l] [v] := fun {l v} h => ⟨rfl, fun j a b h1 h2 => by
    cases j with
    | zero => simp at h1 h2; subst h1; subst h2; exact h
    | succ j => simp at h1⟩
  induction sh with
  | int k =>
    refine ⟨fun t fuel cs x ht h hz => ?_, fun fs off fuel cs ht => by simp [okZ] at ht⟩
    simp only [okZ] at ht
    split at ht
    · rename_i k' hu
      have hk : k' = k := by simpa using ht
      subst hk
      obtain ⟨n, hcs, hx, hw⟩ := DataW.trod_int hu h
      subst hcs
      exact ⟨_, ⟨n, hw, rfl⟩, rfl, lsone (.i _ _)⟩
    · cases ht
  | bool =>
    refine ⟨fun t fuel cs x ht h hz => ?_, fun fs off fuel cs ht => by simp [okZ] at ht⟩
    simp only [okZ] at ht
    split at ht
    · rename_i hu
      obtain ⟨b, hcs, _⟩ := DataW.trod_bool hu h
      subst hcs
      exact ⟨_, ⟨b, rfl⟩, rfl, lsone (.b _)⟩
    · cases ht
  | str =>
    refine ⟨fun t fuel cs x ht h hz => ?_, fun fs off fuel cs ht => by simp [okZ] at ht⟩
    simp only [okZ] at ht
    split at ht
    · rename_i hu
      obtain ⟨b, hcs, _, hs⟩ := DataW.trod_string hu h
      subst hcs
      exact ⟨_, ⟨b, hs, rfl⟩, rfl, lsone (.s _)⟩
    · cases ht
  | sl e ih =>
    refine ⟨fun t fuel cs x ht h hz => ?_, fun fs off fuel cs ht => by simp [okZ] at ht⟩
    simp only [okZ] at ht
    split at ht
    · rename_i t' hu
      simp only [Bool.and_eq_true, beq_iff_eq, decide_eq_true_eq] at ht
      obtain ⟨hok, hcell, hpos⟩ := ht
      rcases DataW.trod_slice hu h with ⟨hcs, _⟩ | ⟨a, len, cap, elems, rest, fuel, rfl, hcs, hxe, _, hlc, hcm, hl, hi, _⟩
      · subst hcs
        exact ⟨[.sl 0 []], ⟨t', [], hu, by simp, by simp, fun r hr => by simp at hr, rfl⟩, rfl, lsone (.sl0 _ _)⟩
      · subst hcs
        by_cases h0 : len = 0
        · subst h0
          exact ⟨[.sl 0 []], ⟨t', [], hu, by simp, by simp, fun r hr => by simp at hr, rfl⟩, rfl, lsone (.sl0 _ _)⟩
        · have helem : ∀ i, i < len → ∃ ys, w.cells? base (a.add (i * P.cellsOf t')) (P.cellsOf t') = some ys ∧ ∃ x, DataW.trod enc P w base spare held fuel t' ys = some x ∧ ∀ n ∈ x.1.weights P t', n ≤ reachBytes := by
            intro i hlt
            have hx := hi i hlt
            have : elems[i]? = some (elems[i]'(by omega)) := List.getElem?_eq_getElem _
            rw [this] at hx
            cases hc : w.cells? base (a.add (i * P.cellsOf t')) (P.cellsOf t') with
            | none => rw [hc] at hx; simp at hx
            | some ys =>
              rw [hc] at hx
              refine ⟨ys, rfl, _, hx, fun m hm => hz m ?_⟩
              rw [hxe]
              simp only [DataW.weights, hu]
              exact List.mem_cons_of_mem _ (List.mem_append_left _ (weights_mem_all (List.mem_map.2 ⟨_, List.getElem_mem _, rfl⟩) m hm))
          have hspot : a.spot = none := by
            obtain ⟨ys, hc, _⟩ := helem 0 (by omega)
            obtain ⟨hyl, hyc⟩ := cells_get hc
            have hy := hyc 0 (by omega)
            rw [List.getElem?_eq_getElem (by omega)] at hy
            have := (cell_lt hy).2
            simpa [Addr.add] using this
          have hadd : ∀ n m, (a.add n).add m = ⟨a.block, a.off + (n + m), none⟩ := by
            intro n m
            obtain ⟨ab, ao, asp⟩ := a
            simp only at hspot
            subst hspot
            unfold Addr.add
            by_cases hn : n = 0 <;> by_cases hm : m = 0 <;> simp [hn, hm] <;> omega
          obtain ⟨rows, r1, r2, r3, r4⟩ := rows_built (w := w) (bk := a.block) (off := a.off) (sz := e.cells) (Q := Fz P e (.inl t')) len (fun i hlt => by
            obtain ⟨ys, hc, x, hx, hw⟩ := helem i hlt
            obtain ⟨ls, f1, f2, f3⟩ := ih.1 t' fuel ys x hok hx hw
            obtain ⟨hyl, hyc⟩ := cells_get hc
            refine ⟨ls, f1, f2, fun j l hj => ?_⟩
            obtain ⟨v, hv, hr⟩ := f3.get hj
            have hjl : j < ys.length := (List.getElem?_eq_some_iff.1 hv).1
            have := hyc j (by omega)
            rw [hadd, hv, hcell] at this
            exact ⟨v, this, hr⟩)
          have hb : rows.length * P.bytesOf t' ≤ reachBytes := by
            have := hz ((elems.length + rest.length) * P.bytesOf t') (by rw [hxe]; simp [DataW.weights, hu])
            rw [r1, ← hl]
            exact Nat.le_trans (Nat.mul_le_mul_right _ (Nat.le_add_right _ _)) this
          refine ⟨[.sl rows.length rows.flatten], ⟨t', rows, hu, by omega, hb, r2, rfl⟩, rfl, lsone ?_⟩
          have ea : a = ⟨a.block, a.off, none⟩ := by
            obtain ⟨ab, ao, asp⟩ := a
            simp only at hspot
            subst hspot
            rfl
          rw [ea, r1]
          refine Rep.sl len rows.flatten a.block a.off cap (fun j => (w.cell? ⟨a.block, a.off + j, none⟩).getD undef) hlc hcm (fun j l hj => ?_) (fun j l hj => ?_)
          · obtain ⟨v, hv, _⟩ := r4 j l hj
            exact ⟨⟨_, hv⟩, by rw [hv]; rfl⟩
          · obtain ⟨v, hv, hr⟩ := r4 j l hj
            show Rep w (allS w) l ((w.cell? ⟨a.block, a.off + j, none⟩).getD undef)
            rw [hv]; exact hr
    · cases ht
  | st r ih =>
    refine ⟨fun t fuel cs x ht h hz => ?_, fun fs off fuel cs ht => by simp [okZ] at ht⟩
    simp only [okZ] at ht
    split at ht
    · rename_i fs hu
      simp only [Bool.and_eq_true, beq_iff_eq] at ht
      obtain ⟨xs, n, rfl, hxe, hlen, hxl, hi⟩ := DataW.trod_struct hu h
      obtain ⟨ls, f1, f2, f3⟩ := ih.2 fs.toList 0 n cs ht.1 (by omega) (fun f hf => by
        obtain ⟨i, hlt, rfl⟩ := List.mem_iff_getElem.1 hf
        have := hi i fs[i] (by simp)
        simp only [Array.getElem_toList] at this ⊢
        rw [this]
        refine ⟨xs[i]'(by simp at hlt; omega), List.getElem?_eq_getElem _, fun m hm => hz m ?_⟩
        rw [hxe]
        simp only [DataW.weights, hu]
        have hlt' : i < fs.size := by simpa using hlt
        exact DataW.weights_mem_each (j := i) (t := fs[i].type) (d := (xs[i]'(by omega)).1) (by rw [List.getElem?_map, List.getElem?_eq_getElem hlt]; simp) (by rw [List.getElem?_map, List.getElem?_eq_getElem (by omega)]; rfl) m hm)
      exact ⟨ls, .inl ⟨fs, hu, f1⟩, f2, by simpa using f3⟩
    · rename_i n e hu
      simp only [Bool.and_eq_true, beq_iff_eq] at ht
      obtain ⟨xs, m, rfl, hxe, hlen, hxl, hi⟩ := DataW.trod_array hu h
      obtain ⟨ls, f1, f2, f3⟩ := ih.2 (arrF P n e) 0 m cs ht.1 (by omega) (fun f hf => by
        obtain ⟨i, hlt, rfl⟩ := List.mem_map.1 hf
        have hlt := List.mem_range.1 hlt
        have := hi i hlt
        refine ⟨xs[i]'(by omega), by rw [this]; exact List.getElem?_eq_getElem _, fun k hk => hz k ?_⟩
        rw [hxe]
        simp only [DataW.weights, hu]
        exact weights_mem_all (List.mem_map.2 ⟨xs[i]'(by omega), List.getElem_mem _, rfl⟩) k hk)
      exact ⟨ls, .inr ⟨n, e, hu, f1⟩, f2, by simpa using f3⟩
    · cases ht
  | unit =>
    refine ⟨fun t fuel cs x ht => by simp [okZ] at ht, fun fs off fuel cs ht hl h => ?_⟩
    refine ⟨[], rfl, rfl, ?_⟩
    rw [List.drop_of_length_le (by simp only [Sh.cells] at hl; omega)]
    exact ⟨rfl, fun j l v h1 => by simp at h1⟩
  | pair a r iha ihr =>
    refine ⟨fun t fuel cs x ht => by simp [okZ] at ht, fun fs off fuel cs ht hl h => ?_⟩
    cases fs with
    | nil => simp [okZ] at ht
    | cons f fs =>
      simp only [okZ, Bool.and_eq_true, beq_iff_eq] at ht
      obtain ⟨h1, h2, h3, h4⟩ := ht
      simp only [Sh.cells] at hl
      obtain ⟨x, hx, hz⟩ := h f (List.mem_cons_self ..)
      obtain ⟨l1, a1, a2, a3⟩ := iha.1 f.type fuel _ x h3 hx hz
      obtain ⟨l2, b1, b2, b3⟩ := ihr.2 fs (off + a.cells) fuel cs h4 (by omega) (fun g hg => h g (List.mem_cons_of_mem _ hg))
      rw [h1, h2] at a3
      refine ⟨l1 ++ l2, ⟨l1, l2, a1, b1, rfl⟩, by simp [Sh.cells, a2, b2], ?_⟩
      refine ⟨by rw [List.length_append, a2, b2, List.length_drop]; omega, fun j l v hj hv => ?_⟩
      by_cases hlt : j < l1.length
      · rw [List.getElem?_append_left hlt] at hj
        refine a3.2 j l v hj ?_
        rw [List.getElem?_take, if_pos (by omega)]
        exact hv
      · rw [List.getElem?_append_right (by omega)] at hj
        refine b3.2 (j - l1.length) l v hj ?_
        rw [← hv, List.getElem?_drop, List.getElem?_drop, a2]
        congr 1
        omega
omit [Env] [Nice P] in
theorem opened_argz {sh : Sh} {t : TypeId} {v : Value} {d : DataW H} {ps : List MemPlace} {r : Reach} {b0 : Nat} (ht : okZ P sh (.inl t) = true) (hval : Value.okWide P w r b0 t v) (h : DataW.Trod enc P w base spare held t v d ps) (hz : ∀ n ∈ d.weights P t, n ≤ reachBytes) :
    ∃ ls, Fz P sh (.inl t) ls ∧ SVR (Rep w (allS w)) (svOf sh ls) v := by
  obtain ⟨fuel, h⟩ := h
  obtain ⟨ls, f1, f2, f3⟩ := (openedz sh).1 t fuel _ _ ht h hz
  refine ⟨ls, f1, ?_⟩
  have one : ∀ {l : Lf}, ls = [l] → (∀ cs, v ≠ .agg cs) → SVR (Rep w (allS w)) (.one l) v := by
    intro l hl hne
    subst hl
    have hc : v.cells = #[v] := by
      cases v <;> first | rfl | exact absurd rfl (hne _)
    rw [hc] at f3
    exact f3.2 0 l v rfl rfl
  cases sh with
  | int k =>
    simp only [okZ] at ht
    split at ht
    · rename_i k' hu
      obtain ⟨n, rfl⟩ := WideShapes.okWide_int hu hval
      obtain ⟨m, _, rfl⟩ := f1
      exact one rfl (fun _ h => by cases h)
    · cases ht
  | bool =>
    simp only [okZ] at ht
    split at ht
    · rename_i hu
      obtain ⟨n, rfl⟩ := WideShapes.okWide_bool hu hval
      obtain ⟨m, rfl⟩ := f1
      exact one rfl (fun _ h => by cases h)
    · cases ht
  | str =>
    simp only [okZ] at ht
    split at ht
    · rename_i hu
      obtain ⟨n, rfl⟩ := WideShapes.okWide_string hu hval
      obtain ⟨m, _, rfl⟩ := f1
      exact one rfl (fun _ h => by cases h)
    · cases ht
  | sl e =>
    simp only [okZ] at ht
    split at ht
    · rename_i t' hu
      obtain ⟨a, n, c, rfl⟩ := WideShapes.okWide_slice hu hval
      obtain ⟨_, rows, _, _, _, _, rfl⟩ := f1
      exact one rfl (fun _ h => by cases h)
    · cases ht
  | st r =>
    simp only [okZ] at ht
    split at ht
    · rename_i fs hu
      obtain ⟨cs, rfl, _⟩ := WideShapes.okWide_struct hu hval
      exact ⟨cs, rfl, f3⟩
    · rename_i n e hu
      obtain ⟨cs, rfl, _⟩ : ∃ cs, v = .agg cs ∧ cs.size = P.cellsOf t := by
        simp only [Value.okWide, hu] at hval
        obtain ⟨cs, h1, h2, _⟩ := hval
        exact ⟨cs, h1, h2⟩
      exact ⟨cs, rfl, f3⟩
    · cases ht
  | unit => simp [okZ] at ht
  | pair a r => simp [okZ] at ht
end
def FzAll (P : Program) : List Sh → List TypeId → List SV → Prop
  | [], [], [] => True
  | sh :: shs, t :: ts, x :: xs => (∃ ls, Fz P sh (.inl t) ls ∧ x = svOf sh ls) ∧ FzAll P shs ts xs
  | _, _, _ => False
section
variable {H : Type} {enc : TypeId × Value → H} {P : Program} [Nice P] {W W' : World}
omit [Env] [Nice P] in
theorem open_allz : ∀ {shs : List Sh} {ts us : List TypeId} {vs : List Value} {ds gs : List (DataW H)} {ps : List MemPlace} {base : Nat}, okParamsZ P shs ts = true → DataW.TrodAll enc P W 0 (fun _ => true) true ts vs ds ps →
    (∀ (j : Nat) t v, ts[j]? = some t → vs[j]? = some v → Value.okWide P W .any base t v) → (∀ n ∈ DataW.weightsEach P (ts ++ us) (ds ++ gs), n ≤ reachBytes) → ∃ xs, FzAll P shs ts xs ∧ SvsR (Rep W (allS W)) xs vs
  | [], [], _, [], [], _, _, _, _, _, _, _ => ⟨[], trivial, rfl, fun j x v h => by simp at h⟩
  | [], _ :: _, _, _, _, _, _, _, h, _, _, _ => by simp [okParamsZ] at h
  | _ :: _, [], _, _, _, _, _, _, h, _, _, _ => by simp [okParamsZ] at h
  | sh :: shs, t :: ts, us, v :: vs, d :: ds, gs, ps, base, h, hd, hv, hz => by
    simp only [okParamsZ, Bool.and_eq_true] at h
    obtain ⟨p, q, h1, h2, _⟩ := hd
    obtain ⟨ls, f1, f2⟩ := opened_argz h.1 (hv 0 t v rfl rfl) h1 (fun n hn => hz n (by simp only [List.cons_append, DataW.weightsEach, List.mem_append]; exact .inl hn))
    obtain ⟨xs, g1, g2⟩ := open_allz (us := us) (gs := gs) h.2.2.2 h2 (fun j t' v' e1 e2 => hv (j + 1) t' v' e1 e2) (fun n hn => hz n (by simp only [List.cons_append, DataW.weightsEach, List.mem_append]; exact .inr hn))
    refine ⟨svOf sh ls :: xs, ⟨⟨ls, f1, rfl⟩, g1⟩, by simp [g2.1], fun j x u e1 e2 => ?_⟩
    cases j with
    | zero => simp at e1 e2; subst e1; subst e2; exact f2
    | succ j => exact g2.2 j x u e1 e2
omit [Env] [Nice P] in
theorem again_allz (hl : laidOutB P = true) (hb : Below W.heap.size W W') : ∀ {shs : List Sh} {ts : List TypeId} {vs : List Value} {ds : List (DataW H)} {ps : List MemPlace}, okParamsZ P shs ts = true → DataW.TrodAll enc P W 0 (fun _ => true) true ts vs ds ps → (∀ x ∈ ps, x.block < W.heap.size) →
    DataW.TrodAll enc P W' 0 (fun b => decide (b < W.heap.size)) true ts vs ds ps
  | [], [], [], [], _, _, h, _ => h
  | [], _ :: _, _, _, _, h, _, _ => by simp [okParamsZ] at h
  | _ :: _, [], _, _, _, h, _, _ => by simp [okParamsZ] at h
  | sh :: shs, t :: ts, v :: vs, d :: ds, ps, h, hd, hlt => by
    simp only [okParamsZ, Bool.and_eq_true, decide_eq_true_eq] at h
    obtain ⟨p, q, h1, h2, rfl⟩ := hd
    exact ⟨p, q, Below.trod hl h.2.1 h.2.2.1 h1 hb (fun x hx => hlt x (List.mem_append_left _ hx)), again_allz hl hb h.2.2.2 h2 (fun x hx => hlt x (List.mem_append_right _ hx)), rfl⟩
omit [Nice P] in
theorem law_contractz {f : FuncId} {fn : Func} {s : ChangeSpec} {apart fresh handsOn : Bool} {tb : TypeId} (hl : laidOutB P = true) (shs : List Sh) (hp : okParamsZ P shs fn.params.toList = true) (hres : fn.resultTypes = #[tb]) (htb : P.underlying tb = some .bool)
    (hvars : s.vars = []) (hs : ∀ ds : List (DataW H), ds.length = fn.params.toList.length → s.fn H ds = { results := [.lit (.bool true)], args := ds })
    (hf : ∀ xs, FzAll P shs fn.params.toList xs → CallsA P f xs (· = .s (.one (.b true)))) (hG : GLR W (allS W))
    (base : Nat) (args : Array Value) (ds gs : List (DataW H)) (before : List MemPlace)
    (hval : ∀ (j : Nat) t v, fn.params[j]? = some t → args[j]? = some v → Value.okWide P W .any base t v) (hW : DataW.Whole enc P fn.params.toList s.vars apart W args.toList ds gs before)
    {us : List TypeId} (hz : (DataW.weightsEach P (fn.params.toList ++ us) (ds ++ gs)).all (· ≤ reachBytes) = true) :
    CallsK P f args W fun e W' => ∃ v, e = .returned v ∧ s.post enc P fn apart fresh handsOn false W args v W' := by
  have hlt := hW.lt
  have hW' := hW
  obtain ⟨p, q, hA, hV, hpq, _, _⟩ := hW'
  obtain ⟨xs, h1, h2⟩ := open_allz (us := us) (gs := gs) hp hA (fun j t v e1 e2 => hval j t v (by simpa using e1) (by simpa using e2)) (fun n hn => by simpa using List.all_eq_true.1 hz n hn)
  refine (hf xs h1 W (allS W) args (allS_in W hG) h2).mono ?_
  rintro e W' ⟨v, x, S', rfl, rfl, hext, _, hv⟩
  have hv : v = .bool true := rep_b hv
  subst hv
  have hlen : ds.length = fn.params.toList.length := by
    have : ∀ {ts : List TypeId} {vs : List Value} {ds : List (DataW H)} {ps : List MemPlace}, DataW.TrodAll enc P W 0 (fun _ => true) true ts vs ds ps → ds.length = ts.length := by
      intro ts
      induction ts with
      | nil => intro vs ds ps h; cases vs <;> cases ds <;> simp_all [DataW.TrodAll]
      | cons t ts ih =>
        intro vs ds ps h
        cases vs <;> cases ds <;> simp only [DataW.TrodAll] at h
        obtain ⟨p, q, _, h2, _⟩ := h
        simp [ih h2]
    exact this hA
  rw [hvars] at hV
  have hgs : gs = [] ∧ q = [] := by
    cases gs with
    | nil => exact ⟨rfl, hV⟩
    | cons g gs => exact hV.elim
  obtain ⟨rfl, rfl⟩ := hgs
  refine ⟨_, rfl, ds, [], before, [], p, [], hW, ?_, ?_, ?_, hext.below.frame _, fun h => by cases h⟩
  · rw [List.append_nil, hs ds hlen, hres]
    exact ⟨[], [], ⟨1, by simp [DataW.trod, Value.cells, htb]⟩, rfl, rfl⟩
  · rw [List.append_nil, hs ds hlen]
    exact again_allz hl hext.below hp hA (fun x hx => hlt x (by rw [hpq]; exact List.mem_append_left _ hx))
  · rw [List.append_nil, hs ds hlen, hvars]
    rfl
end
end Go.Proofs.Ytnphcnhejgpjgaa.Abs
end
section
namespace Go.Proofs.Ytnphcnhejgpjgaa.Abs
open Go.Proofs.Ytnphcnhejgpjgaa.Co
variable [Env]
open Go.RowKit
section
variable {P : Program} [Nice P] {c : Ctx} {st : AS} {ty : TypeId}
end
end Go.Proofs.Ytnphcnhejgpjgaa.Abs
end
section
namespace Go.Proofs.Ytnphcnhejgpjgaa.Abs
open Go.Proofs.Ytnphcnhejgpjgaa.Co
variable [Env]
open Go.RowKit
def efields (P : Program) (r : TypeId → Option (List Nat)) : Nat → List Field → Option (List Nat)
  | _, [] => some []
  | off, f :: fs => if f.name != "_" && f.offset == off then
      match r f.type with
      | some g => if (P.info? f.type).map (·.size) == some g.length then (efields P r (off + g.length) fs).map (g ++ ·) else none
      | none => none
    else none
def etags (P : Program) : Nat → TypeId → Option (List Nat)
  | 0, _ => none
  | d + 1, t => match P.underlying t with
    | some (.int _) => some [0]
    | some .bool => some [1]
    | some .string => some [2]
    | some (.struct fs) => if P.stoodInHeld t then none else efields P (etags P d) 0 fs.toList
    | some (.array n e) => match etags P d e with
      | some g => if (P.info? e).map (·.size) == some g.length then some ((List.replicate n g).flatten) else none
      | none => none
    | _ => none
def At (w : World) (S : Stab) (m : List Blk) (H : Nat → Value) (xs : Array Value) (off : Nat) (ls : List Lf) : Prop := ∀ j l, ls[j]? = some l → ∃ v, xs[off + j]? = some v ∧ GRep w S m H l v
omit [Env] in
theorem At.take {w : World} {S : Stab} {m : List Blk} {H : Nat → Value} {xs : Array Value} {off : Nat} {ls : List Lf} (h : At w S m H xs off ls) (k : Nat) : At w S m H xs off (ls.take k) := fun j l hj => by
  rw [List.getElem?_take] at hj
  split at hj
  · exact h j l hj
  · cases hj
omit [Env] in
theorem At.drop {w : World} {S : Stab} {m : List Blk} {H : Nat → Value} {xs : Array Value} {off : Nat} {ls : List Lf} (h : At w S m H xs off ls) (k : Nat) : At w S m H xs (off + k) (ls.drop k) := fun j l hj => by
  rw [List.getElem?_drop] at hj
  obtain ⟨v, hv, hr⟩ := h _ l hj
  exact ⟨v, by rw [← hv, Nat.add_assoc], hr⟩
omit [Env] in
theorem At.part {w : World} {S : Stab} {m : List Blk} {H : Nat → Value} {xs : Array Value} {off n : Nat} {ls : List Lf} (h : At w S m H xs off ls) (hl : ls.length = n) : At w S m H (xs.extract off (off + n)) 0 ls := fun j l hj => by
  obtain ⟨v, hv, hr⟩ := h j l hj
  have hjl := (List.getElem?_eq_some_iff.1 hj).1
  have hx := (Array.getElem?_eq_some_iff.1 hv).1
  refine ⟨v, ?_, hr⟩
  rw [Array.getElem?_extract, if_pos (by omega), Nat.zero_add, hv]
end Go.Proofs.Ytnphcnhejgpjgaa.Abs
end
section
namespace Go.Proofs.Ytnphcnhejgpjgaa.Abs
open Go.Proofs.Ytnphcnhejgpjgaa.Co
variable [Env]
open Go.RowKit
section
variable {P : Program} [Nice P] {c : Ctx} {st : AS} {ty : TypeId} {xt yt : TypeId} {x y : Operand}
structure EqD (P : Program) (t : TypeId) (g : List Nat) : Prop where
  u : etags P 8 t = some g
  s : (P.info? t).map (·.size) = some g.length
  g : P.eqGuardType P.depth t = false
  a : (match P.underlying t with | some (.struct _) => true | some (.array _ _) => true | _ => false) = true
end
end Go.Proofs.Ytnphcnhejgpjgaa.Abs
end
section
namespace Go.Proofs.Ytnphcnhejgpjgaa.Abs
open Go.Proofs.Ytnphcnhejgpjgaa.Co
variable [Env]
section
variable {P : Program} [Nice P] {c : Ctx} {st : AS} {ty : TypeId}
end
section
variable {P : Program} [Nice P] {c : Ctx} {st : AS} {ty : TypeId}
end
end Go.Proofs.Ytnphcnhejgpjgaa.Abs
end
section
namespace Go.Proofs.Ytnphcnhejgpjgaa.Abs
open Go.Proofs.Ytnphcnhejgpjgaa.Co
variable [Env]
open Go.RowKit
section
variable {P : Program} [Nice P] {c : Ctx} {t : Nat → AV} {m : List Blk} {ops : Array Oper} {Q : Exit → AS → Prop} {rest : List Oper} {ty ty' : TypeId} {pos pos' : String} {af af' : Array Edge} {d e : Tmp}
end
end Go.Proofs.Ytnphcnhejgpjgaa.Abs
end
section
namespace Go.Proofs.Ytnphcnhejgpjgaa.Abs
open Go.Proofs.Ytnphcnhejgpjgaa.Co
variable [Env]
open Go.RowKit
section
variable {P : Program} [Nice P] {c : Ctx} {m : List Blk} {t : Nat → AV} {ops : Array Oper} {Q : Exit → AS → Prop} {rest : List Oper} {ty : TypeId} {pos : String} {af : Array Edge} {d : Tmp}
end
end Go.Proofs.Ytnphcnhejgpjgaa.Abs
end
section
namespace Go.Proofs.Ytnphcnhejgpjgaa.Abs
open Go.Proofs.Ytnphcnhejgpjgaa.Co
variable [Env]
open Go.RowKit
section
variable {P : Program} [Nice P] {c : Ctx} {t : Nat → AV} {m : List Blk} {ops : Array Oper} {Q : Exit → AS → Prop} {rest : List Oper} {ty : TypeId} {pos : String} {af : Array Edge} {d : Tmp}
omit [Env] [Nice P] in
theorem ra {st : AS} {t : Tmp} {ty : TypeId} {sz : Nat} {p off : Nat} {cs : List Lf} (ti : TI P ty true sz) (h : st.t t = .s (.one (.lp p off))) (hm : st.m[p]? = some (.box cs)) (hy : Nat.ble sz (cs.drop off).length = true) : ResV P st (.cell t ty) (.agg ((cs.drop off).take sz)) :=
  .agg _ _ _ _ _ ti h (.lp _ _ _ hm) (Nat.le_of_ble_eq_true hy)
omit [Env] [Nice P] in
theorem rt {st : AS} {t : Tmp} {x : SV} (h : st.t t = .s x) : ResV P st (.tmp t) x := .tmp _ _ h
end
end Go.Proofs.Ytnphcnhejgpjgaa.Abs
end
section
namespace Go.Proofs.Ytnphcnhejgpjgaa.Abs
open Go.Proofs.Ytnphcnhejgpjgaa.Co
variable [Env]
open Go.RowKit
section
variable {P : Program} [Nice P] {c : Ctx} {Q Q' Q'' : Exit → AS → Prop} {st : AS}
omit [Env] in
theorem lo {ty t : TypeId} {sz : Nat} {x : Operand} {p off : Nat} {cs : List Lf} (ti : TI P t true sz) (hx : opnd st x = .s (.one (.lp p off))) (hm : st.m[p]? = some (.box cs)) (hy : Nat.ble sz (cs.drop off).length = true) : OpV P c st (.load t x) ty (.s (.agg ((cs.drop off).take sz))) :=
  opv_loadN ti hx (.lp _ _ _ hm) (Nat.le_of_ble_eq_true hy)
omit [Env] in
theorem l1 {ty t : TypeId} {x : Operand} {p off : Nat} {cs : List Lf} {y : Lf} (ti : TI P t false 1) (hx : opnd st x = .s (.one (.lp p off))) (hm : st.m[p]? = some (.box cs)) (hy : (cs.drop off)[0]? = some y) : OpV P c st (.load t x) ty (.s (.one y)) :=
  opv_load1 ti hx (.lp _ _ _ hm) hy
end
end Go.Proofs.Ytnphcnhejgpjgaa.Abs
end
section
namespace Go.Proofs.Ytnphcnhejgpjgaa.Co
open Go Go.Proofs
theorem ok_errText (s : String) {P : Program} : Ok P (Extern.RuntimeError.text s) := trivial
instance (s : String) {P : Program} : OkC P (Extern.RuntimeError.text s) := ⟨ok_errText s⟩
theorem ok_described {P : Program} (v : Value) : Ok P (Extern.RuntimeError.described v) := by unfold Extern.RuntimeError.described; repeat' (first | exact OkC.ok | assumption | exact True.intro | (refine ok_bind ?_ (fun _ => ?_)) | (intro _) | split | (dsimp only))
instance {P : Program} (v : Value) : OkC P (Extern.RuntimeError.described v) := ⟨ok_described v⟩
theorem ok_pkgpathOf {P : Program} (v : TypeInfo) : Ok P (Extern.RuntimeError.pkgpathOf v) := by unfold Extern.RuntimeError.pkgpathOf; repeat' (first | exact OkC.ok | assumption | exact True.intro | (refine ok_bind ?_ (fun _ => ?_)) | (intro _) | split | (dsimp only))
instance {P : Program} (v : TypeInfo) : OkC P (Extern.RuntimeError.pkgpathOf v) := ⟨ok_pkgpathOf v⟩
theorem ok_tae {P : Program} (v : Array Value) : Ok P (Extern.RuntimeError.typeAssertionError v) := by unfold Extern.RuntimeError.typeAssertionError; repeat' (first | exact OkC.ok | assumption | exact True.intro | (refine ok_bind ?_ (fun _ => ?_)) | (intro _) | split | (dsimp only))
theorem ok_ute {P : Program} (v : Array Value) : Ok P (Extern.RuntimeError.unhashableTypeError v) := by
  obtain ⟨l⟩ := v
  rcases l with _ | ⟨a, _ | ⟨b, l⟩⟩
  · trivial
  · cases a
    case agg cs =>
      obtain ⟨m⟩ := cs
      rcases m with _ | ⟨p, _ | ⟨q, m⟩⟩
      · trivial
      · unfold Extern.RuntimeError.unhashableTypeError
        conv => arg 2; whnf
        repeat' (first | exact OkC.ok | assumption | exact True.intro | (refine ok_bind ?_ (fun _ => ?_)) | (intro _) | split | (dsimp only))
      · trivial
    all_goals trivial
  · trivial
theorem ok_bounds {P : Program} (v : Array Value) : Ok P (Extern.RuntimeError.boundsError v) := by
  obtain ⟨l⟩ := v
  rcases l with _ | ⟨a, _ | ⟨b, l⟩⟩
  · trivial
  · cases a
    case agg cs =>
      obtain ⟨m⟩ := cs
      rcases m with _ | ⟨p, _ | ⟨q, _ | ⟨r, _ | ⟨s, _ | ⟨t, m⟩⟩⟩⟩⟩
      · trivial
      · trivial
      · trivial
      · trivial
      · cases p <;> try trivial
        cases q <;> try trivial
        cases r <;> try trivial
        cases s <;> try trivial
        unfold Extern.RuntimeError.boundsError
        conv => arg 2; whnf
        repeat' (first | exact OkC.ok | assumption | exact True.intro | (refine ok_bind ?_ (fun _ => ?_)) | (intro _) | split | (dsimp only))
      · trivial
    all_goals trivial
  · trivial
theorem ok_row {P : Program} (args : Array Value) : ∀ i < 15, ∀ e, (Extern.RuntimeError.rows[i]?).map (·.2) = some e → Ok P (e args) := by
  intro i hi e he
  match i, hi, he with
  | 0, _, he => cases he; repeat' (first | exact OkC.ok | assumption | exact True.intro | (refine ok_bind ?_ (fun _ => ?_)) | (intro _) | split | (dsimp only))
  | 1, _, he => cases he; repeat' (first | exact OkC.ok | assumption | exact True.intro | (refine ok_bind ?_ (fun _ => ?_)) | (intro _) | split | (dsimp only))
  | 2, _, he => cases he; repeat' (first | exact OkC.ok | assumption | exact True.intro | (refine ok_bind ?_ (fun _ => ?_)) | (intro _) | split | (dsimp only))
  | 3, _, he => cases he; repeat' (first | exact OkC.ok | assumption | exact True.intro | (refine ok_bind ?_ (fun _ => ?_)) | (intro _) | split | (dsimp only))
  | 4, _, he => cases he; exact ok_bounds _
  | 5, _, he => cases he; exact ok_tae _
  | 6, _, he => cases he; repeat' (first | exact OkC.ok | assumption | exact True.intro | (refine ok_bind ?_ (fun _ => ?_)) | (intro _) | split | (dsimp only))
  | 7, _, he => cases he; exact ok_ute _
  | 8, _, he => cases he; trivial
  | 9, _, he => cases he; trivial
  | 10, _, he => cases he; trivial
  | 11, _, he => cases he; trivial
  | 12, _, he => cases he; trivial
  | 13, _, he => cases he; trivial
  | 14, _, he => cases he; trivial
theorem ok_ext_row {P : Program} {f : FuncId} {fn : Func} {args : Array Value} (i : Nat) (hi : i < 15) (hf : P.funcs[f]? = some fn) (h1 : Extern.findNext fn = none) (h2 : Extern.find fn = (Extern.RuntimeError.rows[i]?).map (·.2)) : Ok P (callFunc f args) :=
  ok_call_ext hf h1 fun e he => ok_row args i hi e (h2.symm.trans he)
theorem ok_ext_none {P : Program} {f : FuncId} {fn : Func} {args : Array Value} (hf : P.funcs[f]? = some fn) (h1 : Extern.findNext fn = none) (h2 : Extern.find fn = none) : Ok P (callFunc f args) :=
  ok_call_ext hf h1 fun e he => by rw [h2] at he; cases he
theorem bodies13 : (((List.range 52).drop 3).all fun f => ((Try.prog.funcs[f]?).map fun fn => !fn.body.isNone).getD true) = true := by kernel_rfl
theorem size13 : Try.prog.funcs.size = 69 := by kernel_rfl
theorem kind68 : Extern.find Try.f68 = (Extern.ReflectliteType.rows.getLast?).map (·.2) := by kernel_rfl
theorem ok_kind68 {P : Program} (args : Array Value) (e : Array Value → Sem Value) (he : (Extern.ReflectliteType.rows.getLast?).map (·.2) = some e) : Ok P (e args) := by
  cases he
  repeat' (first | exact OkC.ok | assumption | exact True.intro | (refine ok_bind ?_ (fun _ => ?_)) | (intro _) | split | (dsimp only))
theorem nice13a (args : Array Value) : ∀ j < 17, Ok Try.prog (callFunc (52 + j) args) := by
  intro j hj
  match j, hj with
  | 0, _ => exact ok_ext_row 4 (by decide) Try.func52 (by kernel_rfl) (by kernel_rfl)
  | 1, _ => exact ok_ext_row 11 (by decide) Try.func53 (by kernel_rfl) (by kernel_rfl)
  | 2, _ => exact ok_ext_row 0 (by decide) Try.func54 (by kernel_rfl) (by kernel_rfl)
  | 3, _ => exact ok_ext_row 8 (by decide) Try.func55 (by kernel_rfl) (by kernel_rfl)
  | 4, _ => exact ok_ext_row 1 (by decide) Try.func56 (by kernel_rfl) (by kernel_rfl)
  | 5, _ => exact ok_ext_row 9 (by decide) Try.func57 (by kernel_rfl) (by kernel_rfl)
  | 6, _ => exact ok_ext_row 2 (by decide) Try.func58 (by kernel_rfl) (by kernel_rfl)
  | 7, _ => exact ok_ext_row 10 (by decide) Try.func59 (by kernel_rfl) (by kernel_rfl)
  | 8, _ => exact ok_ext_row 5 (by decide) Try.func60 (by kernel_rfl) (by kernel_rfl)
  | 9, _ => exact ok_ext_row 12 (by decide) Try.func61 (by kernel_rfl) (by kernel_rfl)
  | 10, _ => exact ok_ext_row 6 (by decide) Try.func62 (by kernel_rfl) (by kernel_rfl)
  | 11, _ => exact ok_ext_row 13 (by decide) Try.func63 (by kernel_rfl) (by kernel_rfl)
  | 12, _ => exact ok_ext_none Try.func64 (by kernel_rfl) (by kernel_rfl)
  | 13, _ => exact ok_ext_row 7 (by decide) Try.func65 (by kernel_rfl) (by kernel_rfl)
  | 14, _ => exact ok_ext_row 14 (by decide) Try.func66 (by kernel_rfl) (by kernel_rfl)
  | 15, _ => exact ok_ext_none Try.func67 (by kernel_rfl) (by kernel_rfl)
  | 16, _ => exact ok_call_ext Try.func68 (by kernel_rfl) fun e he => ok_kind68 args e (kind68.symm.trans he)
  | j + 17, hj => exact absurd hj (Nat.not_lt.2 (Nat.le_add_left 17 j))
instance nice13 : Nice Try.prog := ⟨fun f args => by
  rcases Nat.lt_or_ge f 3 with h3 | h3
  · match f, h3 with
    | 0, _ => exact ok_ext_none Try.func0 (by kernel_rfl) (by kernel_rfl)
    | 1, _ => exact ok_ext_none Try.func1 (by kernel_rfl) (by kernel_rfl)
    | 2, _ => exact ok_ext_none Try.func2 (by kernel_rfl) (by kernel_rfl)
    | f + 3, h => exact absurd h (by omega)
  rcases Nat.lt_or_ge f 52 with h | h
  · cases hf : Try.prog.funcs[f]? with
    | none => exact ok_call_none hf
    | some fn =>
      have hb := List.all_eq_true.1 bodies13 f (by
        rw [List.mem_drop_iff_getElem]
        exact ⟨f - 3, by simp; omega, by simp; omega⟩)
      rw [hf] at hb
      exact ok_call hf (by simpa using hb)
  · rcases Nat.lt_or_ge f 69 with h2 | h2
    · obtain ⟨j, rfl⟩ : ∃ j, f = 52 + j := ⟨f - 52, (Nat.add_sub_cancel' h).symm⟩
      exact nice13a args j (Nat.lt_of_add_lt_add_left (show 52 + j < 52 + 17 from h2))
    · exact ok_call_none (Array.getElem?_eq_none (by rw [size13]; exact h2))⟩
end Go.Proofs.Ytnphcnhejgpjgaa.Co
end
section
namespace Go.Proofs.Ytnphcnhejgpjgaa.Abs
open Go.Proofs.Ytnphcnhejgpjgaa.Co
open Go.RowKit Go.Proofs
variable [Env]
structure GR13Timer where
  ID : Int
  At : Int
def eGR13Timer (x : GR13Timer) : List Lf := [.i .i64 x.ID, .i .i64 x.At]

structure GR13Table where
  Now : Int
  L : List GR13Timer
def eGR13Table (x : GR13Table) : List Lf := [.i .i64 x.Now, .sl x.L.length (x.L.flatMap eGR13Timer)]

structure GTimersTimer where
  ID : Int
  At : Int
def eGTimersTimer (x : GTimersTimer) : List Lf := [.i .i64 x.ID, .i .i64 x.At]

structure GTimersTable where
  Now : Int
  L : List GTimersTimer
def eGTimersTable (x : GTimersTable) : List Lf := [.i .i64 x.Now, .sl x.L.length (x.L.flatMap eGTimersTimer)]

structure GL13Act where
  What : Int
  ID : Int
  N : Int
def eGL13Act (x : GL13Act) : List Lf := [.i .i64 x.What, .i .i64 x.ID, .i .i64 x.N]

instance : Coe GR13Timer (List Lf) := ⟨eGR13Timer⟩
instance : Coe GR13Table (List Lf) := ⟨eGR13Table⟩
instance : Coe GTimersTimer (List Lf) := ⟨eGTimersTimer⟩
instance : Coe GTimersTable (List Lf) := ⟨eGTimersTable⟩
instance : Coe GL13Act (List Lf) := ⟨eGL13Act⟩
omit [Env] in
theorem zi28 : ZI Try.prog 28 ([.i .i64 0, .raw (.slice none 0 0)]) := zi_of (by kernel_rfl)
omit [Env] in
theorem pi28 : PI Try.prog 28 [(0, 1), (1, 1)] := pi_of Try.underlying28 (by kernel_rfl) (by kernel_rfl)
omit [Env] in
theorem ti28 : TI Try.prog 28 true 2 := ⟨⟨_, Try.underlying28, rfl⟩, by kernel_rfl⟩
omit [Env] in
theorem fi28_0 : FI Try.prog 28 0 0 := ⟨⟨_, _, 1, Try.underlying28, rfl, rfl, by kernel_rfl, by decide⟩⟩
omit [Env] in
theorem ti3 : TI Try.prog 3 false 1 := ⟨⟨_, Try.underlying3, rfl⟩, by kernel_rfl⟩
omit [Env] in
theorem fi28_1 : FI Try.prog 28 1 1 := ⟨⟨_, _, 1, Try.underlying28, rfl, rfl, by kernel_rfl, by decide⟩⟩
omit [Env] in
theorem ti26 : TI Try.prog 26 false 1 := ⟨⟨_, Try.underlying26, rfl⟩, by kernel_rfl⟩
omit [Env] in
theorem si26 : SI Try.prog 26 61 2 := ⟨Try.underlying26, by kernel_rfl, by decide⟩
omit [Env] in
theorem ti61 : TI Try.prog 61 true 2 := ⟨⟨_, Try.underlying61, rfl⟩, by kernel_rfl⟩
omit [Env] in
theorem zi61 : ZI Try.prog 61 ([.i .i64 0, .i .i64 0]) := zi_of (by kernel_rfl)
omit [Env] in
theorem sz61 : (Try.prog.info? 61).map (·.size) = some 2 := by kernel_rfl
omit [Env] in
theorem fi61_0 : FI Try.prog 61 0 0 := ⟨⟨_, _, 1, Try.underlying61, rfl, rfl, by kernel_rfl, by decide⟩⟩
omit [Env] in
theorem fi61_1 : FI Try.prog 61 1 1 := ⟨⟨_, _, 1, Try.underlying61, rfl, rfl, by kernel_rfl, by decide⟩⟩
omit [Env] in
theorem fn20 : FnI Try.prog 20 := ⟨⟨_, Try.func20, by kernel_rfl, by kernel_rfl⟩⟩
omit [Env] in
theorem sz28 : (Try.prog.info? 28).map (·.size) = some 2 := by kernel_rfl
omit [Env] in
theorem mixed : Try.prog.follows .mixedOrders = true := by kernel_rfl
omit [Env] in
theorem ei61 : EI Try.prog 61 2 16 [.i .i64 0, .i .i64 0] := ei_of (by kernel_rfl) (by decide)
omit [Env] in
theorem ni26 : NI Try.prog 26 := ⟨.inl ⟨_, Try.underlying26⟩⟩
omit [Env] in
theorem fn22 : FnI Try.prog 22 := ⟨⟨_, Try.func22, by kernel_rfl, by kernel_rfl⟩⟩
omit [Env] in
theorem ft28_1 : FT Try.prog 28 1 1 26 := ⟨⟨_, _, Try.underlying28, rfl, rfl, rfl⟩⟩
omit [Env] in
theorem fn26 : FnI Try.prog 26 := ⟨⟨_, Try.func26, by kernel_rfl, by kernel_rfl⟩⟩
omit [Env] in
theorem pi61 : PI Try.prog 61 [(0, 1), (1, 1)] := pi_of Try.underlying61 (by kernel_rfl) (by kernel_rfl)



omit [Env] in
theorem fn27 : FnI Try.prog 27 := ⟨⟨_, Try.func27, by kernel_rfl, by kernel_rfl⟩⟩
omit [Env] in
theorem fn9 : FnI Try.prog 9 := ⟨⟨_, Try.func9, by kernel_rfl, by kernel_rfl⟩⟩
omit [Env] in
theorem fn11 : FnI Try.prog 11 := ⟨⟨_, Try.func11, by kernel_rfl, by kernel_rfl⟩⟩
omit [Env] in
theorem fn45 : FnI Try.prog 45 := ⟨⟨_, Try.func45, by kernel_rfl, by kernel_rfl⟩⟩
omit [Env] in
theorem fn34 : FnI Try.prog 34 := ⟨⟨_, Try.func34, by kernel_rfl, by kernel_rfl⟩⟩
omit [Env] in
theorem fn28 : FnI Try.prog 28 := ⟨⟨_, Try.func28, by kernel_rfl, by kernel_rfl⟩⟩
omit [Env] in
theorem fn31 : FnI Try.prog 31 := ⟨⟨_, Try.func31, by kernel_rfl, by kernel_rfl⟩⟩
omit [Env] in
theorem fn30 : FnI Try.prog 30 := ⟨⟨_, Try.func30, by kernel_rfl, by kernel_rfl⟩⟩
omit [Env] in
theorem ft61_1 : FT Try.prog 61 1 1 3 := ⟨⟨_, _, Try.underlying61, rfl, rfl, rfl⟩⟩
omit [Env] in
theorem fn16 : FnI Try.prog 16 := ⟨⟨_, Try.func16, by kernel_rfl, by kernel_rfl⟩⟩
omit [Env] in
theorem si35 : SI Try.prog 35 3 1 := ⟨Try.underlying35, by kernel_rfl, by decide⟩
omit [Env] in
theorem fn7 : FnI Try.prog 7 := ⟨⟨_, Try.func7, by kernel_rfl, by kernel_rfl⟩⟩
omit [Env] in
theorem fi24_1 : FI Try.prog 24 1 1 := ⟨⟨_, _, 1, Try.underlying24, rfl, rfl, by kernel_rfl, by decide⟩⟩
omit [Env] in
theorem ti22 : TI Try.prog 22 false 1 := ⟨⟨_, Try.underlying22, rfl⟩, by kernel_rfl⟩
omit [Env] in
theorem si22 : SI Try.prog 22 60 2 := ⟨Try.underlying22, by kernel_rfl, by decide⟩
omit [Env] in
theorem ti24 : TI Try.prog 24 true 2 := ⟨⟨_, Try.underlying24, rfl⟩, by kernel_rfl⟩
omit [Env] in
theorem fi24_0 : FI Try.prog 24 0 0 := ⟨⟨_, _, 1, Try.underlying24, rfl, rfl, by kernel_rfl, by decide⟩⟩
omit [Env] in
theorem fi60_0 : FI Try.prog 60 0 0 := ⟨⟨_, _, 1, Try.underlying60, rfl, rfl, by kernel_rfl, by decide⟩⟩
omit [Env] in
theorem fi60_1 : FI Try.prog 60 1 1 := ⟨⟨_, _, 1, Try.underlying60, rfl, rfl, by kernel_rfl, by decide⟩⟩
omit [Env] in
theorem sz26 : (Try.prog.info? 26).map (·.size) = some 1 := by kernel_rfl
omit [Env] in
theorem fn8 : FnI Try.prog 8 := ⟨⟨_, Try.func8, by kernel_rfl, by kernel_rfl⟩⟩
omit [Env] in
theorem zi24 : ZI Try.prog 24 ([.i .i64 0, .raw (.slice none 0 0)]) := zi_of (by kernel_rfl)
omit [Env] in
theorem ti60 : TI Try.prog 60 true 2 := ⟨⟨_, Try.underlying60, rfl⟩, by kernel_rfl⟩
omit [Env] in
theorem zi60 : ZI Try.prog 60 ([.i .i64 0, .i .i64 0]) := zi_of (by kernel_rfl)
omit [Env] in
theorem sz60 : (Try.prog.info? 60).map (·.size) = some 2 := by kernel_rfl
omit [Env] in
theorem fn21 : FnI Try.prog 21 := ⟨⟨_, Try.func21, by kernel_rfl, by kernel_rfl⟩⟩
omit [Env] in
theorem pi24 : PI Try.prog 24 [(0, 1), (1, 1)] := pi_of Try.underlying24 (by kernel_rfl) (by kernel_rfl)
omit [Env] in
theorem sz24 : (Try.prog.info? 24).map (·.size) = some 2 := by kernel_rfl
omit [Env] in
theorem ei60 : EI Try.prog 60 2 16 [.i .i64 0, .i .i64 0] := ei_of (by kernel_rfl) (by decide)
omit [Env] in
theorem ni22 : NI Try.prog 22 := ⟨.inl ⟨_, Try.underlying22⟩⟩
omit [Env] in
theorem sz22 : (Try.prog.info? 22).map (·.size) = some 1 := by kernel_rfl
omit [Env] in
theorem fn23 : FnI Try.prog 23 := ⟨⟨_, Try.func23, by kernel_rfl, by kernel_rfl⟩⟩
omit [Env] in
theorem pi60 : PI Try.prog 60 [(0, 1), (1, 1)] := pi_of Try.underlying60 (by kernel_rfl) (by kernel_rfl)
omit [Env] in
theorem fn10 : FnI Try.prog 10 := ⟨⟨_, Try.func10, by kernel_rfl, by kernel_rfl⟩⟩
omit [Env] in
theorem ei3 : EI Try.prog 3 1 8 [.i .i64 0] := ei_of (by kernel_rfl) (by decide)
omit [Env] in
theorem ni35 : NI Try.prog 35 := ⟨.inl ⟨_, Try.underlying35⟩⟩
omit [Env] in
theorem fn12 : FnI Try.prog 12 := ⟨⟨_, Try.func12, by kernel_rfl, by kernel_rfl⟩⟩
omit [Env] in
theorem fn14 : FnI Try.prog 14 := ⟨⟨_, Try.func14, by kernel_rfl, by kernel_rfl⟩⟩
omit [Env] in
theorem et60 : EqT Try.prog 60 [0, 0] := ⟨by kernel_rfl, by kernel_rfl, by kernel_rfl, by kernel_rfl⟩
omit [Env] in
theorem fn13 : FnI Try.prog 13 := ⟨⟨_, Try.func13, by kernel_rfl, by kernel_rfl⟩⟩
omit [Env] in
theorem fn15 : FnI Try.prog 15 := ⟨⟨_, Try.func15, by kernel_rfl, by kernel_rfl⟩⟩
omit [Env] in
theorem fn17 : FnI Try.prog 17 := ⟨⟨_, Try.func17, by kernel_rfl, by kernel_rfl⟩⟩
omit [Env] in
theorem fn18 : FnI Try.prog 18 := ⟨⟨_, Try.func18, by kernel_rfl, by kernel_rfl⟩⟩
omit [Env] in
theorem fn19 : FnI Try.prog 19 := ⟨⟨_, Try.func19, by kernel_rfl, by kernel_rfl⟩⟩
omit [Env] in
theorem si53 : SI Try.prog 53 69 3 := ⟨Try.underlying53, by kernel_rfl, by decide⟩
omit [Env] in
theorem fi69_0 : FI Try.prog 69 0 0 := ⟨⟨_, _, 1, Try.underlying69, rfl, rfl, by kernel_rfl, by decide⟩⟩
omit [Env] in
theorem fi69_1 : FI Try.prog 69 1 1 := ⟨⟨_, _, 1, Try.underlying69, rfl, rfl, by kernel_rfl, by decide⟩⟩
omit [Env] in
theorem fi69_2 : FI Try.prog 69 2 2 := ⟨⟨_, _, 1, Try.underlying69, rfl, rfl, by kernel_rfl, by decide⟩⟩
omit [Env] in
theorem fn24 : FnI Try.prog 24 := ⟨⟨_, Try.func24, by kernel_rfl, by kernel_rfl⟩⟩
omit [Env] in
theorem fn25 : FnI Try.prog 25 := ⟨⟨_, Try.func25, by kernel_rfl, by kernel_rfl⟩⟩

def m22_timers_Clear_k1 (a0 : GTimersTable) (b1 : (List GTimersTimer)) : Option GTimersTable :=
  some (GTimersTable.mk a0.Now b1)

def m22_timers_Clear_s2 (a0 : GTimersTable) (a1 : Int) (s2 : Int × (List GTimersTimer)) : Option (LB (Int × (List GTimersTimer)) ((List GTimersTimer))) :=
  if (decide (s2.1 < (a0.L.length : Int))) then ((idx a0.L s2.1).bind fun u3 => if (!decide (u3.ID = a1)) then (if (s2.2.length + [u3].length) * 16 ≤ 140737488355328 then (some (.cont ((wI (s2.1 + 1)), (s2.2 ++ [u3])))) else none) else (some (.cont ((wI (s2.1 + 1)), s2.2)))) else (some (.brk s2.2))
def m22_timers_Clear (a0 : GTimersTable) (a1 : Int) : Option GTimersTable :=
  (iterB (m22_timers_Clear_s2 a0 a1) fuel (0, ([] : List GTimersTimer))).bind fun e5 => m22_timers_Clear_k1 a0 e5

set_option maxRecDepth 100000 in
theorem m22_timers_Clear_c {a0 : GTimersTable} {a1 : Int} {r : GTimersTable} (h : m22_timers_Clear a0 a1 = some r) : CallsA Try.prog 22 [.agg a0, .one (.i .i64 a1)] (· = .s (.agg r)) := by
  unfold m22_timers_Clear at h
  refine callsA_of Try.func22 rfl (nt := 28) rfl (Nat.le_of_ble_eq_true rfl) ?_
  intro w0 S0
  refine cseq ?_
  refine cregion ?_
  refine sbox rfl rfl ?_
  refine salloc rfl zi28 ?_
  refine snil ?_
  refine cseq ?_
  refine cregion ?_
  refine sv rfl (opv_as rfl) ?_
  refine snil ?_
  refine cseq ?_
  refine cseq ?_
  refine cregion ?_
  refine sv rfl (opv_fieldAddr_lp fi28_1 rfl) ?_
  refine sv rfl (opv_load1 ti26 rfl (.lp _ _ _ rfl) rfl) ?_
  refine sv rfl (opv_len_sl si26 rfl) ?_
  refine sv rfl (opv_mv rfl) ?_
  refine snil ?_
  refine sadopt_c 61 2 5 (by decide) rfl ?_
  refine cjoin ((List GTimersTimer)) (fun b1 => [(2, .s (.one (.lp 0 0))), (4, .s (.one (.lp 1 0))), (5, .s (.one (.ls 2 b1.length)))]) (fun b1 => [.box a0, .box [.i .i64 0, .raw (.slice none 0 0)], .arr 61 2 0 (b1.flatMap eGTimersTimer)]) (fun b1 => m22_timers_Clear_k1 a0 b1 = some r) (fun _ _ => inbL_of rfl) (fun _ _ => blkinb_of rfl) (fun _ _ => Nat.le_of_ble_eq_true rfl) (fun b1 h => ?_) ?_
  · unfold m22_timers_Clear_k1 at h
    refine cseq ?_
    refine cregion ?_
    refine sv rfl (opv_fieldAddr_lp fi28_0 rfl) ?_
    refine sv rfl (opv_load1 ti3 rfl (.lp _ _ _ rfl) rfl) ?_
    refine sv rfl (opv_mv rfl) ?_
    refine sv rfl (opv_build zi28 pi28 (parts_cons rfl (parts_cons rfl parts_nil)) (.cons _ _ _ _ _ _ _ rfl rfl (Nat.le_of_ble_eq_true rfl) (.cons _ _ _ _ _ _ _ rfl rfl (Nat.le_of_ble_eq_true rfl) (.nil _)))) ?_
    refine sstore sz28 rfl rfl rfl rfl (Nat.le_of_ble_eq_true rfl) ?_
    refine smem [.box a0, .box [.i .i64 a0.Now, .ls 2 b1.length], .arr 61 2 0 (b1.flatMap eGTimersTimer)] rfl ?_
    refine snil ?_
    refine cret ?_
    obtain rfl := Option.some.inj h
    refine ⟨Or.inr rfl, _, _, _, (resVs_cons (ResV.agg _ _ _ _ _ ti28 rfl (.lp _ _ _ rfl) (Nat.le_of_ble_eq_true rfl)) resVs_nil), (by (repeat' first | exact PubA.nil _ | apply PubA.cons | apply PubV.one | apply PubV.agg | exact PubL.nil | exact PubL.ls _ _ _ _ _ _ rfl (flat_len (f := eGTimersTimer) (fun _ => rfl) _).symm | exact PubL.id _ rfl | exact PubLs.nil _ | apply PubLs.cons)), ?_⟩
    rfl
  · skip
    refine cblock ?_
    obtain ⟨x2, hx2, ho2⟩ := bind_eq h
    refine awc_loop (G := Nat × (Int × (List GTimersTimer))) (fun g => [(1, .s (.one (.i .i64 a1))), (2, .s (.one (.lp 0 0))), (4, .s (.one (.lp 1 0))), (5, .s (.one (.ls 2 g.2.2.length))), (9, .s (.one (.sl a0.L.length (a0.L.flatMap eGTimersTimer)))), (10, .s (.one (.i .i64 (a0.L.length : Int)))), (11, .s (.one (.i .i64 g.2.1)))]) (fun g => [.box a0, .box [.i .i64 0, .raw (.slice none 0 0)], .arr 61 2 0 (g.2.2.flatMap eGTimersTimer)]) (fun g => iterB (m22_timers_Clear_s2 a0 a1) g.1 g.2 = some x2) (fun g => g.1) (fuel, (0, ([] : List GTimersTimer))) hx2 ⟨rfl, rfl, rfl, rfl, rfl, rfl, rfl, trivial⟩ [] rfl (fun _ _ => inbL_of rfl) (fun _ _ => blkinb_of rfl) (fun _ _ => Nat.le_of_ble_eq_true rfl) ?_
    clear hx2 h
    rintro ⟨n2, s2⟩ h
    obtain ⟨n2, y2, rfl, h, hk2⟩ := iterB_eq h
    unfold m22_timers_Clear_s2 at h
    refine cseq ?_
    refine cregion ?_
    refine sv rfl (opv_lss rfl rfl) ?_
    refine snil ?_
    refine cseq ?_
    refine ccond rfl (fun hc => ?_) (fun hc => ?_)
    · replace h := ite_t hc h
      clear hc
      refine cskip ?_
      refine then_normal ?_
      refine cseq ?_
      refine cblock ?_
      refine cseq ?_
      refine cregion ?_
      obtain ⟨u3, hu3, h⟩ := bind_eq h
      refine sv rfl (opv_ix (f := eGTimersTimer) si26 (fun _ => rfl) rfl rfl rfl rfl hu3) ?_
      refine sv rfl (opv_loadNe (ys := [.i .i64 u3.ID, .i .i64 u3.At]) ti61 rfl (.cp _) rfl rfl) ?_
      refine salloc rfl zi61 ?_
      refine sstore sz61 rfl rfl rfl rfl (Nat.le_of_ble_eq_true rfl) ?_
      refine smem [.box a0, .box [.i .i64 0, .raw (.slice none 0 0)], .arr 61 2 0 (s2.2.flatMap eGTimersTimer), .box [.i .i64 u3.ID, .i .i64 u3.At]] rfl ?_
      refine snil ?_
      refine cseq ?_
      refine cregion ?_
      refine sv rfl (opv_fieldAddr_lp fi61_0 rfl) ?_
      refine sv rfl (opv_load1 ti3 rfl (.lp _ _ _ rfl) rfl) ?_
      refine sv rfl (opv_mv rfl) ?_
      refine sv rfl (opv_ineq rfl rfl) ?_
      refine snil ?_
      refine ccond rfl (fun hc => ?_) (fun hc => ?_)
      · replace h := ite_t hc h
        clear hc
        refine cregion ?_
        refine sv rfl (opv_mv rfl) ?_
        refine sv rfl (opv_loadN ti61 rfl (.lp _ _ _ rfl) (Nat.le_of_ble_eq_true rfl)) ?_
        refine sbuild1 rfl Try.underlying26 ei61 rfl rfl (List.all_eq_true.1 rfl) (by decide) ?_
        refine smem [.box a0, .box [.i .i64 0, .raw (.slice none 0 0)], .arr 61 2 0 (s2.2.flatMap eGTimersTimer), .box [.i .i64 u3.ID, .i .i64 u3.At], .arr 61 2 0 ([u3].flatMap eGTimersTimer)] rfl ?_
        obtain ⟨hb4, h⟩ := chk_eq h
        refine sapp (f := eGTimersTimer) (xs := s2.2) (us := [u3]) rfl Try.underlying26 ei61 ni26 (fun _ => rfl) rfl rfl (.one _ _ _ _ (.ls _ _ _ _ _ _ rfl (flat_len (f := eGTimersTimer) (fun _ => rfl) [u3]).symm)) rfl rfl rfl (.sl _ _ _ (flat_len (f := eGTimersTimer) (fun _ => rfl) _)) rfl rfl hb4 (by decide) ?_
        refine sv rfl (opv_as rfl) ?_
        refine snil0 ?_
        refine block_normal ?_
        refine then_normal ?_
        refine cregion ?_
        refine sv rfl (opv_add rfl rfl) ?_
        refine sv rfl (opv_mv rfl) ?_
        refine snil ?_
        obtain rfl := Option.some.inj h
        exact ⟨(n2, ((wI (s2.1 + 1)), (s2.2 ++ [u3]))), _, hk2, ⟨rfl, rfl, rfl, rfl, rfl, rfl, rfl, trivial⟩, rfl, Nat.lt_succ_self _⟩
      · replace h := ite_f hc h
        clear hc
        refine cskip ?_
        refine block_normal ?_
        refine then_normal ?_
        refine cregion ?_
        refine sv rfl (opv_add rfl rfl) ?_
        refine sv rfl (opv_mv rfl) ?_
        refine snil ?_
        obtain rfl := Option.some.inj h
        exact ⟨(n2, ((wI (s2.1 + 1)), s2.2)), _, hk2, ⟨rfl, rfl, rfl, rfl, rfl, rfl, rfl, trivial⟩, rfl, Nat.lt_succ_self _⟩
    · replace h := ite_f hc h
      clear hc
      refine cexit ?_
      refine then_exit ?_
      refine then_exit ?_
      refine block_hit ?_
      refine then_normal ?_
      obtain rfl := Option.some.inj h
      obtain rfl : _ = x2 := hk2
      exact ⟨s2.2, _, ho2, ⟨rfl, rfl, rfl, trivial⟩, rfl⟩

def m20_timers_Sane_k2 (b2 : Unit) : Option Bool :=
  some true

def m20_timers_Sane_k5 (s3 : Int × Int) (u4 : GTimersTimer) (b5 : Unit) : Option (LR (Int × Int) (Unit) (Bool)) :=
  some (.cont (u4.ID, (wI (s3.2 + 1))))

def m20_timers_Sane_s3 (a0 : GTimersTable) (s3 : Int × Int) : Option (LR (Int × Int) (Unit) (Bool)) :=
  if (decide (s3.2 < (a0.L.length : Int))) then ((idx a0.L s3.2).bind fun u4 => if (decide (u4.ID ≤ s3.1)) then (some (.ret false)) else (if (decide (u4.At ≤ a0.Now)) then (some (.ret false)) else (if (decide (2199023255552 < u4.At)) then (some (.ret false)) else (m20_timers_Sane_k5 s3 u4 ())))) else (some (.brk ()))

def m20_timers_Sane_k1 (a0 : GTimersTable) (b1 : Unit) : Option Bool :=
  (iter (m20_timers_Sane_s3 a0) fuel ((-1), 0)).bind fun x => match x with | .inl r => some r | .inr e6 => m20_timers_Sane_k2 e6
def m20_timers_Sane (a0 : GTimersTable) : Option Bool :=
  if (decide (a0.Now < 0)) then (some false) else (if (decide (1099511627776 < a0.Now)) then (some false) else (if (decide (64 < (a0.L.length : Int))) then (some false) else (m20_timers_Sane_k1 a0 ())))


/-- What Tick does with what it receives. -/
def tkGo : List Int → GTimersTable → List Int → Option (GTimersTable × List Int)
  | [], next, gone => some (next, gone)
  | id :: ids, next, gone => (m22_timers_Clear next id).bind fun n => if (gone.length + [id].length) * 8 ≤ 140737488355328 then tkGo ids n (gone ++ [id]) else none
def sortAt (a : List GTimersTimer) : List GTimersTimer := a.mergeSort fun x y => decide (x.At < y.At ∨ x.At = y.At ∧ x.ID ≤ y.ID)
/-- The IDs that are due by now, in their order. -/
def dueIds (a : List GTimersTimer) (now : Int) : List Int := ((sortAt a).filter fun x => decide (x.At ≤ now)).map (·.ID)
def m11_timers_Tick (a0 : GTimersTable) (a1 : Int) : Option (GTimersTable × (List Int) × Int) :=
  (m20_timers_Sane a0).bind fun v => if (!v) then (some ((GTimersTable.mk 0 ([] : List GTimersTimer)), ([] : List Int), 1)) else (if (decide (a1 < 0)) then (some ((GTimersTable.mk 0 ([] : List GTimersTimer)), ([] : List Int), 1)) else
    (if (decide ((wI (1099511627776 - a0.Now)) < a1)) then (some ((GTimersTable.mk 0 ([] : List GTimersTimer)), ([] : List Int), 11)) else
      (if (([] : List GTimersTimer).length + a0.L.length) * 16 ≤ 140737488355328 then ((tkGo (dueIds a0.L (wI (a0.Now + a1))) (GTimersTable.mk (wI (a0.Now + a1)) a0.L) []).bind fun x => some (x.1, x.2, 0)) else none)))
end Go.Proofs.Ytnphcnhejgpjgaa.Abs
end
section
namespace Go.Proofs.Ytnphcnhejgpjgaa.Co
open Go.Conc

/-- w, with another tape, read from another place on. -/
def World.ta (w : World) (t : Nat → Question → Nat) (d : Nat) : World := { w with tape := t, drawn := d }
/-- From their places on the tapes give the same n answers. -/
def Same (w : World) (t : Nat → Question → Nat) (d n : Nat) : Prop := ∀ i < n, ∀ q, t (d + i) q = w.tape (w.drawn + i) q

theorem ta_self (w : World) : World.ta w w.tape w.drawn = w := rfl
theorem farStore_ta {P : Program} (w : World) (t : Nat → Question → Nat) (d : Nat) (a : Addr) (v : Value) (b : Bool) :
    (World.ta w t d).farStore P a v b = match w.farStore P a v b with
      | .ok (w', l) => .ok (World.ta w' t d, l)
      | .error e => .error e := by
  have hh' : (World.ta w t d).heap[a.block]? = w.heap[a.block]? := rfl
  have key : ∀ at_ u, (World.ta w t d).viewStore P at_ u a v b = match w.viewStore P at_ u a v b with
      | .ok (w', l) => .ok (World.ta w' t d, l)
      | .error e => .error e := by
    intro at_ u
    unfold World.viewStore
    simp only [bind, Except.bind, throw, throwThe, MonadExceptOf.throw, pure, Except.pure]
    have hs : (World.ta w t d).seen P at_ u a b = w.seen P at_ u a b := rfl
    rw [hs]
    split
    · rfl
    · split
      · rfl
      · split
        · split
          · rfl
          · split
            · rfl
            · rfl
        · rfl
  cases hh : w.heap[a.block]? with
  | none => simp only [World.farStore, hh', hh]; rfl
  | some o =>
    cases o with
    | view at_ u =>
      simp only [World.farStore, hh', hh, key]
      cases w.viewStore P at_ u a v b with
      | ok r => rfl
      | error e => rfl
    | _ => simp only [World.farStore, hh', hh] <;> rfl
theorem farStore_tape {P : Program} {w : World} {a : Addr} {v : Value} {b : Bool} {w' : World} {l : List Addr} (h : w.farStore P a v b = .ok (w', l)) : w'.tape = w.tape ∧ w'.drawn = w.drawn := by
  unfold World.farStore at h
  split at h
  · rename_i at_ u hh
    split at h
    · rename_i r hr
      cases h
      unfold World.viewStore at hr
      simp only [bind, Except.bind, throw, throwThe, MonadExceptOf.throw, pure, Except.pure] at hr
      split at hr
      · cases hr
      · split at hr
        · cases hr
        · split at hr
          · split at hr
            · cases hr
            · split at hr
              · cases hr
              · cases hr; exact ⟨rfl, rfl⟩
          · cases hr
    · cases h
  · cases h

/-- What s does in w, it does wherever the tape says the same: n answers are read. -/
def Loc {α : Type} (P : Program) (s : Sem α) (w : World) (n : Nat) : Prop :=
  match s.run P w with
  | .ok x w' => w'.tape = w.tape ∧ w'.drawn = w.drawn + n ∧ ∀ t d, Same w t d n → s.run P (World.ta w t d) = .ok x (World.ta w' t (d + n))
  | .halt h _ => ∀ t d, Same w t d n → ∃ w', s.run P (World.ta w t d) = .halt h w'

theorem loc_congr {α : Type} {P : Program} {s s' : Sem α} {w : World} {n : Nat} (h : ∀ t d, s.run P (World.ta w t d) = s'.run P (World.ta w t d)) (hl : Loc P s' w n) : Loc P s w n := by
  unfold Loc at hl ⊢
  have e := h w.tape w.drawn
  rw [ta_self] at e
  rw [e]
  split
  · rename_i x w' hr
    rw [hr] at hl
    exact ⟨hl.1, hl.2.1, fun t d hs => by rw [h]; exact hl.2.2 t d hs⟩
  · rename_i hh w' hr
    rw [hr] at hl
    exact fun t d hs => by rw [h]; exact hl t d hs
/-- s goes on as s', in the world f w. -/
theorem loc_to {α : Type} {P : Program} {s s' : Sem α} {w : World} {n : Nat} {f : World → World} (ht : (f w).tape = w.tape ∧ (f w).drawn = w.drawn) (hf : ∀ t d, f (World.ta w t d) = World.ta (f w) t d)
    (h : ∀ t d, s.run P (World.ta w t d) = s'.run P (f (World.ta w t d))) (hl : Loc P s' (f w) n) : Loc P s w n := by
  unfold Loc at hl ⊢
  have e := h w.tape w.drawn
  rw [ta_self] at e
  rw [e]
  have hs' : ∀ {t d n}, Same w t d n → Same (f w) t d n := fun h i hi q => by rw [h i hi q, ht.1, ht.2]
  split
  · rename_i x w' hr
    rw [hr] at hl
    exact ⟨hl.1.trans ht.1, by rw [hl.2.1, ht.2], fun t d hs => by rw [h, hf]; exact hl.2.2 t d (hs' hs)⟩
  · rename_i hh w' hr
    rw [hr] at hl
    exact fun t d hs => by rw [h, hf]; exact hl t d (hs' hs)
theorem loc_halt {α : Type} {P : Program} {s : Sem α} {w : World} {h : Halt} (e : ∀ t d, ∃ w', s.run P (World.ta w t d) = .halt h w') : Loc P s w 0 := by
  unfold Loc
  obtain ⟨w', e1⟩ := e w.tape w.drawn
  rw [ta_self] at e1
  rw [e1]
  exact fun t d _ => e t d

theorem loc_ok {P : Program} {α : Type} {s : Sem α} (h : Ok P s) : ∀ (w : World), ∃ n, Loc P s w n := by
  induction s with
  | pure a => exact fun w => ⟨0, rfl, rfl, fun t d _ => rfl⟩
  | load m a k ih =>
    intro w
    cases hc : w.cell? a with
    | some v =>
      obtain ⟨n, hn⟩ := ih v (h v) w
      exact ⟨n, loc_congr (fun t d => by
        have : (World.ta w t d).cell? a = some v := hc
        simp only [Sem.run, this]) hn⟩
    | none =>
      cases hf : w.farLoad P a (m == Go.Mode.atomic) with
      | ok r =>
        obtain ⟨v, l⟩ := r
        obtain ⟨n, hn⟩ := ih v (h v) w
        exact ⟨n, loc_congr (fun t d => by
          have h1 : (World.ta w t d).cell? a = none := hc
          have h2 : (World.ta w t d).farLoad P a (m == Go.Mode.atomic) = .ok (v, l) := hf
          simp only [Sem.run, h1, h2]) hn⟩
      | error e =>
        exact ⟨0, loc_halt (h := e) fun t d => by
          have h1 : (World.ta w t d).cell? a = none := hc
          have h2 : (World.ta w t d).farLoad P a (m == Go.Mode.atomic) = .error e := hf
          exact ⟨World.ta w t d, by simp only [Sem.run, h1, h2]⟩⟩
  | store m a v k ih =>
    intro w
    by_cases hv : (∃ x, v = .agg x) ∨ ∃ x, v = .tuple x
    · rcases hv with ⟨x, rfl⟩ | ⟨x, rfl⟩ <;> exact ⟨0, loc_halt (h := .stuck "store: not the value of one cell") fun t d => ⟨World.ta w t d, by simp only [Sem.run]⟩⟩
    have hrun : ∀ w : World, (Sem.store m a v k).run P w = match w.cell? a with
        | some _ => if w.frozen? a then .halt (.unsupported (.unsafePointer "a write to bytes that a string shares")) w else k.run P (w.setCell a v)
        | none => match w.farStore P a v (m == Go.Mode.atomic) with
          | .ok (w, _) => k.run P w
          | .error h => .halt h w := by
      intro w
      cases v <;> first | exact absurd (.inl ⟨_, rfl⟩) hv | exact absurd (.inr ⟨_, rfl⟩) hv | rfl
    cases hc : w.cell? a with
    | some v' =>
      by_cases hz : w.frozen? a = true
      · refine ⟨0, loc_halt (h := .unsupported (.unsafePointer "a write to bytes that a string shares")) fun t d => ⟨World.ta w t d, ?_⟩⟩
        have h1 : (World.ta w t d).cell? a = some v' := hc
        have h2 : (World.ta w t d).frozen? a = true := hz
        rw [hrun, h1]
        simp only [h2, if_pos]
      · obtain ⟨n, hn⟩ := ih h (w.setCell a v)
        refine ⟨n, loc_to (f := fun w => w.setCell a v) ⟨rfl, rfl⟩ (fun t d => rfl) (fun t d => ?_) hn⟩
        have h1 : (World.ta w t d).cell? a = some v' := hc
        have h2 : ¬ (World.ta w t d).frozen? a = true := hz
        rw [hrun, h1]
        simp only [if_neg h2]
    | none =>
      cases hf : w.farStore P a v (m == Go.Mode.atomic) with
      | ok r =>
        obtain ⟨w1, l⟩ := r
        obtain ⟨n, hn⟩ := ih h w1
        have ht := farStore_tape hf
        refine ⟨n, loc_to (f := fun w' => World.ta w1 w'.tape w'.drawn) (s' := k) ⟨rfl, rfl⟩ (fun t d => rfl) (fun t d => ?_) (by
          show Loc P k (World.ta w1 w.tape w.drawn) n
          rw [← ht.1, ← ht.2]
          exact hn)⟩
        have h1 : (World.ta w t d).cell? a = none := hc
        have h2 := farStore_ta (P := P) w t d a v (m == Go.Mode.atomic)
        rw [hf] at h2
        rw [hrun, h1]
        simp only [h2]
        rfl
      | error e =>
        refine ⟨0, loc_halt (h := e) fun t d => ⟨World.ta w t d, ?_⟩⟩
        have h1 : (World.ta w t d).cell? a = none := hc
        have h2 := farStore_ta (P := P) w t d a v (m == Go.Mode.atomic)
        rw [hf] at h2
        rw [hrun, h1]
        simp only [h2]
  | new o k ih =>
    intro w
    obtain ⟨n, hn⟩ := ih _ (h w.heap.size) { w with heap := w.heap.push o }
    exact ⟨n, loc_to (f := fun w => { w with heap := w.heap.push o }) ⟨rfl, rfl⟩ (fun t d => rfl) (fun t d => rfl) hn⟩
  | shape r k ih =>
    intro w
    obtain ⟨n, hn⟩ := ih _ (h (w.shape? r)) w
    exact ⟨n, loc_congr (fun t d => rfl) hn⟩
  | freeze a m k ih =>
    intro w
    obtain ⟨n, hn⟩ := ih h (w.freeze a m)
    refine ⟨n, loc_to (f := fun w => w.freeze a m) ?_ (fun t d => ?_) (fun t d => rfl) hn⟩
    · unfold World.freeze; split <;> exact ⟨rfl, rfl⟩
    · unfold World.freeze; split <;> rfl
  | frozen a k ih =>
    intro w
    obtain ⟨n, hn⟩ := ih _ (h (w.frozen? a)) w
    exact ⟨n, loc_congr (fun t d => rfl) hn⟩
  | getObj r k ih =>
    intro w
    cases hc : w.heap[r]? with
    | none => exact ⟨0, loc_halt (h := .stuck "getObj: no such block") fun t d => ⟨World.ta w t d, by
        have h1 : (World.ta w t d).heap[r]? = none := hc
        simp only [Sem.run, h1]⟩⟩
    | some o =>
      by_cases ho : ∃ c e z, o = .cells c e z
      · obtain ⟨c, e, z, rfl⟩ := ho
        exact ⟨0, loc_halt (h := .stuck "getObj: a row of cells") fun t d => ⟨World.ta w t d, by
          have h1 : (World.ta w t d).heap[r]? = some (.cells c e z) := hc
          simp only [Sem.run, h1]⟩⟩
      · obtain ⟨n, hn⟩ := ih _ (h o) w
        refine ⟨n, loc_congr (fun t d => ?_) hn⟩
        have h1 : (World.ta w t d).heap[r]? = some o := hc
        simp only [Sem.run, h1]
        cases o <;> first | rfl | exact absurd ⟨_, _, _, rfl⟩ ho
  | setObj r o k ih => exact h.elim
  | choose q k ih =>
    intro w
    by_cases hq : q.forced = true
    · obtain ⟨n, hn⟩ := ih _ (h 0) w
      exact ⟨n, loc_congr (fun t d => by simp only [Sem.run, hq, if_pos]) hn⟩
    · obtain ⟨n, hn⟩ := ih _ (h (q.cut (w.tape w.drawn q))) { w with drawn := w.drawn + 1 }
      refine ⟨n + 1, ?_⟩
      unfold Loc at hn ⊢
      simp only [Sem.run, if_neg hq]
      have sh : ∀ {t d}, Same w t d (n + 1) → q.cut (t d q) = q.cut (w.tape w.drawn q) ∧ Same { w with drawn := w.drawn + 1 } t (d + 1) n := fun {t d} hs =>
        ⟨congrArg _ (by simpa using hs 0 (by omega) q), fun i hi q => by
          have := hs (i + 1) (by omega) q
          simpa [Nat.add_assoc, Nat.add_comm 1 i] using this⟩
      split
      · rename_i x w' hr
        rw [hr] at hn
        refine ⟨hn.1, by rw [hn.2.1]; show w.drawn + 1 + n = _; omega, fun t d hs => ?_⟩
        obtain ⟨e1, e2⟩ := sh hs
        have := hn.2.2 t (d + 1) e2
        show (k (q.cut (t d q))).run P (World.ta w t (d + 1)) = _
        rw [e1]
        rw [show d + (n + 1) = d + 1 + n by omega]
        exact this
      · rename_i hh w' hr
        rw [hr] at hn
        intro t d hs
        obtain ⟨e1, e2⟩ := sh hs
        have := hn t (d + 1) e2
        show ∃ w', (k (q.cut (t d q))).run P (World.ta w t (d + 1)) = _
        rw [e1]
        exact this
  | sys c k ih => exact h.elim
  | program k ih =>
    intro w
    obtain ⟨n, hn⟩ := ih _ h w
    exact ⟨n, loc_congr (fun t d => rfl) hn⟩
  | mark m k ih =>
    intro w
    obtain ⟨n, hn⟩ := ih h.2.2 w
    exact ⟨n, loc_congr (fun t d => rfl) hn⟩
  | halt hh => exact fun w => ⟨0, loc_halt fun t d => ⟨_, rfl⟩⟩
end Go.Proofs.Ytnphcnhejgpjgaa.Co
end
section
namespace Go.Proofs.Ytnphcnhejgpjgaa.Co
open Go.Conc
variable {P : Program}

/-- Of each function that may be entered, the temporaries that hold the comparison. -/
structure Tk where
  cf : FuncId → Option (List Tmp)
  g : FuncId

variable (T : Tk)
def okT (C : List Tmp) (o : Oper) : Bool :=
  okOp o.op &&
  (match o.dst with
    | some d => if C.contains d then (match o.op with | .move (.tmp t) | .assign (.tmp t) => C.contains t | _ => false) else true
    | none => true) &&
  (match o.op with
    | .call { callee := .value (.func f), args, .. } => match T.cf f with
      | some C' => C'.all fun t => match args[t]? with
        | some (.tmp x) => C.contains x
        | some _ => false
        | none => true
      | none => false
    | .call { callee := .value (.tmp t), .. } => C.contains t
    | .call { callee := .value _, .. } | .panic _ => false
    | _ => true)
def okcT (C : List Tmp) : Code → Bool
  | .seq a b | .cond _ a b => okcT C a && okcT C b
  | .block _ c | .loop c | .scope c => okcT C c
  | .region _ ops _ => ops.all fun o => okT T C o
  | .rangeFunc .. => false
  | _ => true
def okI (C : List Tmp) : Item → Bool
  | .code c | .inLoop c | .inScope c => okcT T C c
  | .inBlock _ => true
  | .inRegion ops _ => ops.all fun o => okT T C o
  | _ => false
def cmpv : Value := .func (.func T.g) #[] #[]
def TF (C : List Tmp) (t : Array Value) : Prop := ∀ x ∈ C, t.getD x undef = cmpv T ∨ t.getD x undef = undef
/-- What the functions are. -/
structure Lay (P : Program) (T : Tk) : Prop where
  fns : ∀ f C, T.cf f = some C → ∃ fn c, P.funcs[f]? = some fn ∧ fn.body = some c ∧ okcT T C c = true ∧ (fn.name == "runtime.NumGoroutine") = false ∧ (fn.results.all fun r => match r with | .tmp _ => true | _ => false) = true
  g : T.cf T.g = some []
  ahead : P.follows .staticDataAhead = true
  never : ∀ g, P.stepOf g = none

def frun (f : FuncId) (t : Array Value) (todo : List Item) : Frame := (base f).at ⟨t, []⟩ todo
def fret (f : FuncId) (t : Array Value) (todo : List Item) : Frame := { (base f).at ⟨t, []⟩ todo with mode := .returning }
def GF (f : FuncId) (t : Array Value) (todo : List Item) : Prop := ∃ C, T.cf f = some C ∧ todo.all (okI T C) = true ∧ TF T C t
/-- A frame that waits for a call. -/
def GC (c : Frame) : Prop := ∃ f t ops i rest k o cl, c = frun f t (.inRegion ops (i :: rest) :: k) ∧ GF T f t (.inRegion ops (i :: rest) :: k) ∧ ops[i]? = some o ∧ o.op = .call cl
def GS (fr : Frame) (fs : List Frame) : Prop := (∃ f t todo, (fr = frun f t todo ∧ GF T f t todo ∨ fr = fret f t todo ∧ T.cf f ≠ none)) ∧ ∀ c ∈ fs, GC T c

/-- A step that goes on: n answers are read. -/
def Go1 (P : Program) (fr : Frame) (fs : List Frame) (w : World) (n : Nat) (fr' : Frame) (fs' : List Frame) (w' : World) : Prop :=
  w'.tape = w.tape ∧ w'.drawn = w.drawn + n ∧ KeepsC w w' ∧ ∀ t d, Same w t d n → ∃ es, (∀ e ∈ es, EvN e) ∧ ∀ main bs, stepG P main (G fr (fs ++ bs)) (World.ta w t d) = .go (G fr' (fs' ++ bs)) (World.ta w' t (d + n)) es
/-- A step from which the goroutine comes to no good. -/
def Bad1 (P : Program) (fr : Frame) (fs : List Frame) (w : World) (n : Nat) : Prop :=
  ∀ t d, Same w t d n → (∀ main bs, ∃ o w' es, stepG P main (G fr (fs ++ bs)) (World.ta w t d) = .ended o w' es) ∨
    ∃ ch w', ∀ main bs, ∃ es, stepG P main (G fr (fs ++ bs)) (World.ta w t d) = .go (G (fr.raise ch) (fs ++ bs)) w' es

theorem go1_ctl {fr : Frame} {fs : List Frame} {w : World} {fr' : Frame} (h : ∀ main cs w, stepG P main (G fr cs) w = .go (G fr' cs) w) : Go1 P fr fs w 0 fr' fs w :=
  ⟨rfl, rfl, keepsC_refl w, fun t d _ => ⟨#[], by simp, fun main bs => h main _ _⟩⟩
theorem bad_ctl {fr : Frame} {fs : List Frame} {w : World} (h : ∀ main cs w, ∃ o w' es, stepG P main (G fr cs) w = .ended o w' es) : Bad1 P fr fs w 0 :=
  fun t d _ => .inl fun main bs => h main _ _

theorem all_exit {p : Item → Bool} {id : Nat} : ∀ {k k' : List Item}, exitTo id k = some k' → k.all p = true → k'.all p = true
  | [], _, h, _ => by cases h
  | x :: k, k', h, ha => by
    rw [List.all_cons, Bool.and_eq_true] at ha
    cases x
    case inBlock i =>
      simp only [exitTo] at h
      split at h
      · cases h; exact ha.2
      · exact all_exit h ha.2
    all_goals exact all_exit (by simpa [exitTo] using h) ha.2
theorem okc_find {C : List Tmp} {l : Nat} : ∀ {c r : Code}, findLabel c l = some r → okcT T C c = true → okcT T C r = true
  | .seq a b, r, h, ha => by
    simp only [okcT, Bool.and_eq_true] at ha
    simp only [findLabel] at h
    split at h
    · rename_i x hx
      cases h
      simp only [okcT, Bool.and_eq_true]
      exact ⟨okc_find hx ha.1, ha.2⟩
    · exact okc_find h ha.2
  | .label l', r, h, ha => by
    simp only [findLabel] at h
    split at h
    · cases h; rfl
    · cases h
  | .skip, _, h, _ | .region .., _, h, _ | .cond .., _, h, _ | .block .., _, h, _ | .loop .., _, h, _ | .scope .., _, h, _ | .exit .., _, h, _ | .goto .., _, h, _ | .ret, _, h, _ | .rangeFunc .., _, h, _ | .refuse .., _, h, _ => by simp [findLabel] at h
theorem all_goto {C : List Tmp} {l : Nat} : ∀ {k k' : List Item}, gotoIn l k = some k' → k.all (okI T C) = true → k'.all (okI T C) = true
  | [], _, h, _ => by cases h
  | x :: k, k', h, ha => by
    have ha0 := ha
    rw [List.all_cons, Bool.and_eq_true] at ha
    cases x
    case inScope c =>
      simp only [gotoIn] at h
      split at h
      · rename_i r hr
        cases h
        rw [List.all_cons, Bool.and_eq_true]
        exact ⟨okc_find T hr ha.1, ha0⟩
      · exact all_goto h ha.2
    all_goals exact all_goto (by simpa [gotoIn] using h) ha.2
end Go.Proofs.Ytnphcnhejgpjgaa.Co
end
section
namespace Go.Proofs.Ytnphcnhejgpjgaa.Co
open Go.Conc
variable {P : Program} (T : Tk)

theorem ok_exec2 [Nice P] (o : Oper) (a : Act) (h : okOp o.op = true) (hp : ∀ x, o.op ≠ .panic x) : Ok P (execOp a.eval o) := by
  obtain ⟨dst, op, ty, pos, edges, lhs⟩ := o
  cases op
  case panic x => exact absurd rfl (hp x)
  case move x => trivial
  case assign x => trivial
  case pick c x y => exact ok_bind (ok_asBool _) fun _ => trivial
  case alloc e => exact ok_v (ok_alloc _ _ _)
  case box e x => exact ok_v (ok_box _ _)
  case build t ps => exact ok_v (ok_build _ _)
  case buildSlice t n ps => exact ok_v (ok_buildSlice _ _ _)
  case load t x => exact ok_v (ok_loadAt _ _)
  case store t x y => exact ok_u (ok_storeAt _ _ _)
  case nilCheck x => unfold execOp; dsimp only; repeat' (first | exact OkC.ok | assumption | exact True.intro | (refine ok_bind ?_ (fun _ => ?_)) | (intro _) | split | (dsimp only))
  case binOp b t x y yt => exact ok_v (ok_bind (ok_eqGuard _ _ _ _ _ _) fun _ => ok_binOp _ _ _ _)
  case unOp u t x => exact ok_v (ok_unary _ _)
  case convert s d x => exact ok_v (ok_convert _ _ _)
  case makeInterface t x => exact ok_v (ok_makeInterface _ _)
  case fieldAddr t x f => exact ok_v (ok_fieldAt _ _ _)
  case field t x f => exact ok_v (ok_field _ _ _)
  case indexAddr t x i => exact ok_v (ok_indexAt _ _ _)
  case index t x i => exact ok_v (ok_index _ _ _)
  case extract x i => exact ok_v (ok_extract _ _)
  case call c =>
    obtain ⟨cal, xs, ats⟩ := c
    cases cal with
    | builtin b =>
      cases b
      case append => exact ok_v (ok_append _ _ _)
      case len => exact ok_v (ok_len _ _ _)
      case min => exact ok_v (ok_min _ _ _)
      all_goals cases h
    | value x => exact ok_value _ _
    | invoke r n => cases h
  all_goals cases h

/-- Whatever comes of it, it is such. -/
def Res {α : Type} (Q : α → Prop) : Sem α → Prop
  | .pure a => Q a
  | .load _ _ k => ∀ v, Res Q (k v)
  | .store _ _ _ k => Res Q k
  | .new _ k => ∀ r, Res Q (k r)
  | .shape _ k => ∀ s, Res Q (k s)
  | .freeze _ _ k => Res Q k
  | .frozen _ k => ∀ b, Res Q (k b)
  | .getObj _ k => ∀ o, Res Q (k o)
  | .setObj _ _ k => Res Q k
  | .choose _ k => ∀ n, Res Q (k n)
  | .sys _ k => ∀ r, Res Q (k r)
  | .program k => ∀ p, Res Q (k p)
  | .mark _ k => Res Q k
  | .halt _ => True
theorem res_run {α : Type} {Q : α → Prop} {s : Sem α} {w : World} {x : α} {w' : World} (h : Res Q s) (e : s.run P w = .ok x w') : Q x := by
  induction s generalizing w with
  | pure a => simp only [Sem.run] at e; cases e; exact h
  | load m a k ih =>
    simp only [Sem.run] at e
    split at e
    · exact ih _ (h _) e
    · split at e
      · exact ih _ (h _) e
      · cases e
  | store m a v k ih =>
    cases v <;> (simp only [Sem.run] at e; first
      | cases e; done
      | (split at e
         · split at e
           · cases e
           · exact ih h e
         · split at e
           · exact ih h e
           · cases e))
  | new o k ih => exact ih _ (h _) e
  | shape r k ih => exact ih _ (h _) e
  | freeze a n k ih => exact ih h e
  | frozen a k ih => exact ih _ (h _) e
  | getObj r k ih =>
    simp only [Sem.run] at e
    split at e
    · cases e
    · exact ih _ (h _) e
    · cases e
  | setObj r o k ih =>
    simp only [Sem.run] at e
    split at e
    · cases e
    · exact ih h e
    · cases e
  | choose q k ih =>
    simp only [Sem.run] at e
    split at e
    · exact ih _ (h _) e
    · exact ih _ (h _) e
  | sys c k ih => exact ih _ (h _) e
  | program k ih => exact ih _ (h _) e
  | mark m k ih => exact ih h e
  | halt hh => cases e
theorem res_bind {α β : Type} {Q : β → Prop} {s : Sem α} {f : α → Sem β} (hf : ∀ a, Res Q (f a)) : Res Q (s >>= f) := by
  show Res Q (s.bind f)
  induction s with
  | pure a => exact hf a
  | load m a k ih => exact fun v => ih v
  | store m a v k ih => exact ih
  | new o k ih => exact fun v => ih v
  | shape r k ih => exact fun v => ih v
  | freeze a n k ih => exact ih
  | frozen a k ih => exact fun v => ih v
  | getObj r k ih => exact fun v => ih v
  | setObj r o k ih => exact ih
  | choose q k ih => exact fun v => ih v
  | sys c k ih => exact fun v => ih v
  | program k ih => exact fun v => ih v
  | mark m k ih => exact ih
  | halt h => trivial
def Flat (x : Next) : Prop := (∃ v, x = .value v) ∨ x = .skip
theorem res_v {s : Sem Value} : Res Flat (do pure (Next.value (← s)) : Sem Next) := res_bind fun v => .inl ⟨v, rfl⟩
theorem res_u {s : Sem Unit} : Res Flat (do s; pure Next.skip : Sem Next) := res_bind fun _ => .inr rfl
theorem flat_exec (o : Oper) (a : Act) (h : okOp o.op = true) (hp : ∀ x, o.op ≠ .panic x) (hv : ∀ x xs ats, o.op ≠ .call ⟨.value x, xs, ats⟩) : Res Flat (execOp a.eval o) := by
  obtain ⟨dst, op, ty, pos, edges, lhs⟩ := o
  cases op
  case panic x => exact absurd rfl (hp x)
  case move x => exact .inl ⟨_, rfl⟩
  case assign x => exact .inl ⟨_, rfl⟩
  case pick c x y => exact res_bind fun _ => .inl ⟨_, rfl⟩
  case store t x y => exact res_u
  case nilCheck x =>
    unfold execOp
    dsimp only
    split
    · unfold runtimePanic; exact res_bind fun _ => trivial
    · unfold runtimePanic; exact res_bind fun _ => trivial
    · unfold runtimePanic; exact res_bind fun _ => trivial
    · split
      · unfold runtimePanic; exact res_bind fun _ => trivial
      · refine res_bind fun _ => res_bind fun _ => ?_
        split
        · exact res_bind fun _ => .inl ⟨_, rfl⟩
        · exact .inl ⟨_, rfl⟩
      · exact .inl ⟨_, rfl⟩
    · exact .inl ⟨_, rfl⟩
  case call c =>
    obtain ⟨cal, xs, ats⟩ := c
    cases cal with
    | builtin b => cases b <;> first | exact res_v | cases h
    | value x => exact absurd rfl (hv x xs ats)
    | invoke r n => cases h
  all_goals first | exact res_v | cases h
end Go.Proofs.Ytnphcnhejgpjgaa.Co
end
section
namespace Go.Proofs.Ytnphcnhejgpjgaa.Co
open Go.Conc
variable {P : Program} (T : Tk)

theorem ok_halts {α : Type} {s : Sem α} (h : Ok P s) : ∀ {w : World} {hh : Halt} {w' : World}, s.run P w = .halt hh w' → (∃ v, hh = .panic v) ∨ (∃ x, hh = .stuck x) ∨ ∃ u, hh = .unsupported u := by
  have noc : ∀ (w : World) (a : Addr) (x : String), (∃ v, w.noCell a x = .panic v) ∨ (∃ y, w.noCell a x = .stuck y) ∨ ∃ u, w.noCell a x = .unsupported u := by
    intro w a x
    unfold World.noCell
    split
    · exact .inr (.inr ⟨_, rfl⟩)
    · exact .inr (.inr ⟨_, rfl⟩)
    · exact .inr (.inl ⟨_, rfl⟩)
  induction s with
  | pure a => intro w hh w' e; cases e
  | load m a k ih =>
    intro w hh w' e
    simp only [Sem.run] at e
    split at e
    · exact ih _ (h _) e
    · split at e
      · exact ih _ (h _) e
      · rename_i hf
        cases e
        unfold World.farLoad at hf
        split at hf
        · split at hf
          · cases hf
          · cases hf; exact .inr (.inr ⟨_, rfl⟩)
        · cases hf; exact noc _ _ _
  | store m a v k ih =>
    intro w hh w' e
    have key : (match w.cell? a with
        | some _ => if w.frozen? a then Result.halt (.unsupported (.unsafePointer "a write to bytes that a string shares")) w else k.run P (w.setCell a v)
        | none => match w.farStore P a v (m == Go.Mode.atomic) with
          | .ok (w, _) => k.run P w
          | .error h => .halt h w) = .halt hh w' → (∃ v, hh = .panic v) ∨ (∃ x, hh = .stuck x) ∨ ∃ u, hh = .unsupported u := by
      intro e
      split at e
      · split at e
        · cases e; exact .inr (.inr ⟨_, rfl⟩)
        · exact ih h e
      · split at e
        · exact ih h e
        · rename_i hf
          cases e
          unfold World.farStore at hf
          split at hf
          · split at hf
            · cases hf
            · cases hf; exact .inr (.inr ⟨_, rfl⟩)
          · cases hf; exact noc _ _ _
    cases v <;> first | (simp only [Sem.run] at e; first | exact key e | (cases e; exact .inr (.inl ⟨_, rfl⟩)))
  | new o k ih => intro w hh w' e; exact ih _ (h _) e
  | shape r k ih => intro w hh w' e; exact ih _ (h _) e
  | freeze a n k ih => intro w hh w' e; exact ih h e
  | frozen a k ih => intro w hh w' e; exact ih _ (h _) e
  | getObj r k ih =>
    intro w hh w' e
    simp only [Sem.run] at e
    split at e
    · cases e; exact .inr (.inl ⟨_, rfl⟩)
    · exact ih _ (h _) e
    · cases e; exact .inr (.inl ⟨_, rfl⟩)
  | setObj r o k ih => exact h.elim
  | choose q k ih =>
    intro w hh w' e
    simp only [Sem.run] at e
    split at e
    · exact ih _ (h _) e
    · exact ih _ (h _) e
  | sys c k ih => exact h.elim
  | program k ih => intro w hh w' e; exact ih _ h e
  | mark m k ih => intro w hh w' e; exact ih h.2.2 e
  | halt hh =>
    intro w hh w' e
    cases e
    cases hh
    case panic v => exact .inl ⟨_, rfl⟩
    case stuck v => exact .inr (.inl ⟨_, rfl⟩)
    case unsupported v => exact .inr (.inr ⟨_, rfl⟩)
    all_goals exact h.elim

theorem early_ends (L : Lay P T) (fr : Frame) (cs : List Frame) (g : Nat) (w : World) : ∃ o w' es, early P fr cs none g w = .ended o w' es := by
  unfold early
  simp only [L.ahead, L.never]
  exact ⟨_, _, _, rfl⟩

theorem tf_put {C : List Tmp} {t : Array Value} {dst : Option Tmp} {v : Value} (h : TF T C t) (hd : ∀ d, dst = some d → d ∈ C → v = cmpv T ∨ v = undef) : TF T C ((⟨t, []⟩ : Act).put dst v).tmps := by
  intro x hx
  cases dst with
  | none => exact h x hx
  | some d =>
    show (t.setIfInBounds d v).getD x undef = cmpv T ∨ (t.setIfInBounds d v).getD x undef = undef
    by_cases hdx : d = x
    · subst hdx
      by_cases hl : d < t.size
      · have : (t.setIfInBounds d v).getD d undef = v := by simp [Array.getD, hl]
        rw [this]
        exact hd d rfl hx
      · right
        simp [Array.getD, hl]
    · have : (t.setIfInBounds d v).getD x undef = t.getD x undef := by
        simp only [Array.getD_eq_getD_getElem?, Array.getElem?_setIfInBounds_ne hdx]
      rw [this]
      exact h x hx
theorem put_eq (t : Array Value) (dst : Option Tmp) (v : Value) : (⟨t, []⟩ : Act).put dst v = ⟨((⟨t, []⟩ : Act).put dst v).tmps, []⟩ := by cases dst <;> rfl

theorem bad_halt (L : Lay P T) {f : FuncId} {t : Array Value} {ops : Array Oper} {i : Nat} {rest : List Nat} {k : List Item} {fs : List Frame} {o : Oper} {w : World} {n : Nat} {hh : Halt} (ho : ops[i]? = some o) (hw : Region.wanted o (yielded ops t) = true)
    (hr : ∀ tt d, Same w tt d n → ∃ w', (execOp (⟨t, []⟩ : Act).eval o).run P (World.ta w tt d) = .halt hh w') (hk : (∃ v, hh = .panic v) ∨ (∃ x, hh = .stuck x) ∨ ∃ u, hh = .unsupported u) :
    Bad1 P (frun f t (.inRegion ops (i :: rest) :: k)) fs w n := by
  intro tt d hs
  obtain ⟨w', hr⟩ := hr tt d hs
  have st : ∀ main bs, stepG P main (G (frun f t (.inRegion ops (i :: rest) :: k)) (fs ++ bs)) (World.ta w tt d) = stepG.apply P true (frun f t (.inRegion ops (i :: rest) :: k)) (fs ++ bs) none (execOp (⟨t, []⟩ : Act).eval o) (World.ta w tt d) :=
    fun main bs => stepG_oper (b := base f) (a := ⟨t, []⟩) ho hw
  rcases hk with ⟨v, rfl⟩ | ⟨x, rfl⟩ | ⟨u, rfl⟩
  · refine .inr ⟨[{ v, recovered := false }], w', fun main bs => ?_⟩
    rw [st]
    simp only [stepG.apply, Sem.runT_eq, hr, if_pos, GStep.after]
    exact ⟨_, rfl⟩
  · refine .inl fun main bs => ?_
    rw [st]
    simp only [stepG.apply, Sem.runT_eq, hr, if_pos, GStep.after]
    exact ⟨_, _, _, rfl⟩
  · refine .inl fun main bs => ?_
    rw [st]
    cases u with
    | initOrder g =>
      simp only [stepG.apply, Sem.runT_eq, hr, if_pos]
      obtain ⟨o', w'', es, he⟩ := early_ends T L (frun f t (.inRegion ops (i :: rest) :: k)) (fs ++ bs) g w'
      rw [he]
      simp only [GStep.after]
      exact ⟨_, _, _, rfl⟩
    | _ =>
      simp only [stepG.apply, Sem.runT_eq, hr, if_pos, GStep.after]
      exact ⟨_, _, _, rfl⟩

theorem eval_cmp {C : List Tmp} {t : Array Value} {x : Tmp} (h : TF T C t) (hx : x ∈ C) : (⟨t, []⟩ : Act).eval (.tmp x) = cmpv T ∨ (⟨t, []⟩ : Act).eval (.tmp x) = undef := h x hx

/-- A function is entered. -/
theorem go_enter (L : Lay P T) {f g : FuncId} {t : Array Value} {ops : Array Oper} {i : Nat} {rest : List Nat} {k : List Item} {fs : List Frame} {o : Oper} {w : World} {cl : Call} {C' : List Tmp} {args : Array Value}
    (h : GF T f t (.inRegion ops (i :: rest) :: k)) (ho : ops[i]? = some o) (hw : Region.wanted o (yielded ops t) = true) (hop : o.op = .call cl) (hfs : ∀ c ∈ fs, GC T c)
    (hg : T.cf g = some C') (ha : ∀ x ∈ C', args.getD x undef = cmpv T ∨ args.getD x undef = undef)
    (hr : ∀ w, (execOp (⟨t, []⟩ : Act).eval o).run P w = .ok (.enter g args) w) (hok : Ok P (execOp (⟨t, []⟩ : Act).eval o)) :
    ∃ n fr' fs' w', Go1 P (frun f t (.inRegion ops (i :: rest) :: k)) fs w n fr' fs' w' ∧ GS T fr' fs' := by
  obtain ⟨fn, c, hf, hb, hc, _, _⟩ := L.fns g C' hg
  refine ⟨0, Frame.enter P g args .normal, frun f t (.inRegion ops (i :: rest) :: k) :: fs, w, ⟨rfl, rfl, keepsC_refl w, fun tt d _ => ⟨listed P f ⟨t, []⟩ o (World.ta w tt d), fun e he => ok_events hok (by simp) e (mem_listed he), fun main bs => ?_⟩⟩, ?_, ?_⟩
  · exact stepG_enter (b := base f) (a := ⟨t, []⟩) ho hw (by simp [base]) (hr _)
  · refine ⟨g, args ++ Array.replicate (fn.ntmps - args.size) undef, [.code c], .inl ⟨enter_at args hf hb, C', hg, ?_, fun x hx => ?_⟩⟩
    · simp [okI, hc]
    · have : (args ++ Array.replicate (fn.ntmps - args.size) undef).getD x undef = args.getD x undef := by
        simp only [Array.getD_eq_getD_getElem?, Array.getElem?_append]
        split
        · rfl
        · rename_i hx
          rw [Array.getElem?_eq_none (xs := args) (by omega), Array.getElem?_replicate]
          split <;> rfl
      rw [this]
      exact ha x hx
  · intro c hc
    rcases List.mem_cons.1 hc with rfl | hc
    · exact ⟨f, t, ops, i, rest, k, o, cl, rfl, h, ho, hop⟩
    · exact hfs c hc

theorem own_oper [Nice P] (L : Lay P T) {f : FuncId} {t : Array Value} {ops : Array Oper} {i : Nat} {rest : List Nat} {k : List Item} {fs : List Frame} {o : Oper} (w : World)
    (h : GF T f t (.inRegion ops (i :: rest) :: k)) (ho : ops[i]? = some o) (hw : Region.wanted o (yielded ops t) = true) (hfs : ∀ c ∈ fs, GC T c) :
    (∃ n fr' fs' w', Go1 P (frun f t (.inRegion ops (i :: rest) :: k)) fs w n fr' fs' w' ∧ GS T fr' fs') ∨ ∃ n, Bad1 P (frun f t (.inRegion ops (i :: rest) :: k)) fs w n := by
  have h0 := h
  obtain ⟨C, hC, hall, htf⟩ := h
  rw [List.all_cons, Bool.and_eq_true] at hall
  have hT : okT T C o = true := by
    have := hall.1
    simp only [okI, Array.all_eq_true_iff_forall_mem] at this
    exact this o (Array.mem_of_getElem? ho)
  simp only [okT, Bool.and_eq_true] at hT
  obtain ⟨⟨h1, h2⟩, h3⟩ := hT
  have hp : ∀ x, o.op ≠ .panic x := by intro x hx; rw [hx] at h3; cases h3
  have hok := ok_exec2 (P := P) o ⟨t, []⟩ h1 hp
  by_cases hv : ∃ x xs ats, o.op = .call ⟨.value x, xs, ats⟩
  · obtain ⟨x, xs, ats, hv⟩ := hv
    have hex : ∀ v, (⟨t, []⟩ : Act).eval x = v → execOp (⟨t, []⟩ : Act).eval o = (do let d ← Deferred.ofValue v (xs.map (⟨t, []⟩ : Act).eval); invoke d.target d.args : Sem Next) := by
      intro v hx
      obtain ⟨dst, op, ty, pos, edges, lhs⟩ := o
      cases hv
      subst hx
      rfl
    have enter : ∀ g C', T.cf g = some C' → (⟨t, []⟩ : Act).eval x = .func (.func g) #[] #[] → (∀ y ∈ C', (xs.map (⟨t, []⟩ : Act).eval).getD y undef = cmpv T ∨ (xs.map (⟨t, []⟩ : Act).eval).getD y undef = undef) →
        (∃ n fr' fs' w', Go1 P (frun f t (.inRegion ops (i :: rest) :: k)) fs w n fr' fs' w' ∧ GS T fr' fs') := by
      intro g C' hg hx ha
      obtain ⟨fn, c, hf, hb, hc, hnm, _⟩ := L.fns g C' hg
      refine go_enter T L h0 ho hw hv hfs hg ha (fun w => ?_) hok
      rw [hex _ hx]
      have h1 : fn.name ≠ "runtime.NumGoroutine" := by simpa using hnm
      simp [Deferred.ofValue, invoke, callFunc, hf, h1, hb, mark]
    cases x with
    | tmp y =>
      rw [hv] at h3
      have hy : y ∈ C := by simpa using h3
      rcases eval_cmp T htf hy with hx | hx
      · exact .inl (enter T.g [] L.g hx (by simp))
      · refine .inr ⟨0, bad_halt T L ho hw (hh := .stuck "call: function value expected") (fun tt d _ => ⟨World.ta w tt d, ?_⟩) (.inr (.inl ⟨_, rfl⟩))⟩
        rw [hex _ hx]
        rfl
    | func g =>
      rw [hv] at h3
      dsimp only at h3
      cases hg : T.cf g with
      | none => rw [hg] at h3; cases h3
      | some C' =>
        rw [hg] at h3
        simp only [List.all_eq_true] at h3
        refine .inl (enter g C' hg rfl fun y hy => ?_)
        have hy' := h3 y hy
        cases hxs : xs[y]? with
        | none => right; simp [Array.getD_eq_getD_getElem?, hxs]
        | some z =>
          rw [hxs] at hy'
          cases z with
          | tmp u =>
            have hu : u ∈ C := by simpa using hy'
            have : (xs.map (⟨t, []⟩ : Act).eval).getD y undef = (⟨t, []⟩ : Act).eval (.tmp u) := by simp [Array.getD_eq_getD_getElem?, hxs]
            rw [this]
            exact eval_cmp T htf hu
          | _ => cases hy'
    | const v => rw [hv] at h3; cases h3
    | global g => rw [hv] at h3; cases h3
  · have hfl := flat_exec o ⟨t, []⟩ h1 hp (fun x xs ats e => hv ⟨x, xs, ats, e⟩)
    obtain ⟨n, hn⟩ := loc_ok hok w
    unfold Loc at hn
    cases hr : (execOp (⟨t, []⟩ : Act).eval o).run P w with
    | halt hh w' =>
      rw [hr] at hn
      exact .inr ⟨n, bad_halt T L ho hw hn (ok_halts hok hr)⟩
    | ok x w' =>
      rw [hr] at hn
      obtain ⟨e1, e2, e3⟩ := hn
      have gs : ∀ v, (∀ d, o.dst = some d → d ∈ C → v = cmpv T ∨ v = undef) → GS T (frun f ((⟨t, []⟩ : Act).put o.dst v).tmps (.inRegion ops rest :: k)) fs := fun v hd =>
        ⟨⟨f, _, _, .inl ⟨rfl, C, hC, by rw [List.all_cons, Bool.and_eq_true]; exact ⟨hall.1, hall.2⟩, tf_put T htf hd⟩⟩, hfs⟩
      rcases res_run hfl hr with ⟨v, rfl⟩ | rfl
      · refine .inl ⟨n, _, fs, w', ⟨e1, e2, ok_keeps hok hr, fun tt d hs => ⟨listed P f ⟨t, []⟩ o (World.ta w tt d), fun e he => ok_events hok (by simp) e (mem_listed he), fun main bs => ?_⟩⟩, gs v fun d hd hdC => ?_⟩
        · have := stepG_value (main := main) (cs := fs ++ bs) (k := k) (rest := rest) (b := base f) (a := ⟨t, []⟩) ho hw (by simp [base]) (e3 tt d hs)
          rw [put_eq] at this
          exact this
        · rw [hd] at h2
          have hc : C.contains d = true := by simpa using hdC
          simp only [hc, if_pos] at h2
          obtain ⟨dst, op, ty, pos, edges, lhs⟩ := o
          cases op with
          | move z =>
            cases z with
            | tmp u =>
              have : v = (⟨t, []⟩ : Act).eval (.tmp u) := by cases hr; rfl
              rw [this]
              exact eval_cmp T htf (by simpa using h2)
            | _ => cases h2
          | assign z =>
            cases z with
            | tmp u =>
              have : v = (⟨t, []⟩ : Act).eval (.tmp u) := by cases hr; rfl
              rw [this]
              exact eval_cmp T htf (by simpa using h2)
            | _ => cases h2
          | _ => cases h2
      · refine .inl ⟨n, _, fs, w', ⟨e1, e2, ok_keeps hok hr, fun tt d hs => ⟨listed P f ⟨t, []⟩ o (World.ta w tt d), fun e he => ok_events hok (by simp) e (mem_listed he), fun main bs => ?_⟩⟩, gs undef fun _ _ _ => .inr rfl⟩
        have := stepG_none (main := main) (cs := fs ++ bs) (k := k) (rest := rest) (b := base f) (a := ⟨t, []⟩) ho hw (by simp [base]) (e3 tt d hs)
        rw [put_eq] at this
        exact this
end Go.Proofs.Ytnphcnhejgpjgaa.Co
end
section
namespace Go.Proofs.Ytnphcnhejgpjgaa.Co
open Go.Conc
variable {P : Program} (T : Tk)

theorem results_pure {fn : Func} (h : (fn.results.all fun r => match r with | .tmp _ => true | _ => false) = true) (t : Array Value) : ∃ v, results fn t = pure v := by
  have key : ∀ (l : List ResultVar), (l.all fun r => match r with | .tmp _ => true | _ => false) = true →
      ∃ vs, (l.mapM fun r => match r with
        | .tmp x => (pure (t.getD x undef) : Sem Value)
        | .cell a ty => do loadVar ty (← asAddr (t.getD a undef))) = pure vs := by
    intro l
    induction l with
    | nil => exact fun _ => ⟨[], rfl⟩
    | cons r l ih =>
      intro hl
      rw [List.all_cons, Bool.and_eq_true] at hl
      obtain ⟨vs, hvs⟩ := ih hl.2
      cases r with
      | tmp x => exact ⟨t.getD x undef :: vs, by rw [List.mapM_cons, hvs]; rfl⟩
      | cell a ty => cases hl.1
  rw [← Array.all_toList] at h
  obtain ⟨vs, hvs⟩ := key fn.results.toList h
  refine ⟨if h : vs.toArray.size = 1 then vs.toArray[0] else .tuple vs.toArray, ?_⟩
  unfold results
  rw [Array.mapM_eq_mapM_toList]
  exact (congrArg (fun m => (List.toArray <$> m) >>= fun vs => (pure (if h : vs.size = 1 then vs[0] else .tuple vs) : Sem Value)) hvs).trans rfl

/-- A return: what is given, whatever lies below. -/
theorem own_leave (L : Lay P T) {f : FuncId} (t : Array Value) (todo : List Item) (hf : T.cf f ≠ none) :
    ∃ v, (∀ w, (fret f t todo).leaving P w (.returned v)) ∧ ∀ main c bs w, stepG P main (G (fret f t todo) (c :: bs)) w = .go (G (c.finish v) bs) w #[] := by
  cases hC : T.cf f with
  | none => exact absurd hC hf
  | some C =>
    obtain ⟨fn, c, hfn, hb, _, _, hr⟩ := L.fns f C hC
    obtain ⟨v, hv⟩ := results_pure hr t
    refine ⟨v, fun w => ⟨rfl, rfl, rfl, fn, hfn, ?_⟩, fun main c bs w => ?_⟩
    · show (results fn t).run P w = _
      rw [hv]; rfl
    · exact stepG_leave (b := base f) (a := ⟨t, []⟩) (fn := fn) rfl rfl hfn (by show (results fn t).run P w = _; rw [hv]; rfl) (by show (results fn t).events P w #[] = _; rw [hv]; rfl)

theorem gc_finish {c : Frame} (h : GC T c) (v : Value) : ∃ f t todo, c.finish v = frun f t todo ∧ GF T f t todo := by
  obtain ⟨f, t, ops, i, rest, k, o, cl, rfl, ⟨C, hC, hall, htf⟩, ho, hop⟩ := h
  have hall0 := hall
  rw [List.all_cons, Bool.and_eq_true] at hall
  have hT : okT T C o = true := by
    have := hall.1
    simp only [okI, Array.all_eq_true_iff_forall_mem] at this
    exact this o (Array.mem_of_getElem? ho)
  simp only [okT, Bool.and_eq_true] at hT
  obtain ⟨⟨h1, h2⟩, h3⟩ := hT
  refine ⟨f, ((⟨t, []⟩ : Act).put o.dst v).tmps, .inRegion ops rest :: k, ?_, C, hC, ?_, tf_put T htf fun d hd hdC => ?_⟩
  · have := Frame.finish_at (base f) ⟨t, []⟩ ops i rest k v
    rw [ho] at this
    show ((base f).at ⟨t, []⟩ (.inRegion ops (i :: rest) :: k)).finish v = _
    rw [this]
    show (base f).at ((⟨t, []⟩ : Act).put o.dst v) _ = _
    rw [put_eq]
    rfl
  · rw [List.all_cons, Bool.and_eq_true]
    exact hall
  · exfalso
    rw [hd] at h2
    have hc : C.contains d = true := by simpa using hdC
    simp only [hc, if_pos] at h2
    rw [hop] at h2
    cases h2

theorem own_step [Nice P] (L : Lay P T) {fr : Frame} {fs : List Frame} (h : GS T fr fs) (w : World) :
    (∃ n fr' fs' w', Go1 P fr fs w n fr' fs' w' ∧ GS T fr' fs') ∨ ((∃ n, Bad1 P fr fs w n) ∧ ∃ f t todo, fr = frun f t todo ∧ T.cf f ≠ none) ∨
      fs = [] ∧ fr.mode = .returning ∧ ∃ v, (∀ w, fr.leaving P w (.returned v)) ∧ ∀ main c bs w, stepG P main (G fr (c :: bs)) w = .go (G (c.finish v) bs) w #[] := by
  obtain ⟨⟨f, t, todo, ⟨rfl, hg⟩ | ⟨rfl, hf⟩⟩, hfs⟩ := h
  · suffices (∃ n fr' fs' w', Go1 P (frun f t todo) fs w n fr' fs' w' ∧ GS T fr' fs') ∨ (∃ n, Bad1 P (frun f t todo) fs w n) from this.elim .inl fun h => .inr (.inl ⟨h, f, t, todo, rfl, by obtain ⟨C, hC, _⟩ := hg; rw [hC]; simp⟩)
    have hg0 := hg
    obtain ⟨C, hC, hall, htf⟩ := hg
    have ctl : ∀ todo', todo'.all (okI T C) = true → (∀ main cs w, stepG P main (G (frun f t todo) cs) w = .go (G (frun f t todo') cs) w) →
        (∃ n fr' fs' w', Go1 P (frun f t todo) fs w n fr' fs' w' ∧ GS T fr' fs') := fun todo' ha hs =>
      ⟨0, _, fs, w, go1_ctl hs, ⟨f, t, todo', .inl ⟨rfl, C, hC, ha, htf⟩⟩, hfs⟩
    have ret : (∀ main cs w, stepG P main (G (frun f t todo) cs) w = .go (G (fret f t todo) cs) w) →
        (∃ n fr' fs' w', Go1 P (frun f t todo) fs w n fr' fs' w' ∧ GS T fr' fs') := fun hs =>
      ⟨0, _, fs, w, go1_ctl hs, ⟨f, t, todo, .inr ⟨rfl, by rw [hC]; simp⟩⟩, hfs⟩
    cases todo with
    | nil => exact .inl (ret fun main cs w => stepG_end)
    | cons x k =>
      rw [List.all_cons, Bool.and_eq_true] at hall
      obtain ⟨hx, hk⟩ := hall
      have cons : ∀ {y : Item} {l : List Item}, okI T C y = true → l.all (okI T C) = true → (y :: l).all (okI T C) = true := fun a b => by rw [List.all_cons, a, b]; rfl
      cases x with
      | code c =>
        cases c with
        | skip => exact .inl (ctl k hk fun main cs w => stepG_skip)
        | label l => exact .inl (ctl k hk fun main cs w => stepG_label)
        | seq a b =>
          simp only [okI, okcT, Bool.and_eq_true] at hx
          exact .inl (ctl (.code a :: .code b :: k) (cons hx.1 (cons hx.2 hk)) fun main cs w => stepG_seq)
        | cond c a b =>
          simp only [okI, okcT, Bool.and_eq_true] at hx
          by_cases hb : ∃ v, (⟨t, []⟩ : Act).eval c = .bool v
          · obtain ⟨v, hv⟩ := hb
            exact .inl (ctl (.code (if v then a else b) :: k) (cons (by cases v; exact hx.2; exact hx.1) hk) fun main cs w => stepG_cond (b := base f) (a := ⟨t, []⟩) hv)
          · refine .inr ⟨0, bad_ctl fun main cs w => ?_⟩
            have he := Frame.eval_at' (base f) ⟨t, []⟩ (.code (.cond c a b) :: k)
            simp only [Frame.at] at he
            cases hv : (⟨t, []⟩ : Act).eval c
            case bool v => exact absurd ⟨v, hv⟩ hb
            all_goals
              simp only [G, stepG, stepG.exec, frun, Frame.at, he, hv]
              exact ⟨_, _, _, rfl⟩
        | block id c => exact .inl (ctl (.code c :: .inBlock id :: k) (cons hx (cons rfl hk)) fun main cs w => stepG_block)
        | loop c => exact .inl (ctl (.code c :: .inLoop c :: k) (cons hx (cons hx hk)) fun main cs w => stepG_loop)
        | scope c => exact .inl (ctl (.code c :: .inScope c :: k) (cons hx (cons hx hk)) fun main cs w => by simp [G, stepG, stepG.exec, frun, Frame.at])
        | exit id =>
          cases he : exitTo id k with
          | some k' => exact .inl (ctl k' (all_exit he hk) fun main cs w => stepG_exit (b := base f) (a := ⟨t, []⟩) he)
          | none =>
            refine .inr ⟨0, bad_ctl fun main cs w => ?_⟩
            simp only [G, stepG, stepG.exec, frun, Frame.at, he, Option.elim]
            exact ⟨_, _, _, rfl⟩
        | goto l =>
          cases he : gotoIn l k with
          | some k' => exact .inl (ctl k' (all_goto T he hk) fun main cs w => by simp [G, stepG, stepG.exec, frun, Frame.at, he])
          | none =>
            refine .inr ⟨0, bad_ctl fun main cs w => ?_⟩
            simp only [G, stepG, stepG.exec, frun, Frame.at, he, Option.elim]
            exact ⟨_, _, _, rfl⟩
        | ret => exact .inl (ret fun main cs w => stepG_ret')
        | rangeFunc a b c d => cases hx
        | refuse s =>
          refine .inr ⟨0, bad_ctl fun main cs w => ?_⟩
          simp only [G, stepG, stepG.exec, frun, Frame.at]
          exact ⟨_, _, _, rfl⟩
        | region id ops draw =>
          cases draw with
          | false => exact .inl (ctl (.inRegion ops (List.range ops.size) :: k) (cons hx hk) fun main cs w => stepG_region)
          | true =>
            refine .inl ⟨1, frun f t (.inRegion ops (Region.schedule (P.follows .mixedOrders) ops (w.tape w.drawn (.order f id))) :: k), fs, { w with drawn := w.drawn + 1 }, ⟨rfl, rfl, fun _ _ h _ => h, fun tt d hs => ⟨#[], by simp, fun main bs => ?_⟩⟩, ⟨f, t, _, .inl ⟨rfl, C, hC, cons hx hk, htf⟩⟩, hfs⟩
            have := stepG_region_draw (P := P) (main := main) (b := base f) (a := ⟨t, []⟩) (k := k) (cs := fs ++ bs) (w := World.ta w tt d) (id := id) (ops := ops)
            have e : (World.ta w tt d).tape (World.ta w tt d).drawn (.order (base f).fn id) = w.tape w.drawn (.order f id) := by
              show tt d (.order f id) = _
              simpa using hs 0 (by omega) (.order f id)
            rw [e] at this
            exact this
      | inBlock id => exact .inl (ctl k hk fun main cs w => stepG_inBlock)
      | inLoop c => exact .inl (ctl (.code c :: .inLoop c :: k) (cons hx (cons hx hk)) fun main cs w => stepG_inLoop)
      | inScope c => exact .inl (ctl k hk fun main cs w => by simp [G, stepG, stepG.exec, frun, Frame.at])
      | inRegion ops l =>
        cases l with
        | nil => exact .inl (ctl k hk fun main cs w => stepG_region_end)
        | cons i rest =>
          cases ho : ops[i]? with
          | none =>
            refine .inl (ctl (.inRegion ops rest :: k) (cons hx hk) fun main cs w => ?_)
            simp [G, stepG, stepG.exec, frun, Frame.at, ho, Frame.finish]
          | some o =>
            by_cases hw : Region.wanted o (yielded ops t) = true
            · exact own_oper T L w hg0 ho hw hfs
            · have hw' : Region.wanted o (yielded ops t) = false := by simpa using hw
              have hT : okT T C o = true := by
                have := hx
                simp only [okI, Array.all_eq_true_iff_forall_mem] at this
                exact this o (Array.mem_of_getElem? ho)
              refine .inl ⟨0, frun f ((⟨t, []⟩ : Act).put o.dst undef).tmps (.inRegion ops rest :: k), fs, w, go1_ctl fun main cs w => ?_, ⟨f, _, _, .inl ⟨rfl, C, hC, cons hx hk, tf_put T htf fun _ _ _ => .inr rfl⟩⟩, hfs⟩
              have := stepG_unwanted (P := P) (main := main) (b := base f) (a := ⟨t, []⟩) (k := k) (cs := cs) (w := w) (rest := rest) ho hw'
              rw [put_eq] at this
              exact this
      | _ => cases hx
  · obtain ⟨v, hl, hst⟩ := own_leave T L t todo hf
    cases fs with
    | nil => exact .inr (.inr ⟨rfl, rfl, v, hl, hst⟩)
    | cons c fs' =>
      obtain ⟨f', t', todo', he, hg'⟩ := gc_finish T (hfs c (List.mem_cons_self)) v
      refine .inl ⟨0, c.finish v, fs', w, ⟨rfl, rfl, keepsC_refl w, fun tt d _ => ⟨#[], by simp, fun main bs => hst main c (fs' ++ bs) _⟩⟩, ⟨f', t', todo', .inl ⟨he, hg'⟩⟩, fun x hx => hfs x (List.mem_cons_of_mem _ hx)⟩
end Go.Proofs.Ytnphcnhejgpjgaa.Co
end
section
namespace Go.Proofs.Ytnphcnhejgpjgaa.Co
open Go.Conc
variable {P : Program} (T : Tk)

/-- The caller below, in the lone run: behind it the run ends. -/
def c0 (P : Program) (B : Nat) : Frame := { (default : Frame) with fn := P.funcs.size, todo := [.code (.refuse "")], defers := [{ target := .collected B, args := #[] }], mode := .run, kind := .normal }

theorem lone_go {fr fr' : Frame} {cs cs' : List Frame} {w w' : World} {es : Array Event} (h : stepG P true (G fr cs) w = .go (G fr' cs') w' es) : step P (lone fr cs w) = .next (lone fr' cs' w') :=
  step_lone_go (by show (stepG P true (G fr cs) w).bare = _; rw [h]; rfl)
theorem lone_end {fr : Frame} {cs : List Frame} {w w' : World} {o : Outcome} {es : Array Event} (h : stepG P true (G fr cs) w = .ended o w' es) : step P (lone fr cs w) = .ended o w' :=
  step_lone_ended (by show (stepG P true (G fr cs) w).bare = _; rw [h]; rfl)

/-- From m the run never is at the return of the frame above c0. -/
def Dead (P : Program) (B : Nat) (m : Machine) : Prop := ∀ n fr w, runN P n m = .next (lone fr [c0 P B] w) → fr.mode ≠ .returning
theorem lone_inj {fr fr' : Frame} {cs cs' : List Frame} {w w' : World} (h : lone fr cs w = lone fr' cs' w') : fr = fr' ∧ cs = cs' ∧ w = w' := by
  simp only [lone, Machine.mk.injEq, Array.mk.injEq, List.cons.injEq, Goroutine.mk.injEq] at h
  exact ⟨h.2.1.1.1, h.2.1.1.2.1, h.1⟩
theorem dead_end {B : Nat} {fr : Frame} {cs : List Frame} {w w' : World} {o : Outcome} (h : step P (lone fr cs w) = .ended o w') (hm : fr.mode ≠ .returning) : Dead P B (lone fr cs w) := by
  intro n fr' w1 hr
  cases n with
  | zero =>
    have := lone_inj (Stepped.next.inj hr)
    rw [← this.1]; exact hm
  | succ n => simp only [runN, h] at hr; cases hr
theorem dead_next {B : Nat} {fr : Frame} {cs : List Frame} {w : World} {m : Machine} (h : step P (lone fr cs w) = .next m) (hm : fr.mode ≠ .returning) (hd : Dead P B m) : Dead P B (lone fr cs w) := by
  intro n fr' w1 hr
  cases n with
  | zero =>
    have := lone_inj (Stepped.next.inj hr)
    rw [← this.1]; exact hm
  | succ n =>
    simp only [runN, h] at hr
    exact hd n fr' w1 hr
theorem dead_c0 {B : Nat} {w : World} {ch : List PanicEntry} (hB : w.heap[B]? = none) : Dead P B (lone ((c0 P B).raise ch) [] w) := by
  have ht : (Instr.takeDeferred B).runT P w #[] = (.halt (.stuck "getObj: no such block") w, #[]) := by
    show Sem.runT P (Sem.getObj B _) w #[] = _
    simp only [Sem.runT, hB]
  have : ∃ o es, stepG P true (G ((c0 P B).raise ch) []) w = .ended o w es := by
    simp only [G, stepG, c0, Frame.raise, unwind, ht, GStep.after]
    exact ⟨_, _, rfl⟩
  obtain ⟨o, es, h⟩ := this
  exact dead_end (lone_end h) (by simp [c0, Frame.raise])
theorem raise_run {f : FuncId} {t : Array Value} {todo : List Item} {ch : List PanicEntry} : (frun f t todo).raise ch = { frun f t todo with mode := .panicking ch } := rfl
theorem dead_panic (L : Lay P T) {B : Nat} {w : World} (hB : w.heap[B]? = none) : ∀ (fs : List Frame) (f : FuncId) (t : Array Value) (todo : List Item) (ch : List PanicEntry), T.cf f ≠ none → (∀ c ∈ fs, GC T c) →
    Dead P B (lone ((frun f t todo).raise ch) (fs ++ [c0 P B]) w)
  | fs, f, t, todo, ch, hf, hfs => by
    cases hC : T.cf f with
    | none => exact absurd hC hf
    | some C =>
      obtain ⟨fn, c, hfn, hb, _, _, hr⟩ := L.fns f C hC
      have hfn' : P.funcs[(base f).fn]? = some fn := hfn
      cases fs with
      | nil =>
        refine dead_next (lone_go (fr' := (c0 P B).raise ch) (cs' := []) (w' := w) (es := #[]) ?_) (by simp [raise_run]) (dead_c0 hB)
        rw [raise_run]
        simp [G, stepG, unwind, frun, Frame.at, Frame.catches, hfn']
      | cons x fs =>
        obtain ⟨f', t', ops, i, rest, k, o, cl, rfl, ⟨C', hC', _⟩, _⟩ := hfs x (List.mem_cons_self)
        refine dead_next (lone_go (fr' := (frun f' t' (.inRegion ops (i :: rest) :: k)).raise ch) (cs' := fs ++ [c0 P B]) (w' := w) (es := #[]) ?_) (by simp [raise_run])
          (dead_panic L hB fs f' t' _ ch (by rw [hC']; simp) fun c hc => hfs c (List.mem_cons_of_mem _ hc))
        rw [raise_run, raise_run]
        simp [G, stepG, unwind, frun, Frame.at, Frame.catches, hfn', Frame.raise]
/-- Behind the return above c0 the run ends. -/
theorem past_end {B : Nat} {fr : Frame} {w : World} {v : Value} (h : fr.leaving P w (.returned v)) : runN P 1 (lone fr [c0 P B] w) = .next (lone (c0 P B) [] w) ∧ ∀ n m, runN P (n + 2) (lone fr [c0 P B] w) ≠ .next m := by
  have h1 : step P (lone fr [c0 P B] w) = .next (lone (c0 P B) [] w) := step_leave_returned h
  have h2 : ∃ o w', step P (lone (c0 P B) [] w) = .ended o w' := ⟨_, _, lone_end (es := #[]) (by simp [G, stepG, stepG.exec, c0]; exact ⟨rfl, rfl⟩)⟩
  refine ⟨by simp [runN, h1], fun n m hn => ?_⟩
  obtain ⟨o, w', h2⟩ := h2
  simp [runN, h1, h2] at hn
end Go.Proofs.Ytnphcnhejgpjgaa.Co
end
section
namespace Go.Proofs.Ytnphcnhejgpjgaa.Co
open Go.Conc
variable {P : Program} (T : Tk)

theorem ta_ta (w : World) (t t' : Nat → Question → Nat) (d d' : Nat) : World.ta (World.ta w t d) t' d' = World.ta w t' d' := rfl
theorem ta_at (w : World) (t : Nat → Question → Nat) (d e : Nat) : World.ta (w.at e) t d = World.ta w t d := rfl
theorem runN_succ' (n : Nat) (m : Machine) : runN P (n + 1) m = match runN P n m with | .next m' => step P m' | r => r := by
  rw [runN_behind P n 1 m]
  cases runN P n m with
  | next m' => simp only [runN]; cases step P m' <;> rfl
  | ended o w => rfl

/-- Where the lone run stands after n steps on every tape that begins as tt up to k. -/
structure At (P : Program) (T : Tk) (en : Frame) (w : World) (n : Nat) (tt : Nat → Question → Nat) (k : Nat) (fr : Frame) (fs : List Frame) (w1 : World) : Prop where
  gs : GS T fr fs
  tape : w1.tape = w.tape
  run : ∀ tt' : Nat → Question → Nat, (∀ i < k, ∀ q, tt' i q = tt i q) → ∀ bs, runN P n (lone en bs (World.ta w tt' 0)) = .next (lone fr (fs ++ bs) (World.ta w1 tt' k))

section
variable {en : Frame} {w : World} {R : Ending → World → Prop}
/-- The lone run's end, with the end's place. -/
theorem end_of (hcalls : ∀ tt B, ∃ e w' fr, R e w' ∧ Comes P (lone en [c0 P B] (World.ta w tt 0)) (lone fr [c0 P B] w') e ∧ fr.leaving P w' e) (hv : ∀ e w', R e w' → ∃ v, e = .returned v) (tt : Nat → Question → Nat) (B : Nat) :
    ∃ ne v w' fr, R (.returned v) w' ∧ runN P ne (lone en [c0 P B] (World.ta w tt 0)) = .next (lone fr [c0 P B] w') ∧ fr.leaving P w' (.returned v) := by
  obtain ⟨e, w', fr, hR, hc, hl⟩ := hcalls tt B
  obtain ⟨v, rfl⟩ := hv e w' hR
  obtain ⟨ne, hn⟩ := hc
  exact ⟨ne, v, w', fr, hR, hn, hl⟩

/-- Where it stands is not behind the end. -/
theorem not_behind {n ne B : Nat} {m : Machine} {fr : Frame} {w1 w2 : World} {v : Value} {fre : Frame} {fs : List Frame} (hm : runN P n m = .next (lone fr (fs ++ [c0 P B]) w1)) (he : runN P ne m = .next (lone fre [c0 P B] w2)) (hl : fre.leaving P w2 (.returned v)) : n ≤ ne := by
  rcases Nat.lt_or_ge ne n with h | h
  · exfalso
    obtain ⟨d, rfl⟩ : ∃ d, n = ne + (d + 1) := ⟨n - ne - 1, by omega⟩
    rw [runN_behind, he] at hm
    obtain ⟨p1, p2⟩ := past_end (B := B) hl
    cases d with
    | zero =>
      dsimp only at hm
      rw [p1] at hm
      have := (lone_inj (Stepped.next.inj hm)).2.1
      cases fs <;> cases this
    | succ d => exact p2 d _ hm
  · exact h

theorem one_step [Env] [AtEnv] [Nice P] (L : Lay P T) (hcalls : ∀ tt B, ∃ e w' fr, (∀ d, R e (World.ta w' w.tape d)) ∧ Comes P (lone en [c0 P B] (World.ta w tt 0)) (lone fr [c0 P B] w') e ∧ fr.leaving P w' e) (hv : ∀ e w', R e w' → ∃ v, e = .returned v)
    {c : Frame} {cs : List Frame} {Z : Goroutine → World → Prop} (hZ : ∀ v w', R (.returned v) w' → TrK P Z (G (c.finish v) cs) w')
    {n : Nat} {tt : Nat → Question → Nat} {k : Nat} {fr : Frame} {fs : List Frame} {w1 : World} (I : At P T en w n tt k fr fs w1) (hN : ¬ TrK P Z (G fr (fs ++ c :: cs)) w1) :
    ∃ tt2 k2 fr2 fs2 w2, k ≤ k2 ∧ (∀ i < k, ∀ q, tt2 i q = tt i q) ∧ At P T en w (n + 1) tt2 k2 fr2 fs2 w2 ∧ ¬ TrK P Z (G fr2 (fs2 ++ c :: cs)) w2 := by
  have hv0 : ∀ e w', (∀ d, R e (World.ta w' w.tape d)) → ∃ v, e = .returned v := fun e w' h => hv e _ (h 0)
  have hs : ¬ ∀ s₁, AtRel w1 s₁ → ∃ g' s' es, stepG P Env.main (G fr (fs ++ c :: cs)) s₁ = .go g' s' es ∧ DN s₁ es s' ∧ TrK P Z g' s' := fun h => hN (Env.one rfl fun w₁ hr => by
    obtain ⟨g', s', es, h1, h2, h3⟩ := h w₁ (AtEnv.rl _ _ hr)
    exact ⟨g', s', es, h1, h2, fun hf => noFr hf, h3⟩)
  simp only [Classical.not_forall] at hs
  obtain ⟨u, ⟨d, rfl⟩, hno⟩ := hs
  -- the tape: as it was read up to k, then as at this draw
  let tt2 : Nat → Question → Nat := fun i q => if i < k then tt i q else w1.tape (d + (i - k)) q
  have h2 : ∀ i < k, ∀ q, tt2 i q = tt i q := fun i hi q => if_pos hi
  have same : ∀ tt' : Nat → Question → Nat, ∀ n1, (∀ i < k + n1, ∀ q, tt' i q = tt2 i q) → Same (w1.at d) tt' k n1 := by
    intro tt' n1 h i hi q
    rw [h (k + i) (by omega) q]
    show (if k + i < k then _ else w1.tape (d + (k + i - k)) q) = w1.tape (d + i) q
    rw [if_neg (by omega), Nat.add_sub_cancel_left]
  rcases own_step T L I.gs (w1.at d) with ⟨n1, fr', fs', w', ⟨e1, e2, e3, e4⟩, hg⟩ | ⟨⟨n1, hbad⟩, f, t, todo, rfl, hf⟩ | ⟨rfl, hmode, v, hl, hst⟩
  · refine ⟨tt2, k + n1, fr', fs', w', by omega, h2, ⟨hg, e1.trans I.tape, fun tt' h bs => ?_⟩, fun ht => hno ?_⟩
    · rw [runN_succ', I.run tt' (fun i hi q => by rw [h i (by omega) q, h2 i hi q]) bs]
      obtain ⟨es, _, hgo⟩ := e4 tt' k (same tt' n1 h)
      exact lone_go (hgo true bs)
    · obtain ⟨es, he, hgo⟩ := e4 (w1.at d).tape (w1.at d).drawn (fun i _ q => rfl)
      refine ⟨_, w', es, ?_, ⟨he, e3⟩, ht⟩
      have := hgo Env.main (c :: cs)
      rw [ta_self, ← e1, ← e2, ta_self] at this
      exact this
  · exfalso
    have hsm := same tt2 n1 (fun _ _ _ => rfl)
    have run : ∀ bs, runN P n (lone en bs (World.ta w tt2 0)) = .next (lone (frun f t todo) (fs ++ bs) (World.ta w1 tt2 k)) := fun bs => I.run tt2 h2 bs
    have fin : ∀ B, Dead P B (lone (frun f t todo) (fs ++ [c0 P B]) (World.ta w1 tt2 k)) → False := by
      intro B hd
      obtain ⟨ne, v, w', fre, _, hne, hl⟩ := end_of hcalls hv0 tt2 B
      have hle := not_behind (run [c0 P B]) hne hl
      obtain ⟨j, rfl⟩ : ∃ j, ne = n + j := ⟨ne - n, by omega⟩
      rw [runN_behind, run] at hne
      exact hd j fre w' hne hl.1
    rcases hbad tt2 k hsm with hend | ⟨ch, w', hgo⟩
    · obtain ⟨o, w', es, h⟩ := hend true [c0 P 0]
      exact fin 0 (dead_end (lone_end h) (by simp [frun, Frame.at]))
    · obtain ⟨es, h⟩ := hgo true [c0 P w'.heap.size]
      exact fin w'.heap.size (dead_next (lone_go h) (by simp [frun, Frame.at]) (dead_panic T L (by simp) fs f t todo ch hf I.gs.2))
  · exfalso
    obtain ⟨ne, v', w', fre, hR', hne, hl'⟩ := end_of hcalls hv0 tt2 0
    have run := I.run tt2 h2 [c0 P 0]
    have hle := not_behind (fs := []) run hne hl'
    obtain ⟨j, rfl⟩ : ∃ j, ne = n + j := ⟨ne - n, by omega⟩
    rw [runN_behind, run] at hne
    have hlv := hl (World.ta w1 tt2 k)
    obtain ⟨p1, p2⟩ := past_end (B := 0) hlv
    dsimp only [List.nil_append] at hne
    match j, hne with
    | 0, hne =>
      obtain ⟨rfl, _, rfl⟩ := lone_inj (Stepped.next.inj hne)
      have hvv : v = v' := by
        obtain ⟨_, _, _, fn, hfn, hr⟩ := hlv
        obtain ⟨_, _, _, fn', hfn', hr'⟩ := hl'
        rw [hfn] at hfn'
        cases hfn'
        rw [hr] at hr'
        cases hr'
        rfl
      subst hvv
      refine hno ⟨_, w1.at d, #[], hst Env.main c cs (w1.at d), dn_nil _ _ rfl, hZ v (w1.at d) ?_⟩
      have := hR' d
      rw [ta_ta, ← I.tape] at this
      exact this
    | 1, hne =>
      rw [p1] at hne
      have := (lone_inj (Stepped.next.inj hne)).2.1
      cases this
    | j + 2, hne => exact p2 j _ hne

theorem callsK_of_lone [Env] [AtEnv] [Nice P] (L : Lay P T) {f : FuncId} {args : Array Value} {C : List Tmp} (hf : T.cf f = some C) (ha : ∀ x ∈ C, args.getD x undef = cmpv T ∨ args.getD x undef = undef)
    (hcalls : ∀ tt, Calls P f args (World.ta w tt 0) fun e w' => ∀ d, R e (World.ta w' w.tape d)) (hv : ∀ e w', R e w' → ∃ v, e = .returned v) : CallsK P f args w R := by
  classical
  intro c cs Z hz
  have hZ : ∀ v w', R (.returned v) w' → TrK P Z (G (c.finish v) cs) w' := fun v w' h => by
    obtain ⟨v', e, ht⟩ := hz _ _ h
    cases e
    exact ht
  have hc : ∀ tt B, ∃ e w' fr, (∀ d, R e (World.ta w' w.tape d)) ∧ Comes P (lone (Frame.enter P f args .normal) [c0 P B] (World.ta w tt 0)) (lone fr [c0 P B] w') e ∧ fr.leaving P w' e := fun tt B => by
    obtain ⟨e, w', fr, a, b, _, d⟩ := hcalls tt [c0 P B]
    exact ⟨e, w', fr, a, b, d⟩
  by_cases hN : TrK P Z (G (Frame.enter P f args .normal) (c :: cs)) w
  · exact hN
  exfalso
  obtain ⟨fn, bd, hfn, hb, hok, _, _⟩ := L.fns f C hf
  have I0 : At P T (Frame.enter P f args .normal) w 0 (fun _ _ => 0) 0 (Frame.enter P f args .normal) [] w := by
    refine ⟨⟨⟨f, args ++ Array.replicate (fn.ntmps - args.size) undef, [.code bd], .inl ⟨enter_at args hfn hb, C, hf, ?_, fun x hx => ?_⟩⟩, by simp⟩, rfl, fun tt' _ bs => rfl⟩
    · simp [okI, hok]
    · have : (args ++ Array.replicate (fn.ntmps - args.size) undef).getD x undef = args.getD x undef := by
        simp only [Array.getD_eq_getD_getElem?, Array.getElem?_append]
        split
        · rfl
        · rename_i hx
          rw [Array.getElem?_eq_none (xs := args) (by omega), Array.getElem?_replicate]
          split <;> rfl
      rw [this]
      exact ha x hx
  -- the states of the path
  let PathT := { x : Nat × (Nat → Question → Nat) × Nat × Frame × List Frame × World // At P T (Frame.enter P f args .normal) w x.1 x.2.1 x.2.2.1 x.2.2.2.1 x.2.2.2.2.1 x.2.2.2.2.2 ∧ ¬ TrK P Z (G x.2.2.2.1 (x.2.2.2.2.1 ++ c :: cs)) x.2.2.2.2.2 }
  have nxt : ∀ x : PathT, ∃ y : PathT, y.1.1 = x.1.1 + 1 ∧ x.1.2.2.1 ≤ y.1.2.2.1 ∧ ∀ i < x.1.2.2.1, ∀ q, y.1.2.1 i q = x.1.2.1 i q := by
    rintro ⟨⟨n, tt, k, fr, fs, w1⟩, hI, hn⟩
    obtain ⟨tt2, k2, fr2, fs2, w2, a, b, c, d⟩ := one_step T L hc hv hZ hI hn
    exact ⟨⟨⟨n + 1, tt2, k2, fr2, fs2, w2⟩, c, d⟩, rfl, a, b⟩
  obtain ⟨F, hF⟩ := Classical.axiomOfChoice nxt
  let s : Nat → PathT := fun n => Nat.rec ⟨⟨0, fun _ _ => 0, 0, Frame.enter P f args .normal, [], w⟩, I0, hN⟩ (fun _ x => F x) n
  have hs : ∀ n, s (n + 1) = F (s n) := fun n => rfl
  have hn : ∀ n, (s n).1.1 = n := by
    intro n
    induction n with
    | zero => rfl
    | succ n ih => rw [hs, (hF (s n)).1, ih]
  have mono : ∀ a b, (s a).1.2.2.1 ≤ (s (a + b)).1.2.2.1 ∧ ∀ i < (s a).1.2.2.1, ∀ q, (s (a + b)).1.2.1 i q = (s a).1.2.1 i q := by
    intro a b
    induction b with
    | zero => exact ⟨Nat.le_refl _, fun _ _ _ => rfl⟩
    | succ b ih =>
      obtain ⟨_, h1, h2⟩ := hF (s (a + b))
      have e : s (a + (b + 1)) = F (s (a + b)) := hs (a + b)
      rw [e]
      exact ⟨Nat.le_trans ih.1 h1, fun i hi q => by rw [h2 i (Nat.lt_of_lt_of_le hi ih.1) q, ih.2 i hi q]⟩
  let tt : Nat → Question → Nat := fun i q => if h : ∃ j, i < (s j).1.2.2.1 then (s h.choose).1.2.1 i q else 0
  have htt : ∀ j, ∀ i < (s j).1.2.2.1, ∀ q, tt i q = (s j).1.2.1 i q := by
    intro j i hi q
    have h : ∃ j, i < (s j).1.2.2.1 := ⟨j, hi⟩
    have e : tt i q = (s h.choose).1.2.1 i q := dif_pos h
    rw [e]
    have hc := h.choose_spec
    rcases Nat.le_total j h.choose with hj | hj
    · obtain ⟨b, hb⟩ := Nat.exists_eq_add_of_le hj
      have := (mono j b).2 i hi q
      rw [← hb] at this
      exact this
    · obtain ⟨b, hb⟩ := Nat.exists_eq_add_of_le hj
      have := (mono h.choose b).2 i hc q
      rw [← hb] at this
      exact this.symm
  obtain ⟨ne, v, w', fre, _, hne, hl⟩ := end_of hc (fun e w' h => hv e _ (h 0)) tt 0
  have hI := (s (ne + 2)).2.1
  have hr := hI.run tt (htt (ne + 2)) [c0 P 0]
  have hr2 := (congrArg (fun m => runN P m (lone (Frame.enter P f args .normal) [c0 P 0] (World.ta w tt 0))) (hn (ne + 2))).symm.trans hr
  have := not_behind hr2 hne hl
  omega
end
end Go.Proofs.Ytnphcnhejgpjgaa.Co
end
section
namespace Go.Proofs.Ytnphcnhejgpjgaa.Abs
open Go.Proofs.Ytnphcnhejgpjgaa.Co
variable [Env] [AtEnv]
open Go.RowKit Go.Shelf Go.Sort
open Go.Proofs (sortWorldK)
section
variable {β : Type} [Inhabited β] {enc : β → List Value} {k : Nat} {w : World} {b n : Nat} {d : Array β} {os : Array Obj} {cur : Array Value} {e : TypeId}

end

omit [Env] [AtEnv] in
theorem sort_lone {P : Program} {ρ : Ren} (L : Go.Proofs.SlLaysF0.n6 P ρ) {α : Type} {f : α → List Lf} {e sz g : Nat} (cf : α → α → Int) (hf : ∀ x, (f x).length = sz) (hsz : 0 < sz)
    (aE : ∀ w, (isAgg (ρ.t 24)).run P w = .ok true w) (zE : ∀ w, (Go.sizeOf (ρ.t 24)).run P w = .ok sz w) (hO : SWO (Go.Proofs.ltOf cf)) (eg : ∀ args w, (callFunc g args).run P w = .ok (.enter g args) w)
    (hg : ∀ (W : World) (S : Stab) (x y : α) (vx vy : List Value), (∀ b i, S b i → b < W.heap.size) → LsR (Rep W S) (f x) vx → LsR (Rep W S) (f y) vy → Calls P g #[.agg vx.toArray, .agg vy.toArray] W fun e w' => e = .returned (.int .i64 (cf x y)) ∧ ∃ q os', w' = grow (W.drewN q) os')
    {xs ys : List α} (hn : xs.length ≤ 1000000000000000000) (hys : ∀ zs : List α, zs.Perm xs → zs.Pairwise (fun a b => Go.Proofs.ltOf cf b a = false) → zs = ys)
    (w : World) (S : Stab) (H : Nat → Value) (vs : Array Value) (hin : InH w S) (mem : Mem w S [.arr e sz 0 (xs.flatMap f)] H) (hvs : SvsR (GRep w S [.arr e sz 0 (xs.flatMap f)] H) [.one (.ls 0 xs.length), .one (.raw (.func (.func g) #[] #[]))] vs.toList) :
    Calls P (ρ.f 6) vs w fun e' w' => ∃ v x m' S' H', e' = .returned v ∧ (x = .tup [] ∧ m' = [.arr e sz 0 (ys.flatMap f)]) ∧ ExtX (ownX [.arr e sz 0 (xs.flatMap f)] H) w S w' S' ∧ InH w' S' ∧ Mem w' S' m' H' ∧
      (∀ (p : Nat) (b : Blk) (g : Nat), m'[p]? = some b → b.own (H' p) = some g → w.heap.size ≤ g ∨ ownX [.arr e sz 0 (xs.flatMap f)] H g) ∧ Kept [.arr e sz 0 (xs.flatMap f)] H m' H' ∧ AVR (GRep w' S' m' H') x v := by
  obtain ⟨hvl, hvr⟩ := hvs
  obtain ⟨v0, v1, rfl⟩ : ∃ v0 v1, vs = #[v0, v1] := by
    obtain ⟨l⟩ := vs
    match l, hvl with
    | [a, b], _ => exact ⟨a, b, rfl⟩
  have hv1 : v1 = .func (.func g) #[] #[] := rep_raw (hvr 1 _ v1 rfl rfl)
  obtain ⟨_, _, hv0⟩ := (show GRep0 w S [.arr e sz 0 (xs.flatMap f)] H (.ls 0 xs.length) v0 from hvr 0 _ v0 rfl rfl)
  have hv0 := (hv0 e sz 0 _ rfl).2 (flat_len hf xs).symm
  obtain ⟨_, _, n', vals, hown, hls, _⟩ := mem.bl 0 _ rfl
  have hn' : n' = xs.length := ownsRow_n hown hsz (by rw [← hls.1, flat_len hf])
  subst hn'
  have hin' := hin
  subst hv1
  have none0 : xs.length = 0 → (∃ p cap, v0 = .slice p 0 cap) → Calls P (ρ.f 6) #[v0, .func (.func g) #[] #[]] w fun e' w' => ∃ v x m' S' H', e' = .returned v ∧ (x = .tup [] ∧ m' = [.arr e sz 0 (ys.flatMap f)]) ∧ ExtX (ownX [.arr e sz 0 (xs.flatMap f)] H) w S w' S' ∧ InH w' S' ∧ Mem w' S' m' H' ∧
      (∀ (p : Nat) (b : Blk) (g : Nat), m'[p]? = some b → b.own (H' p) = some g → w.heap.size ≤ g ∨ ownX [.arr e sz 0 (xs.flatMap f)] H g) ∧ Kept [.arr e sz 0 (xs.flatMap f)] H m' H' ∧ AVR (GRep w' S' m' H') x v := fun h0 ⟨p, cap, hp⟩ => by
    have hx : xs = [] := List.eq_nil_of_length_eq_zero h0
    have hy : ys = xs := (hys xs (List.Perm.refl _) (by rw [hx]; exact List.Pairwise.nil)).symm
    subst hp
    refine (Go.Proofs.AnyF.slices_SortFunc_none { L with } p cap _ w).mono ?_
    rintro e' w' ⟨rfl, rfl⟩
    rw [hy]
    exact ⟨_, .tup [], _, S, H, rfl, ⟨rfl, rfl⟩, ExtX.refl _ _ _, hin, mem, fun p b g hb ho => .inr ⟨p, b, hb, ho⟩, ⟨Nat.le_refl _, fun _ _ _ _ => rfl, fun p e' sz' k cs _ hm => ⟨k, cs, hm, .inl ⟨rfl, rfl⟩⟩, fun _ _ h => h⟩, avr_undef⟩
  rcases hown.2 with ⟨hH, h0⟩ | ⟨blk, cap, cur, hH, _, hheap, hcap, hmax, hcs, hvals⟩
  · exact none0 h0 ⟨none, 0, hv0.trans hH⟩
  rcases Nat.eq_zero_or_pos xs.length with h0 | hpos
  · exact none0 h0 ⟨_, _, by rw [hv0, hH, h0]⟩
  obtain ⟨d, hd1, hd2⟩ := chunks hls
  have hdl : d.length = xs.length := by rw [← hd1, List.length_map]
  obtain ⟨p0, hp0⟩ : ∃ p0, d[0]? = some p0 := ⟨_, List.getElem?_eq_getElem (by omega)⟩
  let β := { p : α × List Value // LsR (Rep w S) (f p.1) p.2 }
  let _ : Inhabited β := ⟨p0⟩
  let enc : β → List Value := fun p => p.1.2
  have hk : ∀ x : β, (enc x).length = sz := fun x => by rw [← x.2.1, hf]
  have h1 : ∀ x : β, ∀ v ∈ enc x, v.oneCell' = true := fun x v hv => by
    obtain ⟨j, hj⟩ := List.mem_iff_getElem?.1 hv
    have hjl : j < (f x.1.1).length := by rw [x.2.1]; exact (List.getElem?_eq_some_iff.1 hj).1
    exact Rep.oneCell (x.2.2 j _ v (List.getElem?_eq_getElem hjl) hj)
  have hblk : blk < w.heap.size := (Array.getElem?_eq_some_iff.1 hheap).1
  have hnoS : ∀ i, ¬ S blk i := fun i hi => absurd (mem.sb 0 _ blk i rfl (by show ownOf (H 0) = _; rw [hH]; rfl) hi) (Nat.not_lt_zero _)
  have hflat : (flatK enc sz d.toArray).toList = vals := by rw [flatK_eq hk]; exact hd2
  have hcurlen : d.toArray.size * sz ≤ cur.size := by
    rw [hcs]; simp only [List.size_toArray, hdl]; exact Nat.mul_le_mul_right _ hcap
  have hH' : HoldsK enc sz w blk 0 d.toArray := fun j hj => by
    rw [size_flatK, List.size_toArray] at hj
    have hjv : j < vals.length := by rw [← hls.1, flat_len hf, ← hdl]; exact hj
    have hval : (flatK enc sz d.toArray)[j]! = vals[j] := by
      rw [getElem!_pos _ _ (by rw [size_flatK, List.size_toArray]; exact hj), ← Array.getElem_toList]
      simp only [hflat]
    have hcur : cur.toList[j]? = some vals[j] := by
      have : (cur.toList.take (xs.length * sz))[j]? = some vals[j] := by rw [hvals, List.getElem?_eq_getElem hjv]
      rw [List.getElem?_take] at this
      split at this
      · exact this
      · cases this
    refine ⟨?_, ?_⟩
    · rw [Nat.zero_add, cell_of_row w _ _ cur e (0, 0) hheap, hval]
      simpa using hcur
    · rw [Nat.zero_add]
      unfold World.frozen?
      rw [hheap]
      simp
  have hcmp : Go.Proofs.CmpLays P g #[] enc sz (fun x y : β => cf x.1.1 y.1.1) blk 0 d.toArray.size w := fun m os dk hdk x y => by
    have hkeep : ∀ b i, S b i → S b i ∧ (sortWorldK enc sz w blk 0 m dk os).cell? ⟨b, i, none⟩ = w.cell? ⟨b, i, none⟩ := fun b i hs =>
      ⟨hs, World.cell?_of_block (w := w) (sw_other (hin.1 b i hs) fun e => hnoS i (e ▸ hs))⟩
    have := hg (sortWorldK enc sz w blk 0 m dk os) S x.1.1 y.1.1 x.1.2 y.1.2 (fun b i hs => Nat.lt_of_lt_of_le (hin.1 b i hs) sw_size) (x.2.mono fun l v => Rep.mono hkeep) (y.2.mono fun l v => Rep.mono hkeep)
    simpa using this
  have hO' : SWO (Go.Proofs.ltOf (fun x y : β => cf x.1.1 y.1.1)) := ⟨fun x => hO.irrefl x.1.1, fun x y z => hO.trans x.1.1 y.1.1 z.1.1, fun x y z => hO.ntrans x.1.1 y.1.1 z.1.1⟩
  have hcon := Go.Proofs.AnyQ.slices_SortFunc L sz aE zE enc hk h1 (fun x y : β => cf x.1.1 y.1.1) hO' g #[] blk 0 cap d.toArray w eg hcmp hH' hblk (by rw [List.size_toArray, hdl]; omega)
  rw [hv0, hH]
  rw [List.size_toArray, hdl] at hcon
  refine hcon.mono ?_
  rintro e' w' ⟨rfl, d', n2, os, hperm, hsort, rfl⟩
  obtain ⟨hps, _, hpp⟩ := hperm
  have hds : d'.size = xs.length := by rw [hps, List.size_toArray, hdl]
  have hpl : d'.toList.Perm d := by
    have e1 : d'.extract 0 xs.length = d' := by rw [← hds]; simp
    have e2 : d.toArray.extract 0 xs.length = d.toArray := by rw [← hdl]; simp
    rw [e1, e2] at hpp
    simpa using hpp
  have hz : d'.toList.map (fun p => p.1.1) = ys := by
    refine hys _ ?_ ?_
    · rw [← hd1]; exact hpl.map _
    · rw [List.pairwise_map]
      refine List.pairwise_iff_getElem.2 fun i j hi hj hij => ?_
      rw [Array.length_toList] at hi hj
      have := hsort i j (Nat.zero_le _) hij (by omega)
      rw [getElem!_pos d' j (by omega), getElem!_pos d' i (by omega)] at this
      exact this
  have hyl : ys.length = xs.length := by rw [← hz, List.length_map, Array.length_toList, hds]
  have hsame := sw_same (enc := enc) (k := sz) (n := n2) (d := d') (os := os) hheap (by rw [hds]; rw [List.size_toArray, hdl] at hcurlen; exact hcurlen)
  have hkeep : ∀ b i, S b i → S b i ∧ (sortWorldK enc sz w blk 0 n2 d' os).cell? ⟨b, i, none⟩ = w.cell? ⟨b, i, none⟩ := fun b i hs =>
    ⟨hs, World.cell?_of_block (w := w) (sw_other (hin.1 b i hs) fun e => hnoS i (e ▸ hs))⟩
  have hin2 : InH (sortWorldK enc sz w blk 0 n2 d' os) S := hin.turn (· = blk) (fun g i e hs => absurd (e ▸ hs) (hnoS i)) (fun q hq hne => sw_other hq hne) sw_size fun b i hs => (hkeep b i hs).2
  have hlenv : (d'.toList.flatMap enc).length = xs.length * sz := by rw [← flatK_eq hk, Array.length_toList, size_flatK, hds]
  have hownX : ownX [.arr e sz 0 (xs.flatMap f)] H blk := ⟨0, _, rfl, by show ownOf (H 0) = _; rw [hH]; rfl⟩
  refine ⟨_, .tup [], [.arr e sz 0 (ys.flatMap f)], S, H, rfl, ⟨rfl, rfl⟩, ⟨rfl, rfl, rfl, sw_size, fun b hb hx => sw_other hb fun e => hx (e ▸ hownX), fun b i hs => hs, fun b i hs => (hkeep b i hs).2, fun b i _ _ hs => hs⟩, hin2, ⟨fun p b hb => ?_, fun p b g' hb ho => ?_, fun p q b b' g' hb hb' _ _ => ?_, fun p b g' i hb ho hs => ?_⟩, fun p b g' hb ho => ?_, ⟨Nat.le_refl _, fun _ _ _ _ => rfl, fun p e' sz' k' cs' hp hm => ?_, fun _ _ h => h⟩, avr_undef⟩
  · match p with
    | 0 =>
      obtain rfl := Option.some.inj hb
      refine ⟨hsz, Nat.zero_le _, xs.length, d'.toList.flatMap enc, ⟨hlenv, .inr ⟨blk, cap, _, hH, Nat.zero_le _, hsame, hcap, hmax, ?_, ?_⟩⟩, ?_, fun g' _ i hi => absurd hi (Nat.not_lt_zero _)⟩
      · rw [List.size_toArray, List.length_append, Array.length_toList, size_flatK, List.length_drop, Array.length_toList, hds, hcs]
        have := Nat.mul_le_mul_right sz hcap
        omega
      · rw [flatK_eq hk, List.toList_toArray, List.take_append_of_le_length (by rw [hlenv]; exact Nat.le_refl _), ← hlenv, List.take_length]
      · rw [← hz]
        exact (unchunk d'.toList).mono fun l v => Rep.mono hkeep
    | p + 1 => simp at hb
  · match p with
    | 0 =>
      obtain rfl := Option.some.inj hb
      have hg' : ownOf (H 0) = some g' := ho
      rw [hH] at hg'
      obtain rfl : blk = g' := by simpa [ownOf] using hg'
      exact Nat.lt_of_lt_of_le hblk sw_size
    | p + 1 => simp at hb
  · match p, q with
    | 0, 0 => rfl
    | 0, q + 1 => simp at hb'
    | p + 1, _ => simp at hb
  · match p with
    | 0 =>
      obtain rfl := Option.some.inj hb
      have hg' : ownOf (H 0) = some g' := ho
      rw [hH] at hg'
      obtain rfl : blk = g' := by simpa [ownOf] using hg'
      exact absurd hs (hnoS i)
    | p + 1 => simp at hb
  · match p with
    | 0 =>
      obtain rfl := Option.some.inj hb
      exact .inr ⟨0, _, rfl, ho⟩
    | p + 1 => simp at hb
  · match p with
    | 0 =>
      obtain ⟨rfl, rfl, rfl, rfl⟩ : e = e' ∧ sz = sz' ∧ 0 = k' ∧ ys.flatMap f = cs' := by simpa using hm
      exact ⟨0, _, rfl, .inl ⟨by rw [flat_len hf, flat_len hf, hyl], rfl⟩⟩
    | p + 1 => simp at hp

omit [Env] [AtEnv] in
/-- What holds of a world by its heap alone. -/
theorem keep_ta (w : World) (S : Stab) (t : Nat → Question → Nat) (d : Nat) : ∀ b i, S b i → S b i ∧ (World.ta w t d).cell? ⟨b, i, none⟩ = w.cell? ⟨b, i, none⟩ := fun b i hs => ⟨hs, rfl⟩
omit [Env] [AtEnv] in
theorem inH_ta {w : World} {S : Stab} (h : InH w S) (t : Nat → Question → Nat) (d : Nat) : InH (World.ta w t d) S := ⟨h.1, h.2.1.mono (keep_ta w S t d), h.2.2⟩
omit [Env] [AtEnv] in
theorem gRep_ta {w : World} {S : Stab} {m : List Blk} {H : Nat → Value} {l : Lf} {v : Value} (t : Nat → Question → Nat) (d : Nat) (h : GRep w S m H l v) : GRep (World.ta w t d) S m H l v :=
  GRep.mono (keep_ta w S t d) (Nat.le_refl _) (fun _ _ => rfl) (fun p e sz k cs _ hm => ⟨k, cs, hm, rfl⟩) h
omit [Env] [AtEnv] in
theorem mem_ta {w : World} {S : Stab} {H : Nat → Value} {e sz : Nat} {cs : List Lf} (h : Mem w S [.arr e sz 0 cs] H) (t : Nat → Question → Nat) (d : Nat) : Mem (World.ta w t d) S [.arr e sz 0 cs] H := by
  refine ⟨fun p b hp => ?_, h.hp, h.inj, h.sb⟩
  match p, hp with
  | 0, hp =>
    obtain rfl := Option.some.inj hp
    obtain ⟨a, b, n, vals, c, k, e⟩ := h.bl 0 _ rfl
    exact ⟨a, b, n, vals, c, k.mono fun l v r => Rep.mono (keep_ta w S t d) r, e⟩
  | p + 1, hp => simp at hp
theorem sort_K {P : Program} [Nice P] {T : Tk} (LT : Lay P T) {ρ : Ren} (L : Go.Proofs.SlLaysF0.n6 P ρ) {α : Type} {f : α → List Lf} {e sz g : Nat} (cf : α → α → Int) (hf : ∀ x, (f x).length = sz) (hsz : 0 < sz)
    (aE : ∀ w, (isAgg (ρ.t 24)).run P w = .ok true w) (zE : ∀ w, (Go.sizeOf (ρ.t 24)).run P w = .ok sz w) (hO : SWO (Go.Proofs.ltOf cf)) (eg : ∀ args w, (callFunc g args).run P w = .ok (.enter g args) w)
    (hg : ∀ (W : World) (S : Stab) (x y : α) (vx vy : List Value), (∀ b i, S b i → b < W.heap.size) → LsR (Rep W S) (f x) vx → LsR (Rep W S) (f y) vy → Calls P g #[.agg vx.toArray, .agg vy.toArray] W fun e w' => e = .returned (.int .i64 (cf x y)) ∧ ∃ q os', w' = grow (W.drewN q) os')
    (hTg : T.g = g) {C : List Tmp} (hC : T.cf (ρ.f 6) = some C) (hC1 : ∀ x ∈ C, x = 1 ∨ 2 ≤ x) {xs ys : List α} (hn : xs.length ≤ 1000000000000000000) (hys : ∀ zs : List α, zs.Perm xs → zs.Pairwise (fun a b => Go.Proofs.ltOf cf b a = false) → zs = ys) :
    CallsB P (ρ.f 6) [.arr e sz 0 (xs.flatMap f)] [.one (.ls 0 xs.length), .one (.raw (.func (.func g) #[] #[]))] (fun y m' => y = .tup [] ∧ m' = [.arr e sz 0 (ys.flatMap f)]) := by
  intro w S H vs hin mem hvs
  refine callsK_of_lone T LT hC (fun x hx => ?_) (fun tt => ?_) ?_
  · obtain ⟨hvl, hvr⟩ := hvs
    obtain ⟨v0, v1, rfl⟩ : ∃ v0 v1, vs = #[v0, v1] := by
      obtain ⟨l⟩ := vs
      match l, hvl with
      | [a, b], _ => exact ⟨a, b, rfl⟩
    have hv1 : v1 = .func (.func g) #[] #[] := rep_raw (hvr 1 _ v1 rfl rfl)
    rcases hC1 x hx with rfl | h2
    · left
      rw [cmpv, hTg]
      exact hv1
    · right
      show #[v0, v1].getD x undef = undef
      simp only [Array.getD_eq_getD_getElem?]
      rw [Array.getElem?_eq_none (by simpa using h2)]
      rfl
  · refine (sort_lone L cf hf hsz aE zE hO eg hg hn hys (World.ta w tt 0) S H vs (inH_ta hin tt 0) (mem_ta mem tt 0) ⟨hvs.1, fun j x v h1 h2 => SVR.mono (fun l v => gRep_ta tt 0) (hvs.2 j x v h1 h2)⟩).mono ?_
    rintro e' w' ⟨v, x, m', S', H', h1, ⟨h2, rfl⟩, h3, h4, h5, h6, h7, h8⟩ d
    exact ⟨v, x, _, S', H', h1, ⟨h2, rfl⟩, ⟨h3.os, rfl, h3.output, h3.size, h3.blk, h3.sub, h3.stab, h3.back⟩, inH_ta h4 _ _, mem_ta h5 _ _, h6, h7, AVR.mono (fun l v => gRep_ta _ _) h8⟩
  · rintro e' w' ⟨v, _, _, _, _, h1, _⟩
    exact ⟨v, h1⟩
end Go.Proofs.Ytnphcnhejgpjgaa.Abs
end
section
namespace Go.Proofs
open Go.Shelf Go.RowKit Go.Lib Go.Sort

theorem isNaN45 (x : Int) (w : World) : Calls Try.prog 45 #[.int .i64 x] w fun e w' => e = .returned (.bool false) ∧ w' = w := by
  go_enter Try.func45, Try.ntmps45
  go_wp2
  go_ret
  exact ⟨by simp, rfl⟩

set_option maxHeartbeats 1000000 in
theorem compare34 (x y : Int) (w : World) : Calls Try.prog 34 #[.int .i64 x, .int .i64 y] w fun e w' => e = .returned (.int .i64 (Lib.compareInt x y)) ∧ w' = w := by
  go_enter Try.func34, Try.ntmps34
  go_wp2_with (go_at_call 45; refine (isNaN45 _ _).mono ?_; rintro e w' ⟨rfl, hw⟩; rw [hw])
  all_goals (go_ret; refine ⟨?_, rfl⟩; unfold Lib.compareInt; (repeat' split) <;> first | rfl | (exfalso; omega))

set_option maxHeartbeats 1000000 in
theorem byID28 (x1 x2 y1 y2 : Int) (W : World) : Calls Try.prog 28 #[.agg #[.int .i64 x1, .int .i64 x2], .agg #[.int .i64 y1, .int .i64 y2]] W fun e w' => e = .returned (.int .i64 (Lib.compareInt x1 y1)) ∧ ∃ q os', w' = grow (W.drewN q) os' := by
  have hcon := fun W' => compare34 x1 y1 W'
  generalize Lib.compareInt x1 y1 = r at hcon ⊢
  go_enter Try.func28, Try.ntmps28
  go_wp2_with (go_at_call 34; refine (hcon _).mono ?_; rintro e w' ⟨rfl, rfl⟩)
  go_ret
  exact ⟨rfl, 0, _, by rw [alloc_eq_grow, alloc_eq_grow, grow_grow]; rfl⟩

def cmpAt (x1 x2 y1 y2 : Int) : Int := if x2 ≠ y2 then Lib.compareInt x2 y2 else Lib.compareInt x1 y1
theorem cmpAt_ne {x1 x2 y1 y2 : Int} (h : (x2 != y2) = true) : cmpAt x1 x2 y1 y2 = Lib.compareInt x2 y2 := if_pos (by simpa using h)
theorem cmpAt_eq {x1 x2 y1 y2 : Int} (h : (x2 != y2) = false) : cmpAt x1 x2 y1 y2 = Lib.compareInt x1 y1 := if_neg (by simpa using h)
set_option maxHeartbeats 2000000 in
theorem byAt31 (x1 x2 y1 y2 : Int) (W : World) : Calls Try.prog 31 #[.agg #[.int .i64 x1, .int .i64 x2], .agg #[.int .i64 y1, .int .i64 y2]] W fun e w' => e = .returned (.int .i64 (cmpAt x1 x2 y1 y2)) ∧ ∃ q os', w' = grow (W.drewN q) os' := by
  have hcon := fun W' => compare34 x2 y2 W'
  have hid := fun W' => byID28 x1 x2 y1 y2 W'
  have hne := @cmpAt_ne x1 x2 y1 y2
  have heq := @cmpAt_eq x1 x2 y1 y2
  generalize cmpAt x1 x2 y1 y2 = z at hne heq ⊢
  generalize Lib.compareInt x1 y1 = r at hid heq
  generalize Lib.compareInt x2 y2 = s at hcon hne
  go_enter Try.func31, Try.ntmps31
  go_wp2_with (first | (go_at_call 34; refine (hcon _).mono ?_; rintro e w' ⟨rfl, rfl⟩) | (go_at_call 28; refine (hid _).mono ?_; rintro e w' ⟨rfl, q, os', rfl⟩))
  · have h : (x2 != y2) = true := by assumption
    obtain rfl := hne h
    go_ret
    exact ⟨rfl, 0, _, by rw [alloc_eq_grow, alloc_eq_grow, grow_grow]; rfl⟩
  · have h : (x2 != y2) = false := by assumption
    obtain rfl := heq h
    go_ret
    exact ⟨rfl, q, _, by rw [alloc_eq_grow, alloc_eq_grow, grow_grow]; show grow (grow (W.drewN q) _) os' = _; rw [grow_grow]⟩
end Go.Proofs
end
section
namespace Go.Proofs.Ytnphcnhejgpjgaa.Abs
open Go.Proofs.Ytnphcnhejgpjgaa.Co
open Go.RowKit Go.Shelf Go.Sort Go.Proofs
def srt27_ren : Go.Shelf.Ren := ⟨fun | 6 => 27 | 15 => 33 | 14 => 32 | 28 => 43 | 29 => 44 | 20 => 35 | 21 => 36 | 22 => 37 | 23 => 38 | 24 => 39 | 25 => 40 | 26 => 41 | 27 => 42 | 46 => 46 | 47 => 47 | 48 => 48 | 49 => 49 | 50 => 50 | 57 => 51 | n => n, fun | 22 => 26 | 24 => 61 | 25 => 64 | 3 => 3 | 39 => 72 | 0 => 0 | 53 => 83 | 55 => 85 | 4 => 4 | 46 => 77 | 45 => 76 | 50 => 43 | 5 => 5 | 9 => 9 | 66 => 87 | 70 => 91 | 76 => 93 | 77 => 94 | n => n, fun | n => n⟩
theorem srt27 : Go.Proofs.SlLaysF0.n6 Try.prog srt27_ren := {
  mixed := by kernel_rfl,
  f6 :=⟨ "slices.SortFunc[[]godwit/timers.Timer,godwit/timers.Timer]", by decide, Try.func27.trans (congrArg some (by kernel_rfl))⟩,
  f14 :=⟨ "slices.pdqsortCmpFunc[godwit/timers.Timer]", by decide, Try.func32.trans (congrArg some (by kernel_rfl))⟩,
  f15 := Try.func33.trans (congrArg some (by kernel_rfl)),
  f20 :=⟨ "slices.insertionSortCmpFunc[godwit/timers.Timer]", by decide, Try.func35.trans (congrArg some (by kernel_rfl))⟩,
  f21 :=⟨ "slices.heapSortCmpFunc[godwit/timers.Timer]", by decide, Try.func36.trans (congrArg some (by kernel_rfl))⟩,
  f22 :=⟨ "slices.breakPatternsCmpFunc[godwit/timers.Timer]", by decide, Try.func37.trans (congrArg some (by kernel_rfl))⟩,
  f23 :=⟨ "slices.choosePivotCmpFunc[godwit/timers.Timer]", by decide, Try.func38.trans (congrArg some (by kernel_rfl))⟩,
  f24 :=⟨ "slices.reverseRangeCmpFunc[godwit/timers.Timer]", by decide, Try.func39.trans (congrArg some (by kernel_rfl))⟩,
  f25 :=⟨ "slices.partialInsertionSortCmpFunc[godwit/timers.Timer]", by decide, Try.func40.trans (congrArg some (by kernel_rfl))⟩,
  f26 :=⟨ "slices.partitionEqualCmpFunc[godwit/timers.Timer]", by decide, Try.func41.trans (congrArg some (by kernel_rfl))⟩,
  f27 :=⟨ "slices.partitionCmpFunc[godwit/timers.Timer]", by decide, Try.func42.trans (congrArg some (by kernel_rfl))⟩,
  f28 := Try.func43.trans (congrArg some (by kernel_rfl)),
  f29 := Try.func44.trans (congrArg some (by kernel_rfl)),
  f46 :=⟨ "slices.siftDownCmpFunc[godwit/timers.Timer]", by decide, Try.func46.trans (congrArg some (by kernel_rfl))⟩,
  f47 := Try.func47.trans (congrArg some (by kernel_rfl)),
  f48 := Try.func48.trans (congrArg some (by kernel_rfl)),
  f49 :=⟨ "slices.medianAdjacentCmpFunc[godwit/timers.Timer]", by decide, Try.func49.trans (congrArg some (by kernel_rfl))⟩,
  f50 :=⟨ "slices.medianCmpFunc[godwit/timers.Timer]", by decide, Try.func50.trans (congrArg some (by kernel_rfl))⟩,
  f57 :=⟨ "slices.order2CmpFunc[godwit/timers.Timer]", by decide, Try.func51.trans (congrArg some (by kernel_rfl))⟩,
  t0 := Try.underlying0,
  a0 := Try.isAgg0,
  z0 := Try.sizeOf0,
  v0 := Try.zeroValue0,
  t3 := Try.underlying3,
  a3 := Try.isAgg3,
  z3 := Try.sizeOf3,
  v3 := Try.zeroValue3,
  t4 := Try.underlying4,
  a4 := Try.isAgg4,
  z4 := Try.sizeOf4,
  v4 := Try.zeroValue4,
  t5 := Try.underlying5,
  a5 := Try.isAgg5,
  z5 := Try.sizeOf5,
  v5 := Try.zeroValue5,
  t9 := Try.underlying9,
  a9 := Try.isAgg9,
  z9 := Try.sizeOf9,
  v9 := Try.zeroValue9,
  t22 := Try.underlying26,
  a22 := Try.isAgg26,
  z22 := Try.sizeOf26,
  v22 := Try.zeroValue26,
  t25 := Try.underlying64,
  a25 := Try.isAgg64,
  z25 := Try.sizeOf64,
  v25 := Try.zeroValue64,
  t39 := Try.underlying72,
  a39 := Try.isAgg72,
  z39 := Try.sizeOf72,
  v39 := Try.zeroValue72,
  t45 := Try.underlying76,
  a45 := Try.isAgg76,
  z45 := Try.sizeOf76,
  v45 := Try.zeroValue76,
  t46 := Try.underlying77,
  a46 := Try.isAgg77,
  z46 := Try.sizeOf77,
  v46 := Try.zeroValue77,
  t50 := Try.underlying43,
  a50 := Try.isAgg43,
  z50 := Try.sizeOf43,
  v50 := Try.zeroValue43,
  t53 := Try.underlying83,
  a53 := Try.isAgg83,
  z53 := Try.sizeOf83,
  v53 := Try.zeroValue83,
  t55 := Try.underlying85,
  a55 := Try.isAgg85,
  z55 := Try.sizeOf85,
  v55 := Try.zeroValue85,
  t66 := Try.underlying87,
  a66 := Try.isAgg87,
  z66 := Try.sizeOf87,
  v66 := Try.zeroValue87,
  t70 := Try.underlying91,
  a70 := Try.isAgg91,
  z70 := Try.sizeOf91,
  v70 := Try.zeroValue91,
  t76 := Try.underlying93,
  a76 := Try.isAgg93,
  z76 := Try.sizeOf93,
  v76 := Try.zeroValue93,
  t77 := Try.underlying94,
  a77 := Try.isAgg94,
  z77 := Try.sizeOf94,
  v77 := Try.zeroValue94 }

def cf13 : FuncId → Option (List Tmp)
  | 27 => some [1, 12]
  | 28 => some []
  | 31 => some []
  | 32 => some [4, 29, 36, 43, 51, 60, 79, 84, 102, 110, 133, 145]
  | 33 => some []
  | 34 => some []
  | 35 => some [3, 22]
  | 36 => some [3, 28, 58]
  | 37 => some [3]
  | 38 => some [3, 39, 43, 47, 53]
  | 39 => some [3]
  | 40 => some [3, 23, 72, 112]
  | 41 => some [4, 35, 54]
  | 42 => some [4, 36, 54, 109, 127]
  | 43 => some []
  | 44 => some []
  | 45 => some []
  | 46 => some [4, 24, 43]
  | 47 => some []
  | 48 => some []
  | 49 => some [3, 16]
  | 50 => some [5, 18, 27, 36]
  | 51 => some [4, 12]
  | _ => none
def laid (T : Tk) (f : FuncId) (C : List Tmp) (fn : Func) : Bool := match fn.body with
  | some c => okcT T C c && !(fn.name == "runtime.NumGoroutine") && fn.results.all fun r => match r with | .tmp _ => true | _ => false
  | none => false
theorem laid_of {T : Tk} {f : FuncId} {C C' : List Tmp} {fn : Func} (e : some C = some C') (hf : Try.prog.funcs[f]? = some fn) (h : laid T f C fn = true) :
    ∃ fn c, Try.prog.funcs[f]? = some fn ∧ fn.body = some c ∧ okcT T C' c = true ∧ (fn.name == "runtime.NumGoroutine") = false ∧ (fn.results.all fun r => match r with | .tmp _ => true | _ => false) = true := by
  cases e
  unfold laid at h
  split at h
  · rename_i c hc
    simp only [Bool.and_eq_true, Bool.not_eq_true'] at h
    exact ⟨fn, c, hf, hc, h.1.1, h.1.2, h.2⟩
  · cases h
theorem never13 (g : Nat) : Try.prog.stepOf g = none := by
  have h : (Try.prog.funcs.all fun f => ((f.body.map readies).getD []).isEmpty) = true := by kernel_rfl
  unfold Program.stepOf
  rw [Array.findIdx?_eq_none_iff]
  intro f hf
  rw [Array.all_eq_true_iff_forall_mem] at h
  have := h f hf
  cases hb : f.body with
  | none => rfl
  | some c =>
    rw [hb] at this
    have e : readies c = [] := by simpa using this
    simp [e]
theorem fns13 (g : FuncId) : ∀ f C, cf13 f = some C → ∃ fn c, Try.prog.funcs[f]? = some fn ∧ fn.body = some c ∧ okcT ⟨cf13, g⟩ C c = true ∧ (fn.name == "runtime.NumGoroutine") = false ∧ (fn.results.all fun r => match r with | .tmp _ => true | _ => false) = true := by
  intro f C h
  match f, h with
  | 27, h => exact laid_of h Try.func27 (by kernel_rfl)
  | 28, h => exact laid_of h Try.func28 (by kernel_rfl)
  | 31, h => exact laid_of h Try.func31 (by kernel_rfl)
  | 32, h => exact laid_of h Try.func32 (by kernel_rfl)
  | 33, h => exact laid_of h Try.func33 (by kernel_rfl)
  | 34, h => exact laid_of h Try.func34 (by kernel_rfl)
  | 35, h => exact laid_of h Try.func35 (by kernel_rfl)
  | 36, h => exact laid_of h Try.func36 (by kernel_rfl)
  | 37, h => exact laid_of h Try.func37 (by kernel_rfl)
  | 38, h => exact laid_of h Try.func38 (by kernel_rfl)
  | 39, h => exact laid_of h Try.func39 (by kernel_rfl)
  | 40, h => exact laid_of h Try.func40 (by kernel_rfl)
  | 41, h => exact laid_of h Try.func41 (by kernel_rfl)
  | 42, h => exact laid_of h Try.func42 (by kernel_rfl)
  | 43, h => exact laid_of h Try.func43 (by kernel_rfl)
  | 44, h => exact laid_of h Try.func44 (by kernel_rfl)
  | 45, h => exact laid_of h Try.func45 (by kernel_rfl)
  | 46, h => exact laid_of h Try.func46 (by kernel_rfl)
  | 47, h => exact laid_of h Try.func47 (by kernel_rfl)
  | 48, h => exact laid_of h Try.func48 (by kernel_rfl)
  | 49, h => exact laid_of h Try.func49 (by kernel_rfl)
  | 50, h => exact laid_of h Try.func50 (by kernel_rfl)
  | 51, h => exact laid_of h Try.func51 (by kernel_rfl)
theorem lay28 : Lay Try.prog ⟨cf13, 28⟩ := ⟨fns13 28, rfl, by kernel_rfl, never13⟩
theorem lay31 : Lay Try.prog ⟨cf13, 31⟩ := ⟨fns13 31, rfl, by kernel_rfl, never13⟩
end Go.Proofs.Ytnphcnhejgpjgaa.Abs
end
section
namespace Go.Proofs.Ytnphcnhejgpjgaa.Abs
open Go.Proofs.Ytnphcnhejgpjgaa.Co
variable [Env] [AtEnv]
open Go.RowKit Go.Shelf Go.Sort Go.Proofs

omit [Env] [AtEnv] in
theorem cmp_lt (x y : Int) : decide (Lib.compareInt x y < 0) = decide (x < y) := by
  unfold Lib.compareInt
  by_cases h1 : x < y
  · simp [h1]
  · by_cases h2 : y < x <;> simp [h1, h2]
omit [Env] [AtEnv] in
theorem two_of {α : Type} {f : α → List Lf} {p q : α → Int} (hf : ∀ x, f x = [.i .i64 (p x), .i .i64 (q x)]) {W : World} {S : Stab} {x : α} {vx : List Value} (h : LsR (Rep W S) (f x) vx) : vx = [.int .i64 (p x), .int .i64 (q x)] := by
  rw [hf] at h
  match vx, h with
  | [a, b], h =>
    have h0 := h.2 0 _ _ rfl rfl
    have h1 := h.2 1 _ _ rfl rfl
    cases h0
    cases h1
    rfl
theorem sort28_K {α : Type} {f : α → List Lf} {p q : α → Int} (hf : ∀ x, f x = [.i .i64 (p x), .i .i64 (q x)]) {xs ys : List α} (hn : xs.length ≤ 1000000000000000000) (hys : ∀ zs : List α, zs.Perm xs → zs.Pairwise (fun a b => p a ≤ p b) → zs = ys) :
    CallsB Try.prog 27 [.arr 61 2 0 (xs.flatMap f)] [.one (.ls 0 xs.length), .one (.raw (.func (.func 28) #[] #[]))] (fun y m' => y = .tup [] ∧ m' = [.arr 61 2 0 (ys.flatMap f)]) := by
  have lt : ∀ x y : α, ltOf (fun x y => Lib.compareInt (p x) (p y)) x y = decide (p x < p y) := fun x y => cmp_lt _ _
  exact sort_K (T := ⟨cf13, 28⟩) lay28 (ρ := srt27_ren) srt27 (fun x y => Lib.compareInt (p x) (p y)) (fun x => by rw [hf]; rfl) (by decide) Try.isAgg61 Try.sizeOf61
    ⟨fun x => by rw [lt]; simp, fun x y z h1 h2 => by rw [lt] at *; simp at *; omega, fun x y z h1 h2 => by rw [lt] at *; simp at *; omega⟩
    (enters_of Try.func28 (by kernel_rfl) rfl)
    (fun W S x y vx vy _ hx hy => by rw [two_of hf hx, two_of hf hy]; exact byID28 _ _ _ _ W) rfl (C := [1, 12]) rfl (by decide) hn
    fun zs hz hp => hys zs hz (hp.imp fun {a b} h => by rw [lt] at h; simpa using h)
theorem sort31_K {α : Type} {f : α → List Lf} {p q : α → Int} (hf : ∀ x, f x = [.i .i64 (p x), .i .i64 (q x)]) {xs ys : List α} (hn : xs.length ≤ 1000000000000000000) (hys : ∀ zs : List α, zs.Perm xs → zs.Pairwise (fun a b => q a < q b ∨ q a = q b ∧ p a ≤ p b) → zs = ys) :
    CallsB Try.prog 27 [.arr 61 2 0 (xs.flatMap f)] [.one (.ls 0 xs.length), .one (.raw (.func (.func 31) #[] #[]))] (fun y m' => y = .tup [] ∧ m' = [.arr 61 2 0 (ys.flatMap f)]) := by
  have lt : ∀ x y : α, ltOf (fun x y => cmpAt (p x) (q x) (p y) (q y)) x y = decide (q x < q y ∨ q x = q y ∧ p x < p y) := fun x y => by
    show decide (cmpAt (p x) (q x) (p y) (q y) < 0) = _
    unfold cmpAt
    split
    · rename_i h
      rw [cmp_lt]
      exact decide_eq_decide.2 ⟨.inl, fun h' => h'.elim id fun e => absurd e.1 h⟩
    · rename_i h
      have h : q x = q y := by simpa using h
      rw [cmp_lt]
      exact decide_eq_decide.2 ⟨fun h' => .inr ⟨h, h'⟩, fun h' => h'.elim (fun e => by omega) And.right⟩
  exact sort_K (T := ⟨cf13, 31⟩) lay31 (ρ := srt27_ren) srt27 (fun x y => cmpAt (p x) (q x) (p y) (q y)) (fun x => by rw [hf]; rfl) (by decide) Try.isAgg61 Try.sizeOf61
    ⟨fun x => by rw [lt]; simp, fun x y z h1 h2 => by rw [lt] at *; simp at *; omega, fun x y z h1 h2 => by rw [lt] at *; simp at *; omega⟩
    (enters_of Try.func31 (by kernel_rfl) rfl)
    (fun W S x y vx vy _ hx hy => by rw [two_of hf hx, two_of hf hy]; exact byAt31 _ _ _ _ W) rfl (C := [1, 12]) rfl (by decide) hn
    fun zs hz hp => hys zs hz (hp.imp fun {a b} h => by rw [lt] at h; simp at h; omega)
end Go.Proofs.Ytnphcnhejgpjgaa.Abs
end
