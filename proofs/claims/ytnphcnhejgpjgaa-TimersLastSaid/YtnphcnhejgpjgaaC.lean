/-
  What stands beneath the four laws of the timers, part C.
-/
import Derived.Test.YtnphcnhejgpjgaaB
import Derived.ProofKit
import Derived.Laws.Externs
import Derived.Lib.BytesEntry
import GoSem.Core.View
import Derived.Lib.AppendZeros
import Derived.Laws.Cover3
import Derived.Laws.StructEq
import Derived.LaidMore
import Derived.OpenShut
import Derived.MakeChecks
import Derived.RangeFuncOwn
import Derived.OrdersIn
import Derived.WalkKit
import Derived.Lib.Walk
import Derived.Lib.SliceRun
import Derived.Lib.JoinLaws
import Derived.Lib.AppendZerosOnto
import Derived.Lib.Overlaps
import Derived.Laws.IdiomCopy
import Derived.Laws.NewBlocks
import Derived.Shelf.RegionOpenPlain
import Derived.Shelf.Spec.SlicesInsert
import Derived.Lib.ConvBytes
import Derived.Maps.Range
import Derived.Shelf.SlSortCmp.WholeK
import Derived.Shelf.SlSortCmp.NoneTotal
import Derived.Shelf.SortM.Plain
import Derived.Shelf.SortM.SortNone
import Derived.Shelf.SlicesE.Compact
import Derived.Conc.LoneSelect
set_option linter.unusedVariables false
set_option linter.unusedSimpArgs false
section
namespace Go.Proofs.Ytnphcnhejgpjgaa.Abs
open Go.Proofs.Ytnphcnhejgpjgaa.Co
variable [Env]
open Go.RowKit
inductive Sh where
  | int (k : IntKind)
  | bool
  | str
  | sl (e : Sh)
  | st (r : Sh)
  | unit
  | pair (a r : Sh)
def Sh.cells : Sh → Nat
  | .st r => r.cells
  | .unit => 0
  | .pair a r => a.cells + r.cells
  | _ => 1
def Fits : Sh → List Lf → Prop
  | .int k, ls => ∃ n, (Lit.int k n).wf = true ∧ ls = [.i k n]
  | .bool, ls => ∃ b, ls = [.b b]
  | .str, ls => ∃ s : ByteArray, s.size ≤ maxLen ∧ ls = [.s s]
  | .sl e, ls => ∃ rows : List (List Lf), rows.length ≤ maxLen ∧ (∀ r ∈ rows, Fits e r) ∧ ls = [.sl rows.length rows.flatten]
  | .st r, ls => Fits r ls
  | .unit, ls => ls = []
  | .pair a r, ls => ∃ x y, Fits a x ∧ Fits r y ∧ ls = x ++ y
def okT (P : Program) : Sh → TypeId ⊕ (List Field × Nat) → Bool
  | .int k, .inl t => match P.underlying t with | some (.int k') => k' == k | _ => false
  | .bool, .inl t => match P.underlying t with | some .bool => true | _ => false
  | .str, .inl t => match P.underlying t with | some .string => true | _ => false
  | .sl e, .inl t => match P.underlying t with | some (.slice t') => okT P e (.inl t') && (P.cellsOf t' == e.cells && decide (0 < e.cells)) | _ => false
  | .st r, .inl t => match P.underlying t with | some (.struct fs) => okT P r (.inr (fs.toList, 0)) && P.cellsOf t == r.cells | _ => false
  | .unit, .inr ([], _) => true
  | .pair a r, .inr (f :: fs, off) => f.offset == off && (P.cellsOf f.type == a.cells && (okT P a (.inl f.type) && okT P r (.inr (fs, off + a.cells))))
  | _, _ => false
omit [Env] in
theorem mapM_range {α : Type} {f : Nat → Option α} : ∀ {n : Nat} {ys : List α}, (List.range n).mapM f = some ys → ys.length = n ∧ ∀ i, i < n → f i = ys[i]? := by
  intro n
  induction n with
  | zero => intro ys h; simp at h; subst h; exact ⟨rfl, fun i hi => absurd hi (Nat.not_lt_zero i)⟩
  | succ n ih =>
    intro ys h
    rw [List.range_succ, List.mapM_append] at h
    simp only [List.mapM_cons, List.mapM_nil, Option.pure_def, Option.bind_eq_bind] at h
    cases h1 : (List.range n).mapM f with
    | none => rw [h1] at h; simp at h
    | some xs =>
      rw [h1] at h
      cases h2 : f n with
      | none => rw [h2] at h; simp at h
      | some y =>
        rw [h2] at h
        simp at h
        subst h
        obtain ⟨hl, hi⟩ := ih h1
        refine ⟨by simp [hl], fun i hlt => ?_⟩
        by_cases hin : i < n
        · rw [hi i hin, List.getElem?_append_left (by omega)]
        · have : i = n := by omega
          subst this
          rw [h2, List.getElem?_append_right (by omega), hl]; simp
omit [Env] in
theorem cell_lt {w : World} {a : Addr} {v : Value} (h : w.cell? a = some v) : a.block < w.heap.size ∧ a.spot = none := by
  unfold World.cell? at h
  split at h
  · rename_i c e f hb
    refine ⟨(Array.getElem?_eq_some_iff.1 hb).1, ?_⟩
    cases hs : a.spot with
    | none => rfl
    | some x => rw [hs] at h; simp at h
  · cases h
def allS (w : World) : Stab := fun b i => ∃ v, w.cell? ⟨b, i, none⟩ = some v
omit [Env] in
theorem allS_in (w : World) (h : GLR w (allS w)) : InH w (allS w) := ⟨fun _ _ ⟨_, h⟩ => (cell_lt h).1, h, fun g i ⟨v, h⟩ hc => by rw [h] at hc; cases hc⟩
section
variable {H : Type} {enc : TypeId × Value → H} {P : Program} [Nice P] {w : World} {spare : Nat → Bool} {held : Bool} {base : Nat}
omit [Env] in
theorem cells_get {a : Addr} {n : Nat} {ys : List Value} (h : w.cells? base a n = some ys) : ys.length = n ∧ ∀ i, i < n → w.cell? (a.add i) = ys[i]? := by
  unfold World.cells? at h
  split at h
  · exact mapM_range h
  · cases h
omit [Env] in
theorem rows_built {bk off sz : Nat} {Q : List Lf → Prop} : ∀ (n : Nat), (∀ i, i < n → ∃ r : List Lf, Q r ∧ r.length = sz ∧ ∀ j l, r[j]? = some l → ∃ v, w.cell? ⟨bk, off + (i * sz + j), none⟩ = some v ∧ Rep w (allS w) l v) →
    ∃ rows : List (List Lf), rows.length = n ∧ (∀ r ∈ rows, Q r) ∧ rows.flatten.length = n * sz ∧ ∀ j l, rows.flatten[j]? = some l → ∃ v, w.cell? ⟨bk, off + j, none⟩ = some v ∧ Rep w (allS w) l v
  | 0, _ => ⟨[], rfl, fun r h => by simp at h, by simp, fun j l h => by simp at h⟩
  | n + 1, h => by
    obtain ⟨rows, h1, h2, h3, h4⟩ := rows_built n (fun i hi => h i (Nat.lt_succ_of_lt hi))
    obtain ⟨r, q1, q2, q3⟩ := h n (Nat.lt_succ_self n)
    refine ⟨rows ++ [r], by simp [h1], fun x hx => ?_, ?_, fun j l hj => ?_⟩
    · rcases List.mem_append.1 hx with hx | hx
      · exact h2 x hx
      · simp at hx; subst hx; exact q1
    · rw [List.flatten_append, List.length_append, h3]; simp [q2, Nat.succ_mul]
    · rw [List.flatten_append] at hj
      by_cases hlt : j < n * sz
      · rw [List.getElem?_append_left (by omega)] at hj
        exact h4 j l hj
      · rw [List.getElem?_append_right (by omega), h3] at hj
        simp at hj
        obtain ⟨v, e1, e2⟩ := q3 (j - n * sz) l hj
        exact ⟨v, by rw [← e1]; congr 2; omega, e2⟩
omit [Nice P] in
omit [Env] in
theorem opened (sh : Sh) :
    (∀ (t : TypeId) (fuel : Nat) (cs : List Value) (x : DataW H × List MemPlace), okT P sh (.inl t) = true → DataW.trod enc P w base spare held fuel t cs = some x →
      ∃ ls, Fits sh ls ∧ ls.length = sh.cells ∧ LsR (Rep w (allS w)) ls cs) ∧
    (∀ (fs : List Field) (off fuel : Nat) (cs : List Value), okT P sh (.inr (fs, off)) = true → off + sh.cells = cs.length →
      (∀ f ∈ fs, ∃ x, DataW.trod enc P w base spare held fuel f.type ((cs.drop f.offset).take (P.cellsOf f.type)) = some x) →
      ∃ ls, Fits sh ls ∧ ls.length = sh.cells ∧ LsR (Rep w (allS w)) ls (cs.drop off)) := by
  have lsone : ∀ {l : Lf} {v : Value}, Rep w (allS w) l v → LsR (Rep w (allS w)) [l] [v] := fun {l v} h => ⟨rfl, fun j a b h1 h2 => by
    cases j with
    | zero => simp at h1 h2; subst h1; subst h2; exact h
    | succ j => simp at h1⟩
  induction sh with
  | int k =>
    refine ⟨fun t fuel cs x ht h => ?_, fun fs off fuel cs ht => by simp [okT] at ht⟩
    simp only [okT] at ht
    split at ht
    · rename_i k' hu
      have hk : k' = k := by simpa using ht
      subst hk
      obtain ⟨n, hcs, hx, hw⟩ := DataW.trod_int hu h
      subst hcs
      exact ⟨_, ⟨n, hw, rfl⟩, rfl, lsone (.i _ _)⟩
    · cases ht
  | bool =>
    refine ⟨fun t fuel cs x ht h => ?_, fun fs off fuel cs ht => by simp [okT] at ht⟩
    simp only [okT] at ht
    split at ht
    · rename_i hu
      obtain ⟨b, hcs, _⟩ := DataW.trod_bool hu h
      subst hcs
      exact ⟨_, ⟨b, rfl⟩, rfl, lsone (.b _)⟩
    · cases ht
  | str =>
    refine ⟨fun t fuel cs x ht h => ?_, fun fs off fuel cs ht => by simp [okT] at ht⟩
    simp only [okT] at ht
    split at ht
    · rename_i hu
      obtain ⟨b, hcs, _, hs⟩ := DataW.trod_string hu h
      subst hcs
      exact ⟨_, ⟨b, hs, rfl⟩, rfl, lsone (.s _)⟩
    · cases ht
  | sl e ih =>
    refine ⟨fun t fuel cs x ht h => ?_, fun fs off fuel cs ht => by simp [okT] at ht⟩
    simp only [okT] at ht
    split at ht
    · rename_i t' hu
      simp only [Bool.and_eq_true, beq_iff_eq, decide_eq_true_eq] at ht
      obtain ⟨hok, hcell, hpos⟩ := ht
      rcases DataW.trod_slice hu h with ⟨hcs, _⟩ | ⟨a, len, cap, elems, rest, fuel, rfl, hcs, _, _, hlc, hcm, hl, hi, _⟩
      · subst hcs
        exact ⟨[.sl 0 []], ⟨[], by simp, fun r hr => by simp at hr, rfl⟩, rfl, lsone (.sl0 _ _)⟩
      · subst hcs
        by_cases h0 : len = 0
        · subst h0
          exact ⟨[.sl 0 []], ⟨[], by simp, fun r hr => by simp at hr, rfl⟩, rfl, lsone (.sl0 _ _)⟩
        · have helem : ∀ i, i < len → ∃ ys, w.cells? base (a.add (i * P.cellsOf t')) (P.cellsOf t') = some ys ∧ ∃ x, DataW.trod enc P w base spare held fuel t' ys = some x := by
            intro i hlt
            have hx := hi i hlt
            have : elems[i]? = some (elems[i]'(by omega)) := List.getElem?_eq_getElem _
            rw [this] at hx
            cases hc : w.cells? base (a.add (i * P.cellsOf t')) (P.cellsOf t') with
            | none => rw [hc] at hx; simp at hx
            | some ys => rw [hc] at hx; exact ⟨ys, rfl, _, hx⟩
          have hspot : a.spot = none := by
            obtain ⟨ys, hc, _⟩ := helem 0 (by omega)
            obtain ⟨hyl, hyc⟩ := cells_get hc
            have hy := hyc 0 (by omega)
            rw [List.getElem?_eq_getElem (by omega)] at hy
            have := (cell_lt hy).2
            simpa [Addr.add] using this
          have hadd : ∀ n m, (a.add n).add m = ⟨a.block, a.off + (n + m), none⟩ := by
            intro n m
            obtain ⟨ab, ao, asp⟩ := a
            simp only at hspot
            subst hspot
            unfold Addr.add
            by_cases hn : n = 0 <;> by_cases hm : m = 0 <;> simp [hn, hm] <;> omega
          obtain ⟨rows, r1, r2, r3, r4⟩ := rows_built (w := w) (bk := a.block) (off := a.off) (sz := e.cells) (Q := Fits e) len (fun i hlt => by
            obtain ⟨ys, hc, x, hx⟩ := helem i hlt
            obtain ⟨ls, f1, f2, f3⟩ := ih.1 t' fuel ys x hok hx
            obtain ⟨hyl, hyc⟩ := cells_get hc
            refine ⟨ls, f1, f2, fun j l hj => ?_⟩
            obtain ⟨v, hv, hr⟩ := f3.get hj
            have hjl : j < ys.length := (List.getElem?_eq_some_iff.1 hv).1
            have := hyc j (by omega)
            rw [hadd, hv, hcell] at this
            exact ⟨v, this, hr⟩)
          refine ⟨[.sl rows.length rows.flatten], ⟨rows, by omega, r2, rfl⟩, rfl, lsone ?_⟩
          have ea : a = ⟨a.block, a.off, none⟩ := by
            obtain ⟨ab, ao, asp⟩ := a
            simp only at hspot
            subst hspot
            rfl
          rw [ea, r1]
          refine Rep.sl len rows.flatten a.block a.off cap (fun j => (w.cell? ⟨a.block, a.off + j, none⟩).getD undef) hlc hcm (fun j l hj => ?_) (fun j l hj => ?_)
          · obtain ⟨v, hv, _⟩ := r4 j l hj
            exact ⟨⟨_, hv⟩, by rw [hv]; rfl⟩
          · obtain ⟨v, hv, hr⟩ := r4 j l hj
            show Rep w (allS w) l ((w.cell? ⟨a.block, a.off + j, none⟩).getD undef)
            rw [hv]; exact hr
    · cases ht
  | st r ih =>
    refine ⟨fun t fuel cs x ht h => ?_, fun fs off fuel cs ht => by simp [okT] at ht⟩
    simp only [okT] at ht
    split at ht
    · rename_i fs hu
      simp only [Bool.and_eq_true, beq_iff_eq] at ht
      obtain ⟨xs, n, rfl, _, hlen, hxl, hi⟩ := DataW.trod_struct hu h
      obtain ⟨ls, f1, f2, f3⟩ := ih.2 fs.toList 0 n cs ht.1 (by omega) (fun f hf => by
        obtain ⟨i, hlt, rfl⟩ := List.mem_iff_getElem.1 hf
        have := hi i fs[i] (by simp)
        simp only [Array.getElem_toList] at this ⊢
        rw [this]
        exact ⟨xs[i]'(by simp at hlt; omega), List.getElem?_eq_getElem _⟩)
      exact ⟨ls, f1, f2, by simpa using f3⟩
    · cases ht
  | unit =>
    refine ⟨fun t fuel cs x ht => by simp [okT] at ht, fun fs off fuel cs ht hl h => ?_⟩
    refine ⟨[], rfl, rfl, ?_⟩
    rw [List.drop_of_length_le (by simp only [Sh.cells] at hl; omega)]
    exact ⟨rfl, fun j l v h1 => by simp at h1⟩
  | pair a r iha ihr =>
    refine ⟨fun t fuel cs x ht => by simp [okT] at ht, fun fs off fuel cs ht hl h => ?_⟩
    cases fs with
    | nil => simp [okT] at ht
    | cons f fs =>
      simp only [okT, Bool.and_eq_true, beq_iff_eq] at ht
      obtain ⟨h1, h2, h3, h4⟩ := ht
      simp only [Sh.cells] at hl
      obtain ⟨x, hx⟩ := h f (List.mem_cons_self ..)
      obtain ⟨l1, a1, a2, a3⟩ := iha.1 f.type fuel _ x h3 hx
      obtain ⟨l2, b1, b2, b3⟩ := ihr.2 fs (off + a.cells) fuel cs h4 (by omega) (fun g hg => h g (List.mem_cons_of_mem _ hg))
      rw [h1, h2] at a3
      refine ⟨l1 ++ l2, ⟨l1, l2, a1, b1, rfl⟩, by simp [Sh.cells, a2, b2], ?_⟩
      refine ⟨by rw [List.length_append, a2, b2, List.length_drop]; omega, fun j l v hj hv => ?_⟩
      by_cases hlt : j < l1.length
      · rw [List.getElem?_append_left hlt] at hj
        refine a3.2 j l v hj ?_
        rw [List.getElem?_take, if_pos (by omega)]
        exact hv
      · rw [List.getElem?_append_right (by omega)] at hj
        refine b3.2 (j - l1.length) l v hj ?_
        rw [← hv, List.getElem?_drop, List.getElem?_drop, a2]
        congr 1
        omega
def svOf : Sh → List Lf → SV
  | .st _, ls => .agg ls
  | _, [l] => .one l
  | _, ls => .agg ls
omit [Nice P] in
omit [Env] in
theorem opened_arg {sh : Sh} {t : TypeId} {v : Value} {d : DataW H} {ps : List MemPlace} {r : Reach} {b0 : Nat} (ht : okT P sh (.inl t) = true) (hval : Value.okWide P w r b0 t v) (h : DataW.Trod enc P w base spare held t v d ps) :
    ∃ ls, Fits sh ls ∧ SVR (Rep w (allS w)) (svOf sh ls) v := by
  obtain ⟨fuel, h⟩ := h
  obtain ⟨ls, f1, f2, f3⟩ := (opened sh).1 t fuel _ _ ht h
  refine ⟨ls, f1, ?_⟩
  have one : ∀ {l : Lf}, ls = [l] → (∀ cs, v ≠ .agg cs) → SVR (Rep w (allS w)) (.one l) v := by
    intro l hl hne
    subst hl
    have hc : v.cells = #[v] := by
      cases v <;> first | rfl | exact absurd rfl (hne _)
    rw [hc] at f3
    exact f3.2 0 l v rfl rfl
  cases sh with
  | int k =>
    simp only [okT] at ht
    split at ht
    · rename_i k' hu
      obtain ⟨n, rfl⟩ := WideShapes.okWide_int hu hval
      obtain ⟨m, _, rfl⟩ := f1
      exact one rfl (fun _ h => by cases h)
    · cases ht
  | bool =>
    simp only [okT] at ht
    split at ht
    · rename_i hu
      obtain ⟨n, rfl⟩ := WideShapes.okWide_bool hu hval
      obtain ⟨m, rfl⟩ := f1
      exact one rfl (fun _ h => by cases h)
    · cases ht
  | str =>
    simp only [okT] at ht
    split at ht
    · rename_i hu
      obtain ⟨n, rfl⟩ := WideShapes.okWide_string hu hval
      obtain ⟨m, _, rfl⟩ := f1
      exact one rfl (fun _ h => by cases h)
    · cases ht
  | sl e =>
    simp only [okT] at ht
    split at ht
    · rename_i t' hu
      obtain ⟨a, n, c, rfl⟩ := WideShapes.okWide_slice hu hval
      obtain ⟨rows, _, _, rfl⟩ := f1
      exact one rfl (fun _ h => by cases h)
    · cases ht
  | st r =>
    simp only [okT] at ht
    split at ht
    · rename_i fs hu
      obtain ⟨cs, rfl, _⟩ := WideShapes.okWide_struct hu hval
      exact ⟨cs, rfl, f3⟩
    · cases ht
  | unit => simp [okT] at ht
  | pair a r => simp [okT] at ht
end
end Go.Proofs.Ytnphcnhejgpjgaa.Abs
end
section
namespace Go.Proofs.Ytnphcnhejgpjgaa.Abs
open Go.Proofs.Ytnphcnhejgpjgaa.Co
variable [Env]
open Go.RowKit
def FitsAll : List Sh → List SV → Prop
  | [], [] => True
  | sh :: shs, x :: xs => (∃ ls, Fits sh ls ∧ x = svOf sh ls) ∧ FitsAll shs xs
  | _, _ => False
def okParams (P : Program) : List Sh → List TypeId → Bool
  | [], [] => true
  | sh :: shs, t :: ts => okT P sh (.inl t) && (P.readableRec t && (decide (t < P.types.size) && okParams P shs ts))
  | _, _ => false
section
variable {H : Type} {enc : TypeId × Value → H} {P : Program} [Nice P] {W W' : World}
omit [Env] [Nice P] in
theorem open_all : ∀ {shs : List Sh} {ts : List TypeId} {vs : List Value} {ds : List (DataW H)} {ps : List MemPlace} {base : Nat}, okParams P shs ts = true → DataW.TrodAll enc P W 0 (fun _ => true) true ts vs ds ps →
    (∀ (j : Nat) t v, ts[j]? = some t → vs[j]? = some v → Value.okWide P W .any base t v) → ∃ xs, FitsAll shs xs ∧ SvsR (Rep W (allS W)) xs vs
  | [], [], [], [], _, _, _, _, _ => ⟨[], trivial, rfl, fun j x v h => by simp at h⟩
  | [], _ :: _, _, _, _, _, h, _, _ => by simp [okParams] at h
  | _ :: _, [], _, _, _, _, h, _, _ => by simp [okParams] at h
  | sh :: shs, t :: ts, v :: vs, d :: ds, ps, base, h, hd, hv => by
    simp only [okParams, Bool.and_eq_true] at h
    obtain ⟨p, q, h1, h2, _⟩ := hd
    obtain ⟨ls, f1, f2⟩ := opened_arg h.1 (hv 0 t v rfl rfl) h1
    obtain ⟨xs, g1, g2⟩ := open_all h.2.2.2 h2 (fun j t' v' e1 e2 => hv (j + 1) t' v' e1 e2)
    refine ⟨svOf sh ls :: xs, ⟨⟨ls, f1, rfl⟩, g1⟩, by simp [g2.1], fun j x u e1 e2 => ?_⟩
    cases j with
    | zero => simp at e1 e2; subst e1; subst e2; exact f2
    | succ j => exact g2.2 j x u e1 e2
omit [Env] [Nice P] in
theorem again_all (hl : laidOutB P = true) (hb : Below W.heap.size W W') : ∀ {shs : List Sh} {ts : List TypeId} {vs : List Value} {ds : List (DataW H)} {ps : List MemPlace}, okParams P shs ts = true → DataW.TrodAll enc P W 0 (fun _ => true) true ts vs ds ps → (∀ x ∈ ps, x.block < W.heap.size) →
    DataW.TrodAll enc P W' 0 (fun b => decide (b < W.heap.size)) true ts vs ds ps
  | [], [], [], [], _, _, h, _ => h
  | [], _ :: _, _, _, _, h, _, _ => by simp [okParams] at h
  | _ :: _, [], _, _, _, h, _, _ => by simp [okParams] at h
  | sh :: shs, t :: ts, v :: vs, d :: ds, ps, h, hd, hlt => by
    simp only [okParams, Bool.and_eq_true, decide_eq_true_eq] at h
    obtain ⟨p, q, h1, h2, rfl⟩ := hd
    exact ⟨p, q, Below.trod hl h.2.1 h.2.2.1 h1 hb (fun x hx => hlt x (List.mem_append_left _ hx)), again_all hl hb h.2.2.2 h2 (fun x hx => hlt x (List.mem_append_right _ hx)), rfl⟩
omit [Nice P] in
theorem law_contract {f : FuncId} {fn : Func} {s : ChangeSpec} {apart fresh handsOn : Bool} {tb : TypeId} (hl : laidOutB P = true) (shs : List Sh) (hp : okParams P shs fn.params.toList = true) (hres : fn.resultTypes = #[tb]) (htb : P.underlying tb = some .bool)
    (hvars : s.vars = []) (hs : ∀ ds : List (DataW H), ds.length = fn.params.toList.length → s.fn H ds = { results := [.lit (.bool true)], args := ds })
    (hf : ∀ xs, FitsAll shs xs → CallsA P f xs (· = .s (.one (.b true)))) (hG : GLR W (allS W))
    (base : Nat) (args : Array Value) (ds gs : List (DataW H)) (before : List MemPlace)
    (hval : ∀ (j : Nat) t v, fn.params[j]? = some t → args[j]? = some v → Value.okWide P W .any base t v) (hW : DataW.Whole enc P fn.params.toList s.vars apart W args.toList ds gs before) :
    CallsK P f args W fun e W' => ∃ v, e = .returned v ∧ s.post enc P fn apart fresh handsOn false W args v W' := by
  have hlt := hW.lt
  have hW' := hW
  obtain ⟨p, q, hA, hV, hpq, _, _⟩ := hW'
  obtain ⟨xs, h1, h2⟩ := open_all hp hA (fun j t v e1 e2 => hval j t v (by simpa using e1) (by simpa using e2))
  refine (hf xs h1 W (allS W) args (allS_in W hG) h2).mono ?_
  rintro e W' ⟨v, x, S', rfl, rfl, hext, _, hv⟩
  have hv : v = .bool true := rep_b hv
  subst hv
  have hlen : ds.length = fn.params.toList.length := by
    have : ∀ {ts : List TypeId} {vs : List Value} {ds : List (DataW H)} {ps : List MemPlace}, DataW.TrodAll enc P W 0 (fun _ => true) true ts vs ds ps → ds.length = ts.length := by
      intro ts
      induction ts with
      | nil => intro vs ds ps h; cases vs <;> cases ds <;> simp_all [DataW.TrodAll]
      | cons t ts ih =>
        intro vs ds ps h
        cases vs <;> cases ds <;> simp only [DataW.TrodAll] at h
        obtain ⟨p, q, _, h2, _⟩ := h
        simp [ih h2]
    exact this hA
  rw [hvars] at hV
  have hgs : gs = [] ∧ q = [] := by
    cases gs with
    | nil => exact ⟨rfl, hV⟩
    | cons g gs => exact hV.elim
  obtain ⟨rfl, rfl⟩ := hgs
  refine ⟨_, rfl, ds, [], before, [], p, [], hW, ?_, ?_, ?_, hext.below.frame _, fun h => by cases h⟩
  · rw [List.append_nil, hs ds hlen, hres]
    exact ⟨[], [], ⟨1, by simp [DataW.trod, Value.cells, htb]⟩, rfl, rfl⟩
  · rw [List.append_nil, hs ds hlen]
    exact again_all hl hext.below hp hA (fun x hx => hlt x (by rw [hpq]; exact List.mem_append_left _ hx))
  · rw [List.append_nil, hs ds hlen, hvars]
    rfl
end
end Go.Proofs.Ytnphcnhejgpjgaa.Abs
end
section
namespace Go.Proofs.Ytnphcnhejgpjgaa.Abs
open Go.Proofs.Ytnphcnhejgpjgaa.Co
variable [Env]
open Go.RowKit
structure DrawOkB (ops : Array Oper) (i0 : Nat) : Prop where
  dst : ∀ (i : Nat) (o : Oper), ops[i]? = some o → i ≠ i0 → ∃ d, o.dst = some d
  lt : ∀ (i : Nat) (o : Oper), ops[i]? = some o → ∀ e ∈ o.after, Region.binds .any e = true → e.on < i
  ne : ∀ (i : Nat) (o : Oper) (j : Nat) (p : Oper), ops[i]? = some o → ops[j]? = some p → i ≠ j → o.dst ≠ p.dst
  ed : ∀ (i : Nat) (o : Oper) (j : Nat) (p : Oper) (d : Tmp), ops[i]? = some o → ops[j]? = some p → p.dst = some d → d ∈ o.looksAt ops → ∃ e ∈ o.after, e.on = j ∧ Region.binds .any e = true
structure DrawOkC (ops : Array Oper) : Prop where
  lt : ∀ (i : Nat) (o : Oper), ops[i]? = some o → ∀ e ∈ o.after, Region.binds .any e = true → e.on < i
  ne : ∀ (i : Nat) (o : Oper) (j : Nat) (p : Oper), ops[i]? = some o → ops[j]? = some p → i ≠ j → ∀ d, o.dst = some d → p.dst ≠ some d
  ed : ∀ (i : Nat) (o : Oper) (j : Nat) (p : Oper) (d : Tmp), ops[i]? = some o → ops[j]? = some p → p.dst = some d → d ∈ o.looksAt ops → ∃ e ∈ o.after, e.on = j ∧ Region.binds .any e = true
structure Lift (md M : List Blk) : Prop where
  len : md.length = M.length
  at_ : ∀ (p : Nat) (b : Blk), md[p]? = some b → b = .dead ∨ M[p]? = some b
  arr : ∀ (p : Nat) (e sz k : Nat) (cs : List Lf), M[p]? = some (.arr e sz k cs) → md[p]? = some (.arr e sz k cs)
omit [Env] in
theorem Lift.up {md M : List Blk} (h : Lift md M) {w : World} {S : Stab} {H : Nat → Value} {l : Lf} {v : Value} (g : GRep w S md H l v) : GRep w S M H l v :=
  GRep.mono (fun _ _ hs => ⟨hs, rfl⟩) (Nat.le_of_eq h.len) (fun _ _ => rfl) (fun p e sz k cs _ hm => ⟨k, cs, h.arr p e sz k cs hm, rfl⟩) g
omit [Env] in
theorem Lift.down {md M : List Blk} (h : Lift md M) {w : World} {S : Stab} {H : Nat → Value} {l : Lf} {v : Value} (g : GRep w S M H l v) : GRep w S md H l v := by
  refine GRep.mono (fun _ _ hs => ⟨hs, rfl⟩) (Nat.le_of_eq h.len.symm) (fun _ _ => rfl) (fun p e sz k cs _ hm => ⟨k, cs, ?_, rfl⟩) g
  rcases h.at_ p _ hm with h | h
  · cases h
  · exact h
omit [Env] in
theorem Rel.down {c : Ctx} {t : Nat → AV} {md M : List Blk} {a : Act} {w : World} {S : Stab} {H : Nat → Value} (h : Lift md M) (r : Rel c ⟨t, M⟩ a w S H) : Rel c ⟨t, md⟩ a w S H := by
  refine ⟨r.nt, r.df, fun i => AVR.mono (fun l v => h.down) (r.tm i), fun p b hb => ?_, fun p b g hb ho => ?_, fun p q b b' g hb hb' ho ho' => ?_, fun p b g i hb ho hs => ?_, r.sl, r.ex, (by have := r.kl; have := h.len; simp only at *; omega), r.kh, fun p e sz k cs hp hm => ?_, r.ku⟩
  · rcases h.at_ p b hb with rfl | hb'
    · trivial
    · have := r.bl p b hb'
      cases b with
      | dead => trivial
      | hole => exact this
      | obj g mk cs => exact this
      | tab mk cs => exact this
      | box cs =>
        obtain ⟨g, e, cur, h1, h2, h3⟩ := this
        exact ⟨g, e, cur, h1, h2, h3.mono (fun l v => h.down)⟩
      | arr e sz k cs => exact this
  · rcases h.at_ p b hb with rfl | hb'
    · cases ho
    · exact r.lo p b g hb' ho
  · rcases h.at_ p b hb with rfl | hb1
    · cases ho
    · rcases h.at_ q b' hb' with rfl | hb2
      · cases ho'
      · exact r.inj p q b b' g hb1 hb2 ho ho'
  · rcases h.at_ p b hb with rfl | hb'
    · cases ho
    · exact r.sb p b g i hb' ho hs
  · rcases h.at_ p _ hm with h | h
    · cases h
    · exact r.kr p e sz k cs hp h
section
variable {P : Program} [Nice P] {c : Ctx} {t : Nat → AV} {m : List Blk} {Q : Exit → AS → Prop}
omit [Env] in
theorem TL_set {ops : Array Oper} (hok : DrawOkC ops) {T : Nat → AV} {listed : Array Bool} {i : Nat} {o : Oper} {d : Tmp} (hsz : listed.size = ops.size) (hget : ops[i]? = some o) (hun' : listed.getD i true = false) (hd : o.dst = some d) :
    upd (TL ops T listed) d (T d) = TL ops T (listed.setIfInBounds i true) := by
  have hio : i < ops.size := (Array.getElem?_eq_some_iff.1 hget).1
  funext x
  rw [upd_def]
  by_cases hx : x = d
  · subst hx
    rw [if_pos rfl]
    unfold TL
    rw [if_neg]
    rintro ⟨j, p, hj, hpd, hl⟩
    by_cases hij : i = j
    · subst hij
      simp only [Array.getD_eq_getD_getElem?, Array.getElem?_setIfInBounds_self_of_lt (by omega : i < listed.size), Option.getD_some] at hl
      cases hl
    · exact hok.ne i o j p hget hj hij _ hd hpd
  · rw [if_neg hx]
    unfold TL
    by_cases hex : ∃ (j : Nat) (p : Oper), ops[j]? = some p ∧ p.dst = some x ∧ listed.getD j true = false
    · rw [if_pos hex]
      obtain ⟨j, p, hj, hpd, hl⟩ := hex
      rw [if_pos]
      refine ⟨j, p, hj, hpd, ?_⟩
      have hij : i ≠ j := by
        intro e; subst e
        rw [hget] at hj
        cases hj
        rw [hd] at hpd
        cases hpd
        exact hx rfl
      simp only [Array.getD_eq_getD_getElem?, Array.getElem?_setIfInBounds_ne hij]
      simpa [Array.getD_eq_getD_getElem?] using hl
    · rw [if_neg hex, if_neg]
      rintro ⟨j, p, hj, hpd, hl⟩
      refine hex ⟨j, p, hj, hpd, ?_⟩
      by_cases hij : i = j
      · subst hij; exact hun'
      · simp only [Array.getD_eq_getD_getElem?, Array.getElem?_setIfInBounds_ne hij] at hl
        simpa [Array.getD_eq_getD_getElem?] using hl
omit [Env] in
theorem TL_set_none {ops : Array Oper} {T : Nat → AV} {listed : Array Bool} {i : Nat} {o : Oper} (hget : ops[i]? = some o) (hd : o.dst = none) :
    TL ops T listed = TL ops T (listed.setIfInBounds i true) := by
  funext x
  unfold TL
  have : (∃ (j : Nat) (p : Oper), ops[j]? = some p ∧ p.dst = some x ∧ listed.getD j true = false) ↔ (∃ (j : Nat) (p : Oper), ops[j]? = some p ∧ p.dst = some x ∧ (listed.setIfInBounds i true).getD j true = false) := by
    constructor
    · rintro ⟨j, p, hj, hp, hl⟩
      have hij : i ≠ j := by intro e; subst e; rw [hget] at hj; cases hj; rw [hd] at hp; cases hp
      exact ⟨j, p, hj, hp, by simp only [Array.getD_eq_getD_getElem?, Array.getElem?_setIfInBounds_ne hij]; simpa [Array.getD_eq_getD_getElem?] using hl⟩
    · rintro ⟨j, p, hj, hp, hl⟩
      have hij : i ≠ j := by intro e; subst e; rw [hget] at hj; cases hj; rw [hd] at hp; cases hp
      exact ⟨j, p, hj, hp, by simp only [Array.getD_eq_getD_getElem?, Array.getElem?_setIfInBounds_ne hij] at hl; simpa [Array.getD_eq_getD_getElem?] using hl⟩
  by_cases h : ∃ (j : Nat) (p : Oper), ops[j]? = some p ∧ p.dst = some x ∧ listed.getD j true = false
  · rw [if_pos h, if_pos (this.1 h)]
  · rw [if_neg h, if_neg (fun h' => h (this.2 h'))]
def Met (listed : Array Bool) (o : Oper) : Prop := ∀ e ∈ o.after, Region.binds .any e = true → listed.getD e.on false = true
omit [Env] in
theorem TL_look {ops : Array Oper} (hok : DrawOkC ops) {T : Nat → AV} {listed : Array Bool} {i : Nat} {o : Oper} (hsz : listed.size = ops.size) (hget : ops[i]? = some o) (hmet : Met listed o) : ∀ y ∈ o.looksAt ops, TL ops T listed y = T y := by
  intro y hy
  unfold TL
  rw [if_neg]
  rintro ⟨j, p, hj, hpd, hl⟩
  obtain ⟨e, he, heo, hbind⟩ := hok.ed i o j p y hget hj hpd hy
  have h1 := hmet e he hbind
  rw [heo] at h1
  have hjl : j < ops.size := (Array.getElem?_eq_some_iff.1 hj).1
  simp only [Array.getD_eq_getD_getElem?] at h1 hl
  rw [Array.getElem?_eq_getElem (by omega)] at h1 hl
  simp only [Option.getD_some] at h1 hl
  rw [h1] at hl
  cases hl
def EffOk (P : Program) (c : Ctx) (ops : Array Oper) (T : Nat → AV) (B : Array Bool → List Blk) (HI : Array Bool → (Nat → Value) → Prop) (i : Nat) (o : Oper) : Prop :=
  GYes ops T o ∧ ∀ listed : Array Bool, listed.size = ops.size → listed.getD i true = false → Met listed o → ∀ a w S H, Rel c ⟨TL ops T listed, B listed⟩ a w S H → HI listed H → ∀ (K : Act → World → Prop) (Q : Exit → Act → World → Prop),
    (∀ a' w' S' H', Rel c ⟨TL ops T (listed.setIfInBounds i true), B (listed.setIfInBounds i true)⟩ a' w' S' H' → HI (listed.setIfInBounds i true) H' → K a' w') → operK P o a w K Q
def PureOk (P : Program) (c : Ctx) (ops : Array Oper) (T : Nat → AV) (B : Array Bool → List Blk) (HI : Array Bool → (Nat → Value) → Prop) (i : Nat) (o : Oper) : Prop :=
  ∀ (listed : Array Bool) (H : Nat → Value), listed.size = ops.size → listed.getD i true = false → Met listed o → HI listed H →
    ∃ md, (∃ d, o.dst = some d ∧ d < c.nt ∧ Good1 P c md ops T o (T d)) ∧ Lift md (B listed) ∧ B (listed.setIfInBounds i true) = B listed ∧ HI (listed.setIfInBounds i true) H
omit [Nice P] in
theorem draw_mem {ops : Array Oper} (hok : DrawOkC ops) {T : Nat → AV} {B : Array Bool → List Blk} {HI : Array Bool → (Nat → Value) → Prop} (hT : ∀ (i : Nat) (o : Oper), ops[i]? = some o → PureOk P c ops T B HI i o ∨ EffOk P c ops T B HI i o)
    (hQ : ∀ listed : Array Bool, listed.size = ops.size → (∀ i, i < ops.size → listed.getD i true = true) → Q .normal ⟨T, B listed⟩) :
    ∀ (fuel : Nat) (listed : Array Bool) (a : Act) (w : World) (S : Stab) (H : Nat → Value), listed.size = ops.size → (List.range ops.size).countP (fun i => !listed.getD i true) ≤ fuel →
      Rel c ⟨TL ops T listed, B listed⟩ a w S H → HI listed H → wpAnyP P .any ops (QR c Q) fuel listed a w := by
  have done : ∀ (listed : Array Bool) (a : Act) (w : World) (S : Stab) (H : Nat → Value), listed.size = ops.size → Region.ready .any ops listed = [] → Rel c ⟨TL ops T listed, B listed⟩ a w S H → QR c Q .normal a w := by
    intro listed a w S H hsz hr r
    have hall : ∀ n i, i < n → i < ops.size → listed.getD i true = true := by
      intro n
      induction n with
      | zero => intro i h; omega
      | succ n ih =>
        intro i hi hio
        by_cases hb : listed.getD i true = true
        · exact hb
        · exfalso
          have hmem : i ∈ Region.ready .any ops listed := by
            unfold Region.ready
            refine List.mem_filter.2 ⟨List.mem_range.2 hio, ?_⟩
            have hlt := hok.lt i ops[i] (Array.getElem?_eq_getElem hio)
            have hb' : listed.getD i true = false := by simpa using hb
            simp only [hb', Bool.not_false, Bool.true_and, Array.getElem?_eq_getElem hio, Option.map_some, Option.getD_some]
            rw [Array.all_eq_true']
            intro e he
            cases hbind : Region.binds .any e with
            | false => rfl
            | true =>
            have hel := hlt e he hbind
            have h1 := ih e.on (by omega) (by omega)
            have h2 : listed.getD e.on false = true := by
              simp only [Array.getD_eq_getD_getElem?] at h1 ⊢
              rw [Array.getElem?_eq_getElem (by omega)] at h1 ⊢
              exact h1
            simp [h2]
          rw [hr] at hmem
          cases hmem
    have hTL : TL ops T listed = T := by
      funext x
      unfold TL
      rw [if_neg]
      rintro ⟨i, o, hi, _, hl⟩
      have := hall (i + 1) i (by omega) (Array.getElem?_eq_some_iff.1 hi).1
      rw [this] at hl
      cases hl
    rw [hTL] at r
    exact ⟨_, S, H, r, hQ listed hsz (fun i hi => hall (i + 1) i (by omega) hi)⟩
  intro fuel
  induction fuel with
  | zero =>
    intro listed a w S H hsz hc r hi0
    have hr : Region.ready .any ops listed = [] := by
      unfold Region.ready
      rw [List.filter_eq_nil_iff]
      intro i hi hb
      simp only [Bool.and_eq_true] at hb
      have : 0 < (List.range ops.size).countP (fun i => !listed.getD i true) := List.countP_pos_iff.2 ⟨i, hi, hb.1⟩
      omega
    exact ⟨hr, done listed a w S H hsz hr r⟩
  | succ fuel ih =>
    intro listed a w S H hsz hc r hi0
    refine ⟨fun hr => done listed a w S H hsz hr r, fun i hi => ?_⟩
    unfold Region.ready at hi
    rw [List.mem_filter] at hi
    obtain ⟨hi1, hi2⟩ := hi
    have hio : i < ops.size := List.mem_range.1 hi1
    have hget : ops[i]? = some ops[i] := Array.getElem?_eq_getElem hio
    simp only [Bool.and_eq_true, hget, Option.map_some, Option.getD_some] at hi2
    obtain ⟨hun, haf⟩ := hi2
    have hun' : listed.getD i true = false := by simpa using hun
    generalize ho : ops[i] = o at *
    have hmet : Met listed o := by
      intro e he hb
      rw [Array.all_eq_true'] at haf
      have h1 := haf e he
      rw [hb] at h1
      simpa using h1
    have hlook := TL_look (T := T) hok hsz hget hmet
    have hcnt : (List.range ops.size).countP (fun j => !(listed.setIfInBounds i true).getD j true) ≤ fuel := by
      have := count_lt (fun j => !listed.getD j true) (fun j => !(listed.setIfInBounds i true).getD j true) (List.range ops.size) (fun j _ hj => by
        by_cases hij : i = j
        · subst hij
          simp only [Array.getD_eq_getD_getElem?, Array.getElem?_setIfInBounds_self_of_lt (by omega : i < listed.size), Option.getD_some] at hj
          cases hj
        · simp only [Array.getD_eq_getD_getElem?, Array.getElem?_setIfInBounds_ne hij] at hj
          simpa [Array.getD_eq_getD_getElem?] using hj) hi1 hun (by simp only [Array.getD_eq_getD_getElem?, Array.getElem?_setIfInBounds_self_of_lt (by omega : i < listed.size), Option.getD_some]; rfl)
      omega
    rcases hT i o hget with hp | ⟨hgn, heff⟩
    · obtain ⟨md, ⟨d, hd, hdn, hgood⟩, hlift, hB, hHI⟩ := hp listed H hsz hun' hmet hi0
      have hTL' := TL_set (T := T) hok hsz hget hun' hd
      have next : ∀ v w' S', Ext w S w' S' → InH w' S' → AVR (GRep w' S' md H) (T d) v → ∀ w1, Env.Rl w' w1 → wpAnyP P .any ops (QR c Q) fuel (listed.setIfInBounds i true) (a.put o.dst v) w1 := by
        intro v w' S' hext hin hv w1 d0
        rw [hd]
        refine ih _ _ w1 S' H (by simpa using hsz) hcnt ?_ hHI
        rw [← hTL', hB]
        exact ((r.ext hext hin).put hdn (AVR.mono (fun l u => hlift.up) hv)).atw d0
      have hw : wpOpK P ops (QR c Q) i (fun a' w' => ∀ w1, Env.Rl w' w1 → wpAnyP P .any ops (QR c Q) fuel (listed.setIfInBounds i true) a' w1) a w := by
        unfold wpOpK
        rw [hget]
        simp only
        have hrr : Rel c ⟨restr T (o.looksAt ops), md⟩ a w S H := by
          refine (r.down hlift).weak (fun y => ?_)
          unfold restr
          cases hc' : (o.looksAt ops).contains y with
          | false => exact .inr rfl
          | true => exact .inl (hlook y (by simpa using hc')).symm
        rcases hgood with ⟨hg, hop⟩ | ⟨hg, hx⟩
        · have hwant : Region.wanted o (yielded ops a.tmps) = true := by
            rcases hg with hg | ⟨j, want, dj, h1, h2, h3⟩
            · simp [Region.wanted, hg]
            · have h4 := r.tm dj
              have h5 : TL ops T listed dj = .s (.one (.b want)) := by rw [hlook dj (mem_looks_guard h1 h2)]; exact h3
              rw [show (⟨TL ops T listed, B listed⟩ : AS).t dj = .s (.one (.b want)) from h5] at h4
              have hv : a.tmps.getD dj undef = .bool want := rep_b (h4 : Rep w S (.b want) (a.tmps.getD dj undef))
              have hs : a.tmps[dj]? = some (.bool want) := by
                simp only [Array.getD_eq_getD_getElem?] at hv
                cases hq : a.tmps[dj]? with
                | none => rw [hq] at hv; cases hv
                | some u => rw [hq] at hv; simp only [Option.getD_some] at hv; rw [hv]
              simp only [Region.wanted, h1, yielded, h2, Option.bind_some, hs, beq_self_eq_true]
          rw [if_pos hwant]
          obtain ⟨odst, oop, oty, opos, oaf, og⟩ := o
          exact (hop a w S H hrr odst opos oaf og _ _ (fun v w' S' h1 h2 h3 => next v w' S' h1 h2 h3))
        · have hwant : Region.wanted o (yielded ops a.tmps) = false := by
            obtain ⟨j, want, dj, h1, h2, h3⟩ := hg
            have h4 := r.tm dj
            rw [show (⟨TL ops T listed, B listed⟩ : AS).t dj = T dj from hlook dj (mem_looks_guard h1 h2)] at h4
            simp only [Region.wanted, h1, yielded, h2, Option.bind_some]
            rcases h3 with h3 | ⟨b, h3, hb⟩
            · rw [h3] at h4
              obtain ⟨vs, hv, _⟩ := h4
              simp only [Array.getD_eq_getD_getElem?] at hv
              cases hq : a.tmps[dj]? with
              | none => rfl
              | some u => rw [hq] at hv; simp only [Option.getD_some] at hv; subst hv; rfl
            · rw [h3] at h4
              have hv : a.tmps.getD dj undef = .bool b := rep_b (h4 : Rep w S (.b b) (a.tmps.getD dj undef))
              simp only [Array.getD_eq_getD_getElem?] at hv
              cases hq : a.tmps[dj]? with
              | none => rfl
              | some u =>
                rw [hq] at hv; simp only [Option.getD_some] at hv; subst hv
                cases b <;> cases want <;> first | rfl | cases hb
          rw [if_neg (by rw [hwant]; simp)]
          have := next undef w S (Ext.refl w S) r.sl (by rw [hx]; exact avr_undef)
          exact this
      exact hw
    · unfold wpOpK
      rw [hget]
      simp only
      have hwant : Region.wanted o (yielded ops a.tmps) = true := by
        rcases hgn with hg | ⟨j, want, dj, h1, h2, h3⟩
        · simp [Region.wanted, hg]
        · have h4 := r.tm dj
          have h5 : TL ops T listed dj = .s (.one (.b want)) := by rw [hlook dj (mem_looks_guard h1 h2)]; exact h3
          rw [show (⟨TL ops T listed, B listed⟩ : AS).t dj = .s (.one (.b want)) from h5] at h4
          have hv : a.tmps.getD dj undef = .bool want := rep_b (h4 : Rep w S (.b want) (a.tmps.getD dj undef))
          have hs : a.tmps[dj]? = some (.bool want) := by
            simp only [Array.getD_eq_getD_getElem?] at hv
            cases hq : a.tmps[dj]? with
            | none => rw [hq] at hv; cases hv
            | some u => rw [hq] at hv; simp only [Option.getD_some] at hv; rw [hv]
          simp only [Region.wanted, h1, yielded, h2, Option.bind_some, hs, beq_self_eq_true]
      rw [if_pos hwant]
      exact heff listed hsz hun' hmet a w S H r hi0 _ (QR c Q) (fun a' w' S' H' r' h' w1 d0 => ih _ a' w1 S' H' (by simpa using hsz) hcnt (r'.atw d0) h')
end
end Go.Proofs.Ytnphcnhejgpjgaa.Abs
end
section
namespace Go.Proofs.Ytnphcnhejgpjgaa.Abs
open Go.Proofs.Ytnphcnhejgpjgaa.Co
variable [Env]
open Go.RowKit
section
variable {P : Program} [Nice P] {c : Ctx} {t : Nat → AV} {m : List Blk} {Q : Exit → AS → Prop}
omit [Env] in
theorem undef_ne {g : Addr} (h : undef = .pointer (some g)) : False := by
  unfold undef at h; cases h
omit [Env] in
theorem Rel.fill {a : Act} {w : World} {S : Stab} {H : Nat → Value} (r : Rel c ⟨t, m⟩ a w S H) {p : Nat} (hm : m[p]? = some .dead) (hH : H p = undef) {e : TypeId} {cells : Array Value} {ls : List Lf} (hls : ∀ w' H', LsR (GRep w' S (m.set p (.box ls)) H') ls cells.toList) :
    Rel c ⟨t, m.set p (.box ls)⟩ a (w.alloc (.cells cells e)) S (setH H p (.pointer (some ⟨w.heap.size, 0, none⟩))) := by
  have hx : Ext w S (w.alloc (.cells cells e)) S := Ext.alloc w S _
  have hp : p < m.length := (List.getElem?_eq_some_iff.1 hm).1
  have hf := r.fresh (Nat.le_refl w.heap.size)
  refine r.change (p := p) (b' := .box ls) (by simp) (List.getElem?_set_self hp) (fun q hq => List.getElem?_set_ne (fun e => hq e.symm)) (fun b i h => hx.keeps r.sl b i h) (fun g _ h => (undef_ne (hH.symm.trans h)).elim) (fun e sz k cs _ h => by cases h)
    (fun g hg _ => hx.blk g hg) ⟨w.heap.size, e, cells, rfl, heap_alloc_new w _, hls _ _⟩ (fun g hg => ?_) (fun q b g i _ _ _ h => h) (fun g i _ _ h => h) (r.sl.ext hx).two hx.size rfl rfl rfl
  have hg' : w.heap.size = g := by simpa [Blk.own, ownOf] using hg
  subst hg'
  exact ⟨.inl r.ex.size, by simp, fun q b _ hb => hf.1 q b hb, fun i hi => absurd hi (hf.2 i)⟩
def AWD (P : Program) (c : Ctx) (Q : Exit → AS → Prop) (l : List Oper) (st : AS) : Prop := ∀ a w S H, Rel c st a w S H → wpAnyP P .any l.toArray (QR c Q) l.toArray.size (Array.replicate l.toArray.size false) a w
theorem AWD.awc {st : AS} {id : Nat} {l : List Oper} (hm : P.follows .mixedOrders = true) (h : AWD P c Q l st) : AWC P c (.region id l.toArray true) Q st := fun a w S H r => wpK_region_any hm fun w1 h1 w2 h2 => h a w2 S H ((Rel.drew (r.atw h1)).atw h2)
omit [Nice P] in
theorem draw_open {l : List Oper} {T : Nat → AV} {B : Array Bool → List Blk} {HI : Array Bool → (Nat → Value) → Prop} (ok : DrawOkC l.toArray)
    (hT : ∀ (i : Nat) (o : Oper), l.toArray[i]? = some o → PureOk P c l.toArray T B HI i o ∨ EffOk P c l.toArray T B HI i o)
    (hTt : ∀ y, y ∉ dsts l → T y = t y)
    (hst : ∀ a w S H, Rel c ⟨t, m⟩ a w S H → ∃ H', Rel c ⟨t, B (Array.replicate l.toArray.size false)⟩ a w S H' ∧ HI (Array.replicate l.toArray.size false) H')
    (hQ : ∀ listed : Array Bool, listed.size = l.toArray.size → (∀ i, i < l.toArray.size → listed.getD i true = true) → Q .normal ⟨T, B listed⟩) : AWD P c Q l ⟨t, m⟩ := by
  intro a w S H r
  have hcnt : (List.range l.toArray.size).countP (fun i => !(Array.replicate l.toArray.size false).getD i true) ≤ l.toArray.size := by
    refine Nat.le_trans List.countP_le_length ?_
    simp
  have r' : Rel c ⟨t, m⟩ a w S H := r
  obtain ⟨H', r2, h2⟩ := hst _ _ _ _ r'
  refine draw_mem ok hT hQ l.toArray.size (Array.replicate l.toArray.size false) a _ S H' (by simp) hcnt ?_ h2
  refine r2.weak (fun x => ?_)
  unfold TL
  by_cases hx : x ∈ dsts l
  · right
    rw [if_pos]
    unfold dsts at hx
    rw [List.mem_filterMap] at hx
    obtain ⟨p, hp, hpd⟩ := hx
    obtain ⟨j, hj, hjp⟩ := List.getElem_of_mem hp
    refine ⟨j, p, by simp [hj, hjp], hpd, ?_⟩
    simp [Array.getD_eq_getD_getElem?, hj]
  · left
    rw [if_neg, hTt x hx]
    rintro ⟨i, o, hi, hod, _⟩
    refine hx ?_
    unfold dsts
    rw [List.mem_filterMap]
    have hi' : l[i]? = some o := by simpa using hi
    exact ⟨o, List.mem_of_getElem? hi', hod⟩
omit [Env] in
theorem later {l : List Oper} (ok : DrawOkC l.toArray) : ∀ (i : Nat) (o : Oper), l[i]? = some o → ∀ y ∈ o.looksAt l.toArray, y ∉ dsts (l.drop i) := by
  intro i o hi y hy hm'
  unfold dsts at hm'
  rw [List.mem_filterMap] at hm'
  obtain ⟨p, hp, hpd⟩ := hm'
  obtain ⟨j, hj, hjp⟩ := List.getElem_of_mem hp
  have hjl : l[i + j]? = some p := by
    rw [List.getElem_drop] at hjp
    have : i + j < l.length := by simp at hj; omega
    rw [List.getElem?_eq_getElem this, hjp]
  obtain ⟨e, he, heo, hb⟩ := ok.ed i o (i + j) p y (by simpa using hi) (by simpa using hjl) hpd hy
  have := ok.lt i o (by simpa using hi) e he hb
  omega
end
end Go.Proofs.Ytnphcnhejgpjgaa.Abs
end
section
namespace Go.Proofs.Ytnphcnhejgpjgaa.Abs
open Go.Proofs.Ytnphcnhejgpjgaa.Co
variable [Env]
open Go.RowKit
section
variable {P : Program} [Nice P] {c : Ctx} {st : AS} {k2 : IntKind} {n m : Int} {x y : Operand} {xt yt ty : TypeId}
end
omit [Env] in
theorem zi_of {P : Program} [Nice P] {t : TypeId} {zl : List Lf} (h : ((P.info? t).bind (·.zero)).map (fun z => (z.cells.toList.map clf, z.cells.all (·.oneCell'))) = some (zl, true)) : ZI P t zl := by
  cases hi : P.info? t with
  | none => rw [hi] at h; cases h
  | some i =>
    rw [hi] at h
    cases hz : i.zero with
    | none => simp [hz] at h
    | some z =>
      simp only [Option.bind_some, hz, Option.map_some, Option.some.injEq, Prod.mk.injEq] at h
      exact ⟨i, z, hi, hz, h.1, h.2⟩
omit [Env] in
theorem ei_of {P : Program} [Nice P] {e sz bytes : Nat} {zl : List Lf} (h : (P.info? e).bind (fun i => i.zero.map fun z => (i.size, i.bytes, z.cells.size, z.cells.toList.map clf, z.cells.all (·.oneCell'))) = some (sz, bytes, sz, zl, true)) (hp : 0 < sz) : EI P e sz bytes zl := by
  cases hi : P.info? e with
  | none => rw [hi] at h; cases h
  | some i =>
    rw [hi] at h
    cases hz : i.zero with
    | none => simp [hz] at h
    | some z =>
      simp only [Option.bind_some, hz, Option.map_some, Option.some.injEq, Prod.mk.injEq] at h
      exact ⟨⟨i, z, hi, hz, h.1, h.2.1, h.2.2.1, h.2.2.2.1, h.2.2.2.2⟩, hp⟩
omit [Env] in
theorem lit_i64 {n : Int} (h : (Lit.int .i64 n).wf = true) : -9223372036854775808 ≤ n ∧ n ≤ 9223372036854775807 := by
  simpa [Lit.wf, IntKind.min, IntKind.max, IntKind.bits, IntKind.signed] using h
def Lf.canon : Lf → Lf
  | .raw (.slice none 0 0) => .sl 0 []
  | l => l
def SV.canon : SV → SV
  | .one l => .one l.canon
  | .agg ls => .agg (ls.map Lf.canon)
omit [Env] in
theorem canon_pub {m : List Blk} {l : Lf} (h : l.pubd = true) : PubL m l l.canon m := by
  unfold Lf.canon
  split
  · exact .nil
  · exact .id _ h
omit [Env] in
theorem pubC {m : List Blk} {xs : List SV} (h : xs.all (fun x => x.cells.all Lf.pubd) = true) : PubA m xs (xs.map SV.canon) m := by
  induction xs with
  | nil => exact .nil m
  | cons x xs ih =>
    simp only [List.all_cons, Bool.and_eq_true] at h
    refine .cons m m m x x.canon xs _ ?_ (ih h.2)
    cases x with
    | one l => exact .one _ _ _ _ (canon_pub (by simpa [SV.cells] using h.1))
    | agg ls =>
      refine .agg _ _ _ _ ?_
      have h1 := List.all_eq_true.1 h.1
      simp only [SV.cells] at h1
      clear h
      induction ls with
      | nil => exact .nil m
      | cons l ls ih2 => exact .cons m m m l l.canon ls _ (canon_pub (h1 l (List.mem_cons_self ..))) (ih2 (fun l' hl => h1 l' (List.mem_cons_of_mem _ hl)))
omit [Env] in
theorem pubA_id {m : List Blk} {xs : List SV} (h : xs.all (fun x => x.cells.all Lf.pubd) = true) : PubA m xs xs m := by
  induction xs with
  | nil => exact .nil m
  | cons x xs ih =>
    simp only [List.all_cons, Bool.and_eq_true] at h
    refine .cons m m m x x xs xs ?_ (ih h.2)
    cases x with
    | one l => exact .one _ _ _ _ (.id _ (by simpa [SV.cells] using h.1))
    | agg ls => exact .agg _ _ _ _ (.all _ _ (List.all_eq_true.1 h.1))
section
variable {P : Program} [Nice P] {c : Ctx} {st : AS} {x y b : Operand} {v : SV} {ty : TypeId}
omit [Env] [Nice P] in
theorem opv_mv (h : opnd st x = .s v) : OpV P c st (.move x) ty (.s v) := h ▸ opv_move
omit [Env] [Nice P] in
theorem opv_mvt {xs : List SV} (h : opnd st x = .tup xs) : OpV P c st (.move x) ty (.tup xs) := h ▸ opv_move
omit [Env] [Nice P] in
theorem opv_as (h : opnd st x = .s v) : OpV P c st (.assign x) ty (.s v) := h ▸ opv_assign
omit [Env] [Nice P] in
theorem opv_pick_t (hb : opnd st b = .s (.one (.b true))) (h : opnd st x = .s v) : OpV P c st (.pick b x y) ty (.s v) := by
  have := opv_pick (P := P) (c := c) (ty := ty) (x := x) (y := y) hb
  rw [if_pos rfl, h] at this
  exact this
omit [Env] [Nice P] in
theorem opv_pick_f (hb : opnd st b = .s (.one (.b false))) (h : opnd st y = .s v) : OpV P c st (.pick b x y) ty (.s v) := by
  have := opv_pick (P := P) (c := c) (ty := ty) (x := x) (y := y) hb
  rw [if_neg (by simp), h] at this
  exact this
end
omit [Env] in
theorem pi_of {P : Program} [Nice P] {t : TypeId} {pl : List (Nat × Nat)} {fs : Array Field} (hu : P.underlying t = some (.struct fs)) (hs : fs.size = pl.length)
    (h : ((List.range pl.length).all fun j => match fs[j]?, pl[j]? with | some f, some q => f.offset == q.1 && ((P.info? f.type).map (·.size) == some q.2) | _, _ => false) = true) : PI P t pl := by
  refine ⟨fs, hu, hs, fun j f q hf hq => ?_⟩
  have hj : j < pl.length := (List.getElem?_eq_some_iff.1 hq).1
  have := List.all_eq_true.1 h j (List.mem_range.2 hj)
  rw [hf, hq] at this
  simpa using this
end Go.Proofs.Ytnphcnhejgpjgaa.Abs
end
section
namespace Go.Proofs.Ytnphcnhejgpjgaa.Abs
open Go.Proofs.Ytnphcnhejgpjgaa.Co
variable [Env]
open Go.RowKit
section
variable {P : Program} [Nice P] {c : Ctx} {t : Nat → AV} {m : List Blk} {ops : Array Oper} {Q : Exit → AS → Prop} {rest : List Oper} {ty : TypeId} {pos : String} {af : Array Edge} {d : Tmp}
end
section
variable {P : Program} [Nice P] {w : World} {S : Stab}
end
structure XI (P : Program) (f : FuncId) (e : Array Value → Sem Value) : Prop where
  h : ∃ fn, P.funcs[f]? = some fn ∧ (fn.name == "runtime.NumGoroutine") = false ∧ fn.body.isNone = true ∧ Extern.findNext fn = none ∧ Extern.find fn = some e
end Go.Proofs.Ytnphcnhejgpjgaa.Abs
end
section
namespace Go.Proofs.Ytnphcnhejgpjgaa.Abs
open Go.Proofs.Ytnphcnhejgpjgaa.Co
variable [Env]
open Go.RowKit
section
variable {P : Program} [Nice P] {c : Ctx} {st : AS} {k kd : IntKind} {n : Int} {x : Operand} {src dst xt ty : TypeId}
end
end Go.Proofs.Ytnphcnhejgpjgaa.Abs
end
section
namespace Go.Proofs.Ytnphcnhejgpjgaa.Abs
open Go.Proofs.Ytnphcnhejgpjgaa.Co
variable [Env]
open Go.RowKit
def Lf.ren0 (r : Nat → Nat) : Lf → Lf
  | .lp p o => .lp (r p) o
  | .ls p n => .ls (r p) n
  | .ap p n o => .ap (r p) n o
  | .mp k p => .mp k (r p)
  | l => l
def Lf.ren (r : Nat → Nat) : Lf → Lf
  | .fn f la lb => .fn f (la.map (Lf.ren0 r)) (lb.map (Lf.ren0 r))
  | l => l.ren0 r
def SV.ren (r : Nat → Nat) : SV → SV
  | .one l => .one (l.ren r)
  | .agg ls => .agg (ls.map (Lf.ren r))
def AV.ren (r : Nat → Nat) : AV → AV
  | .s x => .s (x.ren r)
  | .tup xs => .tup (xs.map (SV.ren r))
  | .top => .top
def Blk.ren (r : Nat → Nat) : Blk → Blk
  | .box cs => .box (cs.map (Lf.ren r))
  | b => b
def Lf.inb0 (n : Nat) : Lf → Bool
  | .lp p _ => decide (p < n)
  | .ls p _ => decide (p < n)
  | .ap p _ _ => decide (p < n)
  | .mp _ p => decide (p < n)
  | _ => true
def Lf.inbB (n : Nat) : Lf → Bool
  | .fn _ la lb => la.all (Lf.inb0 n) && lb.all (Lf.inb0 n)
  | l => l.inb0 n
def SV.inbB (n : Nat) : SV → Bool
  | .one l => l.inbB n
  | .agg ls => ls.all (Lf.inbB n)
def Blk.inbB (n : Nat) : Blk → Bool
  | .box cs => cs.all (Lf.inbB n)
  | _ => true
omit [Env] in
theorem Blk.ren_arr {r : Nat → Nat} {b : Blk} {e sz k : Nat} {cs : List Lf} (h : b.ren r = .arr e sz k cs) : b = .arr e sz k cs := by
  cases b <;> first | exact h | cases h
omit [Env] in
theorem Blk.ren_own {r : Nat → Nat} {b : Blk} {v : Value} : (b.ren r).own v = b.own v := by cases b <;> rfl
omit [Env] in
theorem Blk.ren_stab {r : Nat → Nat} {b : Blk} : (b.ren r).stab = b.stab := by cases b <;> rfl
structure Tie (m M : List Blk) (H H' : Nat → Value) (r : Nat → Nat) : Prop where
  lt : ∀ p, p < m.length → r p < M.length
  h : ∀ p, p < m.length → H' (r p) = H p
  b : ∀ p b, m[p]? = some b → M[r p]? = some (b.ren r)
omit [Env] in
theorem Tie.arr {m M : List Blk} {H H' : Nat → Value} {r : Nat → Nat} (t : Tie m M H H' r) {p e sz k : Nat} {cs : List Lf} (hp : p < m.length) : M[r p]? = some (.arr e sz k cs) ↔ m[p]? = some (.arr e sz k cs) := by
  have hb := t.b p _ (List.getElem?_eq_getElem hp)
  constructor
  · intro h
    rw [h] at hb
    rw [List.getElem?_eq_getElem hp, Blk.ren_arr (Option.some.inj hb).symm]
  · intro h
    rw [List.getElem?_eq_getElem hp] at h
    rw [hb, Option.some.inj h]
    rfl
omit [Env] in
theorem Tie.up0 {w : World} {S : Stab} {m M : List Blk} {H H' : Nat → Value} {r : Nat → Nat} (t : Tie m M H H' r) {l : Lf} {v : Value} (h : GRep0 w S m H l v) : GRep0 w S M H' (l.ren0 r) v := by
  cases l with
  | lp p o => exact ⟨t.lt p h.1, by rw [t.h p h.1]; exact h.2⟩
  | mp k p => exact ⟨t.lt p h.1, by rw [t.h p h.1]; exact h.2⟩
  | ls p n => exact ⟨t.lt p h.1, ⟨h.2.1.1, by rw [t.h p h.1]; exact h.2.1.2⟩, fun e sz k cs hm => by rw [t.h p h.1]; exact h.2.2 e sz k cs ((t.arr h.1).1 hm)⟩
  | ap p n o => exact ⟨t.lt p h.1, ⟨h.2.1.1, by rw [t.h p h.1]; exact h.2.1.2⟩, fun e sz k cs hm => by rw [t.h p h.1]; exact h.2.2 e sz k cs ((t.arr h.1).1 hm)⟩
  | _ => exact h
omit [Env] in
theorem Tie.up {w : World} {S : Stab} {m M : List Blk} {H H' : Nat → Value} {r : Nat → Nat} (t : Tie m M H H' r) {l : Lf} {v : Value} (h : GRep w S m H l v) : GRep w S M H' (l.ren r) v := by
  have map : ∀ {ls : List Lf} {vs : List Value}, LsR (GRep0 w S m H) ls vs → LsR (GRep0 w S M H') (ls.map (Lf.ren0 r)) vs := fun {ls vs} hl =>
    ⟨by simpa using hl.1, fun j l v h1 h2 => by
      rw [List.getElem?_map] at h1
      cases hj : ls[j]? with
      | none => rw [hj] at h1; cases h1
      | some l0 => rw [hj] at h1; cases h1; exact t.up0 (hl.2 j l0 v hj h2)⟩
  cases l with
  | fn f a b =>
    obtain ⟨va, vb, hv, h1, h2⟩ := h
    exact ⟨va, vb, hv, map h1, map h2⟩
  | lp p o => exact t.up0 (w := w) (S := S) (l := .lp p o) h
  | mp k p => exact t.up0 (w := w) (S := S) (l := .mp k p) h
  | ls p n => exact t.up0 (w := w) (S := S) (l := .ls p n) h
  | ap p n o => exact t.up0 (w := w) (S := S) (l := .ap p n o) h
  | i k n => exact h
  | b x => exact h
  | s x => exact h
  | raw v => exact h
  | sl n cs => exact h
  | cp cs => exact h
  | nix => exact h
  | jk e sz n => exact h
omit [Env] in
theorem Tie.down0 {w : World} {S : Stab} {m M : List Blk} {H H' : Nat → Value} {r : Nat → Nat} (t : Tie m M H H' r) {l : Lf} {v : Value} (hi : l.inb0 m.length = true) (h : GRep0 w S M H' (l.ren0 r) v) : GRep0 w S m H l v := by
  cases l with
  | lp p o =>
    have hp : p < m.length := by simpa [Lf.inb0] using hi
    exact ⟨hp, by rw [← t.h p hp]; exact h.2⟩
  | mp k p =>
    have hp : p < m.length := by simpa [Lf.inb0] using hi
    exact ⟨hp, by rw [← t.h p hp]; exact h.2⟩
  | ls p n =>
    have hp : p < m.length := by simpa [Lf.inb0] using hi
    exact ⟨hp, ⟨h.2.1.1, by rw [← t.h p hp]; exact h.2.1.2⟩, fun e sz k cs hm => by rw [← t.h p hp]; exact h.2.2 e sz k cs ((t.arr hp).2 hm)⟩
  | ap p n o =>
    have hp : p < m.length := by simpa [Lf.inb0] using hi
    exact ⟨hp, ⟨h.2.1.1, by rw [← t.h p hp]; exact h.2.1.2⟩, fun e sz k cs hm => by rw [← t.h p hp]; exact h.2.2 e sz k cs ((t.arr hp).2 hm)⟩
  | _ => exact h
omit [Env] in
theorem Tie.down {w : World} {S : Stab} {m M : List Blk} {H H' : Nat → Value} {r : Nat → Nat} (t : Tie m M H H' r) {l : Lf} {v : Value} (hi : l.inbB m.length = true) (h : GRep w S M H' (l.ren r) v) : GRep w S m H l v := by
  have map : ∀ {ls : List Lf} {vs : List Value}, ls.all (Lf.inb0 m.length) = true → LsR (GRep0 w S M H') (ls.map (Lf.ren0 r)) vs → LsR (GRep0 w S m H) ls vs := fun {ls vs} ha hl =>
    ⟨by simpa using hl.1, fun j l v h1 h2 => t.down0 (List.all_eq_true.1 ha l (List.mem_of_getElem? h1)) (hl.2 j _ v (by rw [List.getElem?_map, h1]; rfl) h2)⟩
  cases l with
  | fn f a b =>
    obtain ⟨va, vb, hv, h1, h2⟩ := h
    simp only [Lf.inbB, Bool.and_eq_true] at hi
    exact ⟨va, vb, hv, map hi.1 h1, map hi.2 h2⟩
  | lp p o => exact t.down0 (w := w) (S := S) (l := .lp p o) hi h
  | mp k p => exact t.down0 (w := w) (S := S) (l := .mp k p) hi h
  | ls p n => exact t.down0 (w := w) (S := S) (l := .ls p n) hi h
  | ap p n o => exact t.down0 (w := w) (S := S) (l := .ap p n o) hi h
  | i k n => exact h
  | b x => exact h
  | s x => exact h
  | raw v => exact h
  | sl n cs => exact h
  | cp cs => exact h
  | nix => exact h
  | jk e sz n => exact h
omit [Env] in
theorem lsr_ren {R R' : Lf → Value → Prop} {r : Nat → Nat} {ls : List Lf} {vs : List Value} (hr : ∀ l ∈ ls, ∀ v, R l v → R' (l.ren r) v) (h : LsR R ls vs) : LsR R' (ls.map (Lf.ren r)) vs :=
  ⟨by simpa using h.1, fun j l v h1 h2 => by
    rw [List.getElem?_map] at h1
    cases hj : ls[j]? with
    | none => rw [hj] at h1; cases h1
    | some l0 => rw [hj] at h1; cases h1; exact hr l0 (List.mem_of_getElem? hj) v (h.2 j l0 v hj h2)⟩
omit [Env] in
theorem lsr_unren {R R' : Lf → Value → Prop} {r : Nat → Nat} {ls : List Lf} {vs : List Value} (hr : ∀ l ∈ ls, ∀ v, R' (l.ren r) v → R l v) (h : LsR R' (ls.map (Lf.ren r)) vs) : LsR R ls vs :=
  ⟨by simpa using h.1, fun j l v h1 h2 => hr l (List.mem_of_getElem? h1) v (h.2 j _ v (by rw [List.getElem?_map, h1]; rfl) h2)⟩
omit [Env] in
theorem Tie.svUp {w : World} {S : Stab} {m M : List Blk} {H H' : Nat → Value} {r : Nat → Nat} (t : Tie m M H H' r) {x : SV} {v : Value} (h : SVR (GRep w S m H) x v) : SVR (GRep w S M H') (x.ren r) v := by
  cases x with
  | one l => exact t.up h
  | agg ls =>
    obtain ⟨cs, hv, hl⟩ := h
    exact ⟨cs, hv, lsr_ren (fun l _ v h => t.up h) hl⟩
omit [Env] in
theorem Tie.svDown {w : World} {S : Stab} {m M : List Blk} {H H' : Nat → Value} {r : Nat → Nat} (t : Tie m M H H' r) {x : SV} {v : Value} (hi : x.inbB m.length = true) (h : SVR (GRep w S M H') (x.ren r) v) : SVR (GRep w S m H) x v := by
  cases x with
  | one l => exact t.down hi h
  | agg ls =>
    obtain ⟨cs, hv, hl⟩ := h
    exact ⟨cs, hv, lsr_unren (fun l hl v h => t.down (List.all_eq_true.1 hi l hl) h) hl⟩
omit [Env] in
theorem Tie.avUp {w : World} {S : Stab} {m M : List Blk} {H H' : Nat → Value} {r : Nat → Nat} (t : Tie m M H H' r) {x : AV} {v : Value} (h : AVR (GRep w S m H) x v) : AVR (GRep w S M H') (x.ren r) v := by
  cases x with
  | s x => exact t.svUp h
  | top => trivial
  | tup xs =>
    obtain ⟨vs, hv, hl, hr⟩ := h
    refine ⟨vs, hv, by simpa using hl, fun j x u h1 h2 => ?_⟩
    rw [List.getElem?_map] at h1
    cases hj : xs[j]? with
    | none => rw [hj] at h1; cases h1
    | some x0 => rw [hj] at h1; cases h1; exact t.svUp (hr j x0 u hj h2)
omit [Env] in
theorem Tie.svsDown {w : World} {S : Stab} {m M : List Blk} {H H' : Nat → Value} {r : Nat → Nat} (t : Tie m M H H' r) {xs : List SV} {vs : List Value} (hi : xs.all (SV.inbB m.length) = true) (h : SvsR (GRep w S M H') (xs.map (SV.ren r)) vs) : SvsR (GRep w S m H) xs vs :=
  ⟨by simpa using h.1, fun j x v h1 h2 => t.svDown (List.all_eq_true.1 hi x (List.mem_of_getElem? h1)) (h.2 j _ v (by rw [List.getElem?_map, h1]; rfl) h2)⟩
omit [Env] in
theorem Tie.blkUp {base : Nat} {w : World} {S : Stab} {m M : List Blk} {H H' : Nat → Value} {r : Nat → Nat} (t : Tie m M H H' r) {b : Blk} {v : Value} (h : BlkR base w S m H b v) : BlkR base w S M H' (b.ren r) v := by
  cases b with
  | dead => trivial
  | hole => exact h
  | obj g mk cs => exact h
  | tab mk cs => exact h
  | arr e sz k cs => exact h
  | box cs =>
    obtain ⟨g, e, cur, h1, h2, h3⟩ := h
    exact ⟨g, e, cur, h1, h2, lsr_ren (fun l _ v h => t.up h) h3⟩
omit [Env] in
theorem Tie.blkDown {base : Nat} {w : World} {S : Stab} {m M : List Blk} {H H' : Nat → Value} {r : Nat → Nat} (t : Tie m M H H' r) {b : Blk} {v : Value} (hi : b.inbB m.length = true) (h : BlkR base w S M H' (b.ren r) v) : BlkR base w S m H b v := by
  cases b with
  | dead => trivial
  | hole => exact h
  | obj g mk cs => exact h
  | tab mk cs => exact h
  | arr e sz k cs => exact h
  | box cs =>
    obtain ⟨g, e, cur, h1, h2, h3⟩ := h
    exact ⟨g, e, cur, h1, h2, lsr_unren (fun l hl v h => t.down (List.all_eq_true.1 hi l hl) h) h3⟩
structure Mem (w : World) (S : Stab) (m : List Blk) (H : Nat → Value) : Prop where
  bl : ∀ (p : Nat) (b : Blk), m[p]? = some b → BlkR 0 w S m H b (H p)
  hp : ∀ (p : Nat) (b : Blk) (g : Nat), m[p]? = some b → b.own (H p) = some g → g < w.heap.size
  inj : ∀ (p q : Nat) (b b' : Blk) (g : Nat), m[p]? = some b → m[q]? = some b' → b.own (H p) = some g → b'.own (H q) = some g → p = q
  sb : ∀ (p : Nat) (b : Blk) (g i : Nat), m[p]? = some b → b.own (H p) = some g → S g i → i < b.stab
omit [Env] in
theorem Rel.mem {c : Ctx} {st : AS} {a : Act} {w : World} {S : Stab} {H : Nat → Value} (r : Rel c st a w S H) : Mem w S st.m H := ⟨r.bl, fun p b g h k => (r.lo p b g h k).2, r.inj, r.sb⟩
omit [Env] in
theorem Mem.sel {w : World} {S : Stab} {m M : List Blk} {H H' : Nat → Value} {r : Nat → Nat} (t : Tie m M H H' r) (hi : ∀ b ∈ m, b.inbB m.length = true) (hr : ∀ p q, p < m.length → q < m.length → r p = r q → p = q) (k : Mem w S M H') : Mem w S m H := by
  have hlt : ∀ {p b}, m[p]? = some b → p < m.length := fun h => (List.getElem?_eq_some_iff.1 h).1
  refine ⟨fun p b h => ?_, fun p b g h ho => ?_, fun p q b b' g h h' ho ho' => ?_, fun p b g i h ho hs => ?_⟩
  · have := k.bl _ _ (t.b p b h)
    rw [t.h p (hlt h)] at this
    exact t.blkDown (hi b (List.mem_of_getElem? h)) this
  · exact k.hp _ _ g (t.b p b h) (by rw [t.h p (hlt h), Blk.ren_own]; exact ho)
  · exact hr p q (hlt h) (hlt h') (k.inj _ _ _ _ g (t.b p b h) (t.b q b' h') (by rw [t.h p (hlt h), Blk.ren_own]; exact ho) (by rw [t.h q (hlt h'), Blk.ren_own]; exact ho'))
  · have := k.sb _ _ g i (t.b p b h) (by rw [t.h p (hlt h), Blk.ren_own]; exact ho) hs
    rwa [Blk.ren_stab] at this
def ownX (m : List Blk) (H : Nat → Value) (g : Nat) : Prop := ∃ (p : Nat) (b : Blk), m[p]? = some b ∧ b.own (H p) = some g
structure Kept (m : List Blk) (H : Nat → Value) (m' : List Blk) (H' : Nat → Value) : Prop where
  len : m.length ≤ m'.length
  h : ∀ p g, p < m.length → H p = .pointer (some ⟨g, 0, none⟩) → H' p = H p
  r : ∀ p e sz k cs, p < m.length → m'[p]? = some (.arr e sz k cs) → ∃ k' cs', m[p]? = some (.arr e sz k' cs') ∧ ((cs'.length = cs.length ∧ H' p = H p) ∨ cs'.length < cs.length)
  u : ∀ p, p < m.length → H p ≠ undef → H' p ≠ undef
def CallsB (P : Program) (f : FuncId) (m : List Blk) (args : List SV) (R : AV → List Blk → Prop) : Prop :=
  ∀ (w : World) (S : Stab) (H : Nat → Value) (vs : Array Value), InH w S → Mem w S m H → SvsR (GRep w S m H) args vs.toList →
    CallsK P f vs w fun e w' => ∃ v x m' S' H', e = .returned v ∧ R x m' ∧ ExtX (ownX m H) w S w' S' ∧ InH w' S' ∧ Mem w' S' m' H' ∧
      (∀ (p : Nat) (b : Blk) (g : Nat), m'[p]? = some b → b.own (H' p) = some g → w.heap.size ≤ g ∨ ownX m H g) ∧ Kept m H m' H' ∧ AVR (GRep w' S' m' H') x v
theorem CallsB.mono {P : Program} [Nice P] {f : FuncId} {m : List Blk} {args : List SV} {R R' : AV → List Blk → Prop} (h : CallsB P f m args R) (hr : ∀ x m', R x m' → R' x m') : CallsB P f m args R' :=
  fun w S H vs hS hm hv => (h w S H vs hS hm hv).mono fun _ _ ⟨v, x, m', S', H', h1, h2, h3⟩ => ⟨v, x, m', S', H', h1, hr x m' h2, h3⟩
def at_ (ps : List Nat) (j : Nat) : Nat := ps.getD j 0
def DoneB (P : Program) (fn : Func) (k : Nat) (R : AV → List Blk → Prop) (e : Exit) (st : AS) : Prop :=
  (e = .normal ∨ e = .ret) ∧ ∃ xs ps ys m', ResVs P st fn.results.toList xs ∧ xs = ys.map (SV.ren (at_ ps)) ∧ ps.map (fun p => st.m[p]?) = m'.map (fun b => some (b.ren (at_ ps))) ∧
    (ps.Nodup ∧ ps.take k = List.range k) ∧ ys.all (SV.inbB m'.length) = true ∧ m'.all (Blk.inbB m'.length) = true ∧ R (resOf ys) m'
omit [Env] in
theorem map_get {α β γ : Type} {f : α → γ} {g : β → γ} {xs : List α} {ys : List β} (h : xs.map f = ys.map g) : xs.length = ys.length ∧ ∀ (j : Nat) (y : β), ys[j]? = some y → ∃ x, xs[j]? = some x ∧ f x = g y := by
  have hl : xs.length = ys.length := by simpa using congrArg List.length h
  refine ⟨hl, fun j y hy => ?_⟩
  have hj : j < xs.length := by rw [hl]; exact (List.getElem?_eq_some_iff.1 hy).1
  refine ⟨xs[j], List.getElem?_eq_getElem hj, ?_⟩
  have := congrArg (fun l => l[j]?) h
  simp only [List.getElem?_map, hy, List.getElem?_eq_getElem hj, Option.map_some, Option.some.injEq] at this
  exact this
omit [Env] in
theorem nodup_inj {ps : List Nat} (h : ps.Nodup) {i j x : Nat} (hi : ps[i]? = some x) (hj : ps[j]? = some x) : i = j := by
  have hi' := (List.getElem?_eq_some_iff.1 hi).1
  have hj' := (List.getElem?_eq_some_iff.1 hj).1
  have e1 := (List.getElem?_eq_some_iff.1 hi).2
  have e2 := (List.getElem?_eq_some_iff.1 hj).2
  exact (List.getElem_inj h).1 (e1.trans e2.symm)
omit [Env] in
theorem resOf_rel {R : Lf → Value → Prop} {us : List Value} {ys : List SV} (h1 : SvsR R ys us) : AVR R (resOf ys) (if h : us.toArray.size = 1 then us.toArray[0] else .tuple us.toArray) := by
  match us, ys, h1 with
  | [u], [y], h1 => exact h1.2 0 y u rfl rfl
  | [u], [], h1 => have := h1.1; simp at this
  | [u], _ :: _ :: _, h1 => have := h1.1; simp at this
  | [], [], h1 => exact ⟨#[], rfl, rfl, fun j x u hx => by simp at hx⟩
  | [], _ :: _, h1 => have := h1.1; simp at this
  | _ :: _ :: _, [], h1 => have := h1.1; simp at this
  | _ :: _ :: _, [y], h1 => have := h1.1; simp at this
  | u1 :: u2 :: us, y1 :: y2 :: ys, h1 => exact ⟨(u1 :: u2 :: us).toArray, by simp, by simpa using h1.1, fun j x u hx hu => h1.2 j x u hx (by simpa using hu)⟩
omit [Env] in
theorem results_runB {P : Program} [Nice P] {c : Ctx} {st : AS} {a : Act} {w : World} {S : Stab} {H : Nat → Value} (r : Rel c st a w S H) {fn : Func} {xs : List SV} (h : ResVs P st fn.results.toList xs) :
    ∃ us : List Value, SvsR (GRep w S st.m H) xs us ∧ (results fn a.tmps).run P w = .ok (if h : us.toArray.size = 1 then us.toArray[0] else .tuple us.toArray) w := by
  obtain ⟨us, hl, hs, hr⟩ := resVs_run r h
  have hm : (fn.results.mapM (rvSem a.tmps)).run P w = .ok us.toArray w := by
    have := run_mapM_list (P := P) (rvSem a.tmps) w fn.results.toList us hl hr
    rw [Array.mapM_eq_mapM_toList]
    simp only [Sem.run_map, this, Result.andThen_ok]
  refine ⟨us, hs, ?_⟩
  rw [results_eq, Sem.run_bind, hm]
  rfl
theorem callsB_of {P : Program} [Nice P] {f : FuncId} {fn : Func} {body : Code} {m : List Blk} {args : List SV} {R : AV → List Blk → Prop} (hf : P.funcs[f]? = some fn) (hb : fn.body = some body) {nt : Nat} (hnt : fn.ntmps = nt) (hn : args.length ≤ nt)
    (h : ∀ w0 S0 X H0, AWC P ⟨w0, S0, nt, X, m, H0⟩ body (DoneB P fn m.length R) ⟨argT args, m⟩) (hok : OkE body := by first | exact ⟨by kernel_rfl, fun h => noFr h⟩ | exact ⟨by kernel_rfl, fun _ => by kernel_rfl⟩) : CallsB P f m args R := by
  subst hnt
  intro w S H vs hS hM hv
  refine calls_of_wpK hf hb hok ?_
  have hlen : vs.size = args.length := by have := hv.1; simp at this; omega
  have hget : ∀ i, (vs ++ Array.replicate (fn.ntmps - vs.size) undef).getD i undef = vs.getD i undef := by
    intro i
    simp only [Array.getD_eq_getD_getElem?, Array.getElem?_append]
    split
    · rfl
    · rename_i hi
      rw [Array.getElem?_replicate]
      have : vs[i]? = none := Array.getElem?_eq_none (by omega)
      rw [this]
      split <;> rfl
  have r0 : Rel ⟨w, S, fn.ntmps, ownX m H, m, H⟩ ⟨argT args, m⟩ { tmps := vs ++ Array.replicate (fn.ntmps - vs.size) undef, defers := [] } w S H := by
    refine ⟨by simp; omega, rfl, fun i => ?_, hM.bl, fun p b g h ho => ⟨.inr ⟨p, b, h, ho⟩, hM.hp p b g h ho⟩, hM.inj, hM.sb, hS, ExtX.refl _ w S, Nat.le_refl _, fun p g _ _ => rfl, fun p e sz k cs _ h => ⟨k, cs, h, .inl ⟨rfl, rfl⟩⟩, fun p _ h => h⟩
    rw [hget]
    show AVR _ (match args[i]? with | some x => .s x | none => .tup []) _
    cases ha : args[i]? with
    | none =>
      have : vs[i]? = none := Array.getElem?_eq_none (by rw [hlen]; exact List.getElem?_eq_none_iff.1 ha)
      simp only [Array.getD_eq_getD_getElem?, this, Option.getD_none]
      exact avr_undef
    | some x =>
      have hi : i < args.length := (List.getElem?_eq_some_iff.1 ha).1
      have hi' : i < vs.size := by omega
      have : vs[i]? = some vs[i] := Array.getElem?_eq_getElem hi'
      simp only [Array.getD_eq_getD_getElem?, this, Option.getD_some]
      exact hv.2 i x _ ha (by simp)
  refine wpK_mono (h w S _ _ _ _ _ _ r0) ?_
  rintro e a w0 hq w1 d0
  replace hq := QR.atw d0 hq
  clear d0
  revert hq
  rintro ⟨st, S1, H1, r, he, xs, ps, ys, m', hx, hxy, hps, ⟨hnd, htk⟩, hiy, him, hR⟩
  obtain ⟨us, hus, hrun⟩ := results_runB r hx
  obtain ⟨hpl, hpg⟩ := map_get hps
  have hat : ∀ {j p : Nat}, ps[j]? = some p → at_ ps j = p := fun {j p} h => by simp [at_, List.getD, h]
  have tie : Tie m' st.m (fun p => H1 (at_ ps p)) H1 (at_ ps) := by
    refine ⟨fun p hp => ?_, fun p _ => rfl, fun p b hb => ?_⟩
    · obtain ⟨q, hq, hb⟩ := hpg p _ (List.getElem?_eq_getElem hp)
      rw [hat hq]
      exact (List.getElem?_eq_some_iff.1 hb).1
    · obtain ⟨q, hq, hb'⟩ := hpg p b hb
      rw [hat hq]
      exact hb'
  have hinj : ∀ p q, p < m'.length → q < m'.length → at_ ps p = at_ ps q → p = q := by
    intro p q hp hq e
    have h1 : ps[p]? = some (at_ ps p) := by rw [List.getElem?_eq_getElem (by omega)]; simp [at_, List.getD, List.getElem?_eq_getElem (show p < ps.length by omega)]
    have h2 : ps[q]? = some (at_ ps p) := by rw [e, List.getElem?_eq_getElem (by omega)]; simp [at_, List.getD, List.getElem?_eq_getElem (show q < ps.length by omega)]
    exact nodup_inj hnd h1 h2
  have hmem := Mem.sel tie (List.all_eq_true.1 him) hinj r.mem
  have hkk : ∀ p, p < m.length → at_ ps p = p ∧ p < m'.length := by
    intro p hp
    have h1 : (ps.take m.length)[p]? = some p := by rw [htk]; simp [hp]
    rw [List.getElem?_take, if_pos hp] at h1
    exact ⟨hat h1, by rw [← hpl]; exact (List.getElem?_eq_some_iff.1 h1).1⟩
  have hml : m.length ≤ m'.length := by
    rcases Nat.eq_zero_or_pos m.length with h0 | h0
    · omega
    · have := (hkk (m.length - 1) (by omega)).2; omega
  have hkept : Kept m H m' (fun p => H1 (at_ ps p)) := by
    refine ⟨hml, fun p g hp hH => ?_, fun p e sz k cs hp hm => ?_, fun p hp hne => by show H1 (at_ ps p) ≠ undef; rw [(hkk p hp).1]; exact r.ku p hp hne⟩
    · show H1 (at_ ps p) = H p
      rw [(hkk p hp).1]
      exact r.kh p g hp hH
    · show ∃ k' cs', m[p]? = some (.arr e sz k' cs') ∧ ((cs'.length = cs.length ∧ H1 (at_ ps p) = H p) ∨ cs'.length < cs.length)
      rw [(hkk p hp).1]
      have hm2 := tie.b p _ hm
      rw [(hkk p hp).1] at hm2
      exact r.kr p e sz k cs hp hm2
  have hav : AVR (GRep w1 S1 m' (fun p => H1 (at_ ps p))) (resOf ys) (if h : us.toArray.size = 1 then us.toArray[0] else .tuple us.toArray) := by
    subst hxy
    exact resOf_rel (tie.svsDown hiy hus)
  have hown : ∀ (p : Nat) (b : Blk) (g : Nat), m'[p]? = some b → b.own (H1 (at_ ps p)) = some g → w.heap.size ≤ g ∨ ownX m H g := fun p b g hb ho => (r.lo _ _ g (tie.b p b hb) (by rw [Blk.ren_own]; exact ho)).1
  rcases he with rfl | rfl
  · exact ⟨r.df, _, hrun, _, rfl, _, _, _, _, _, rfl, hR, r.ex, r.sl, hmem, hown, hkept, hav⟩
  · exact ⟨r.df, _, hrun, _, rfl, _, _, _, _, _, rfl, hR, r.ex, r.sl, hmem, hown, hkept, hav⟩
end Go.Proofs.Ytnphcnhejgpjgaa.Abs
end
section
namespace Go.Proofs.Ytnphcnhejgpjgaa.Abs
open Go.Proofs.Ytnphcnhejgpjgaa.Co
variable [Env]
open Go.RowKit
def rho (ps : List Nat) (n j : Nat) : Nat := match ps[j]? with | some p => p | none => n + (j - ps.length)
def setAll (M : List Blk) : List Nat → List Blk → List Blk
  | p :: ps, b :: bs => setAll (M.set p b) ps bs
  | [], bs => M ++ bs
  | _ :: _, [] => M
omit [Env] in
theorem setAll_get : ∀ {ps : List Nat} {bs M : List Blk}, ps.Nodup → (∀ p ∈ ps, p < M.length) → ps.length ≤ bs.length →
    (∀ (j p : Nat), ps[j]? = some p → (setAll M ps bs)[p]? = bs[j]?) ∧ (∀ q, q < M.length → q ∉ ps → (setAll M ps bs)[q]? = M[q]?) ∧ (∀ j, (setAll M ps bs)[M.length + j]? = bs[ps.length + j]?) ∧ (setAll M ps bs).length = M.length + (bs.length - ps.length)
  | [], bs, M, _, _, _ => by
    refine ⟨fun j p h => by simp at h, fun q hq _ => by simp [setAll, List.getElem?_append_left hq], fun j => by rw [setAll, List.getElem?_append_right (by omega)]; simp, by simp [setAll]⟩
  | p :: ps, [], M, _, _, h => by simp at h
  | p :: ps, b :: bs, M, hnd, hlt, hl => by
    have hnd' := List.nodup_cons.1 hnd
    obtain ⟨h1, h2, h3, h4⟩ := setAll_get (ps := ps) (bs := bs) (M := M.set p b) hnd'.2 (fun q hq => by simpa using hlt q (List.mem_cons_of_mem _ hq)) (by simpa using hl)
    have hp : p < M.length := hlt p (List.mem_cons_self ..)
    refine ⟨fun j q hj => ?_, fun q hq hn => ?_, fun j => ?_, ?_⟩
    · cases j with
      | zero =>
        simp only [List.getElem?_cons_zero, Option.some.injEq] at hj
        subst hj
        show (setAll (M.set p b) ps bs)[p]? = _
        rw [h2 p (by simpa using hp) hnd'.1]
        simp [hp]
      | succ j => exact h1 j q (by simpa using hj)
    · simp only [List.mem_cons, not_or] at hn
      show (setAll (M.set p b) ps bs)[q]? = _
      rw [h2 q (by simpa using hq) hn.2, List.getElem?_set_ne (fun e => hn.1 e.symm)]
    · have := h3 j
      simp only [List.length_set] at this
      show (setAll (M.set p b) ps bs)[M.length + j]? = _
      rw [this]
      simp only [List.length_cons]
      rw [show ps.length + 1 + j = (ps.length + j) + 1 by omega, List.getElem?_cons_succ]
    · show (setAll (M.set p b) ps bs).length = _
      rw [h4]
      simp
inductive Cal (st : AS) : Operand → FuncId → List Lf → List Lf → Prop
  | func (f : FuncId) : Cal st (.func f) f [] []
  | fn (x : Operand) (f : FuncId) (la lb : List Lf) (h : opnd st x = .s (.one (.fn f la lb))) : Cal st x f la lb
  | raw (x : Operand) (f : FuncId) (h : opnd st x = .s (.one (.raw (.func (.func f) #[] #[])))) : Cal st x f [] []
omit [Env] in
theorem Cal.val {c : Ctx} {st : AS} {a : Act} {w : World} {S : Stab} {H : Nat → Value} (r : Rel c st a w S H) {x : Operand} {f : FuncId} {la lb : List Lf} (h : Cal st x f la lb) :
    ∃ va vb, a.eval x = .func (.func f) va vb ∧ LsR (GRep0 w S st.m H) la va.toList ∧ LsR (GRep0 w S st.m H) lb vb.toList := by
  cases h with
  | func => exact ⟨#[], #[], rfl, ⟨rfl, fun j l v h => by simp at h⟩, ⟨rfl, fun j l v h => by simp at h⟩⟩
  | fn _ _ _ _ h =>
    have := opnd_rel r x
    rw [h] at this
    exact this
  | raw _ _ h =>
    have := opnd_rel r x
    rw [h] at this
    exact ⟨#[], #[], rep_raw this, ⟨rfl, fun j l v h => by simp at h⟩, ⟨rfl, fun j l v h => by simp at h⟩⟩
omit [Env] in
theorem GRep0.up {w : World} {S : Stab} {m : List Blk} {H : Nat → Value} {l : Lf} {v : Value} (h : GRep0 w S m H l v) : GRep w S m H l v := by
  cases l with
  | fn f a b => exact GRep.of_rep h
  | lp p o => exact h
  | mp k p => exact h
  | ls p n => exact h
  | ap p n o => exact h
  | i k n => exact h
  | b x => exact h
  | s x => exact h
  | raw v => exact h
  | sl n cs => exact h
  | cp cs => exact h
  | nix => exact h
  | jk e sz n => exact h
omit [Env] in
theorem ExtX.trans2 {X Y : Nat → Prop} {w w' w'' : World} {S S' S'' : Stab} (h : ExtX X w S w' S') (k : ExtX Y w' S' w'' S'') (hY : ∀ b, b < w.heap.size → ¬ X b → ¬ Y b) : ExtX X w S w'' S'' :=
  ⟨k.os.trans h.os, k.tape.trans h.tape, k.output.trans h.output, Nat.le_trans h.size k.size,
   fun b hb hx => (k.blk b (Nat.lt_of_lt_of_le hb h.size) (hY b hb hx)).trans (h.blk b hb hx), fun b i hs => k.sub b i (h.sub b i hs),
   fun b i hs => (k.stab b i (h.sub b i hs)).trans (h.stab b i hs),
   fun b i hb hx hs => h.back b i hb hx (k.back b i (Nat.lt_of_lt_of_le hb h.size) (hY b hb hx) hs)⟩
open Classical in
noncomputable def hAll (ps : List Nat) (n : Nat) (Hc H' : Nat → Value) (q : Nat) : Value :=
  if h : ∃ j : Nat, ps[j]? = some q then H' (Classical.choose h) else if q < n then Hc q else H' (ps.length + (q - n))
theorem callB_step {P : Program} [Nice P] {c : Ctx} {t : Nat → AV} {M : List Blk} {a : Act} {w : World} {S : Stab} {Hc : Nat → Value} (r : Rel c ⟨t, M⟩ a w S Hc) {f : FuncId} {m : List Blk} {ys : List SV} {R : AV → List Blk → Prop} (hc : CallsB P f m ys R) {vs : Array Value} {ps : List Nat}
    (hxs : SvsR (GRep w S M Hc) (ys.map (SV.ren (rho ps M.length))) vs.toList) (hps : ps.map (fun p => M[p]?) = m.map (fun b => some (b.ren (rho ps M.length)))) (hnd : ps.Nodup) (hiy : ys.all (SV.inbB m.length) = true) (him : m.all (Blk.inbB m.length) = true) :
    CallsK P f vs w fun e w' => ∃ v x m' S' H', e = .returned v ∧ R x m' ∧ Rel c ⟨t, setAll M ps (m'.map (Blk.ren (rho ps M.length)))⟩ a w' S' H' ∧ AVR (GRep w' S' (setAll M ps (m'.map (Blk.ren (rho ps M.length)))) H') (x.ren (rho ps M.length)) v := by
  obtain ⟨hpl, hpg⟩ := map_get hps
  generalize hn : M.length = n at *
  have hr : ∀ {j p : Nat}, ps[j]? = some p → rho ps n j = p := fun {j p} h => by simp [rho, h]
  have hr2 : ∀ {j : Nat}, ps.length ≤ j → rho ps n j = n + (j - ps.length) := fun {j} h => by simp [rho, List.getElem?_eq_none h]
  have hplt : ∀ {j p : Nat}, ps[j]? = some p → p < n := fun {j p} h => by
    have hj : j < m.length := by rw [← hpl]; exact (List.getElem?_eq_some_iff.1 h).1
    obtain ⟨q, hq, hb⟩ := hpg j _ (List.getElem?_eq_getElem hj)
    rw [h] at hq; cases hq
    rw [← hn]
    exact (List.getElem?_eq_some_iff.1 hb).1
  have tie : Tie m M (fun j => Hc (rho ps n j)) Hc (rho ps n) := by
    refine ⟨fun p hp => ?_, fun p _ => rfl, fun p b hb => ?_⟩
    · obtain ⟨q, hq, hb⟩ := hpg p _ (List.getElem?_eq_getElem hp)
      rw [hr hq, hn]; exact hplt hq
    · obtain ⟨q, hq, hb'⟩ := hpg p b hb
      rw [hr hq]
      exact hb'
  have hget : ∀ {j}, j < ps.length → ps[j]? = some (rho ps n j) := fun {j} h => by
    have := List.getElem?_eq_getElem h
    rw [this, hr this]
  have hinj : ∀ p q, rho ps n p = rho ps n q → p = q := by
    intro p q e
    rcases Nat.lt_or_ge p ps.length with hp | hp <;> rcases Nat.lt_or_ge q ps.length with hq | hq
    · exact nodup_inj hnd (hget hp) (by rw [e]; exact hget hq)
    · have := hplt (hget hp); rw [e, hr2 hq] at this; omega
    · have := hplt (hget hq); rw [← e, hr2 hp] at this; omega
    · rw [hr2 hp, hr2 hq] at e; omega
  have mem := Mem.sel tie (List.all_eq_true.1 him) (fun p q _ _ => hinj p q) r.mem
  refine (hc w S _ vs r.sl mem (tie.svsDown hiy hxs)).mono ?_
  rintro e w' ⟨v, x, m', S', H', he, hR, ext, hin, mem', hown', kept, hav⟩
  refine ⟨v, x, m', S', hAll ps n Hc H', he, hR, ?_⟩
  have hpl' : ps.length ≤ (m'.map (Blk.ren (rho ps n))).length := by simp; rw [hpl]; exact kept.len
  obtain ⟨g1, g2, g3, g4⟩ := setAll_get (ps := ps) (bs := m'.map (Blk.ren (rho ps n))) (M := M) hnd (fun p hp => by
    obtain ⟨j, hj, hjp⟩ := List.getElem_of_mem hp
    rw [hn]; exact hplt (by rw [List.getElem?_eq_getElem hj, hjp])) hpl'
  rw [hn] at g2 g3 g4
  generalize hM' : setAll M ps (m'.map (Blk.ren (rho ps n))) = M' at *
  have hmp : ps.length ≤ m'.length := by simpa using hpl'
  simp only [List.length_map] at g4
  have hH1 : ∀ j, hAll ps n Hc H' (rho ps n j) = H' j := by
    intro j
    unfold hAll
    rcases Nat.lt_or_ge j ps.length with hj | hj
    · have hex : ∃ j' : Nat, ps[j']? = some (rho ps n j) := ⟨j, hget hj⟩
      rw [dif_pos hex, nodup_inj hnd (Classical.choose_spec hex) (hget hj)]
    · rw [dif_neg, if_neg (by rw [hr2 hj]; omega), hr2 hj]
      · congr 1; omega
      · rintro ⟨j', h⟩
        have := hplt h
        rw [hr2 hj] at this; omega
  have hH2 : ∀ q, q < n → (∀ j : Nat, ps[j]? ≠ some q) → hAll ps n Hc H' q = Hc q := by
    intro q hq hne
    unfold hAll
    rw [dif_neg (fun ⟨j, h⟩ => hne j h), if_pos hq]
  have tie' : Tie m' M' H' (hAll ps n Hc H') (rho ps n) := by
    have hb : ∀ p b, m'[p]? = some b → M'[rho ps n p]? = some (b.ren (rho ps n)) := by
      intro p b hb
      rcases Nat.lt_or_ge p ps.length with hp | hp
      · rw [g1 p _ (hget hp), List.getElem?_map, hb]; rfl
      · rw [hr2 hp, g3, show ps.length + (p - ps.length) = p by omega, List.getElem?_map, hb]; rfl
    exact ⟨fun p hp => (List.getElem?_eq_some_iff.1 (hb p _ (List.getElem?_eq_getElem hp))).1, fun p _ => hH1 p, hb⟩
  have cls : ∀ (q : Nat) (b : Blk), M'[q]? = some b → (∃ j b0, m'[j]? = some b0 ∧ q = rho ps n j ∧ b = b0.ren (rho ps n)) ∨ (q < n ∧ (∀ j : Nat, ps[j]? ≠ some q) ∧ M[q]? = some b) := by
    intro q b hb
    have hq := (List.getElem?_eq_some_iff.1 hb).1
    rw [g4] at hq
    have old : ∀ j, j < m'.length → q = rho ps n j → ∃ j b0, m'[j]? = some b0 ∧ q = rho ps n j ∧ b = b0.ren (rho ps n) := by
      intro j hj e
      refine ⟨j, m'[j], List.getElem?_eq_getElem hj, e, ?_⟩
      have := tie'.b j _ (List.getElem?_eq_getElem hj)
      rw [← e, hb] at this
      exact Option.some.inj this
    by_cases hex : ∃ j : Nat, ps[j]? = some q
    · obtain ⟨j, hj⟩ := hex
      have hjl := (List.getElem?_eq_some_iff.1 hj).1
      exact .inl (old j (by omega) (hr hj).symm)
    · have hne : ∀ j : Nat, ps[j]? ≠ some q := fun j h => hex ⟨j, h⟩
      rcases Nat.lt_or_ge q n with h | h
      · refine .inr ⟨h, hne, ?_⟩
        rw [← g2 q h (fun hm => by obtain ⟨j, hj, hjp⟩ := List.getElem_of_mem hm; exact hne j (by rw [List.getElem?_eq_getElem hj, hjp]))]
        exact hb
      · exact .inl (old (ps.length + (q - n)) (by omega) (by rw [hr2 (by omega)]; omega))
  have hnX : ∀ (q : Nat) (b : Blk) (g : Nat), (∀ j : Nat, ps[j]? ≠ some q) → M[q]? = some b → b.own (Hc q) = some g → ¬ ownX m (fun j => Hc (rho ps n j)) g := by
    rintro q b g hne hb ho ⟨j, b1, h1, h2⟩
    have e := r.inj q (rho ps n j) b _ g hb (tie.b j b1 h1) ho (by rw [Blk.ren_own]; exact h2)
    have hj : j < ps.length := by rw [hpl]; exact (List.getElem?_eq_some_iff.1 h1).1
    exact hne j (by rw [e]; exact hget hj)
  have hX : ∀ g, ownX m (fun j => Hc (rho ps n j)) g → c.w0.heap.size ≤ g ∨ c.X g := by
    rintro g ⟨j, b1, h1, h2⟩
    exact (r.lo _ _ g (tie.b j b1 h1) (by rw [Blk.ren_own]; exact h2)).1
  have hkp : ∀ b i, S b i → S' b i ∧ w'.cell? ⟨b, i, none⟩ = w.cell? ⟨b, i, none⟩ := fun b i hs => ⟨ext.sub b i hs, ext.stab b i hs⟩
  have hHp : ∀ p g, p < n → Hc p = .pointer (some ⟨g, 0, none⟩) → hAll ps n Hc H' p = Hc p := by
    intro p g hp hg
    by_cases hex : ∃ j : Nat, ps[j]? = some p
    · obtain ⟨j, hj⟩ := hex
      have hjm : j < m.length := by rw [← hpl]; exact (List.getElem?_eq_some_iff.1 hj).1
      have h1 := kept.h j g hjm (by show Hc (rho ps n j) = _; rw [hr hj]; exact hg)
      have h2 := hH1 j
      rw [hr hj] at h2
      rw [h2, h1]
      show Hc (rho ps n j) = _
      rw [hr hj]
    · exact hH2 p hp (fun j h => hex ⟨j, h⟩)
  have harr : ∀ p e sz k cs, p < n → M'[p]? = some (.arr e sz k cs) → ∃ k' cs', M[p]? = some (.arr e sz k' cs') ∧ ((cs'.length = cs.length ∧ hAll ps n Hc H' p = Hc p) ∨ cs'.length < cs.length) := by
    intro p e sz k cs hp hm
    by_cases hex : ∃ j : Nat, ps[j]? = some p
    · obtain ⟨j, hj⟩ := hex
      have hjm : j < m.length := by rw [← hpl]; exact (List.getElem?_eq_some_iff.1 hj).1
      have hm' : m'[j]? = some (.arr e sz k cs) := (tie'.arr (Nat.lt_of_lt_of_le hjm kept.len)).1 (by rw [hr hj]; exact hm)
      obtain ⟨k', cs', h1, h2⟩ := kept.r j e sz k cs hjm hm'
      have h3 := tie.b j _ h1
      rw [hr hj] at h3
      refine ⟨k', cs', h3, ?_⟩
      have h4 := hH1 j
      rw [hr hj] at h4
      rw [h4]
      rcases h2 with ⟨h2, h5⟩ | h2
      · refine .inl ⟨h2, ?_⟩
        rw [h5]
        show Hc (rho ps n j) = _
        rw [hr hj]
      · exact .inr h2
    · have hne : ∀ j : Nat, ps[j]? ≠ some p := fun j h => hex ⟨j, h⟩
      rcases cls p _ hm with ⟨j, b0, h1, h2, h3⟩ | ⟨_, _, h3⟩
      · rcases Nat.lt_or_ge j ps.length with hj | hj
        · exact absurd (by rw [h2]; exact hget hj) (hne j)
        · rw [hr2 hj] at h2; omega
      · exact ⟨k, cs, h3, .inl ⟨rfl, hH2 p hp hne⟩⟩
  have hun : ∀ p, p < n → Hc p ≠ undef → hAll ps n Hc H' p ≠ undef := by
    intro p hp hne0
    by_cases hex : ∃ j : Nat, ps[j]? = some p
    · obtain ⟨j, hj⟩ := hex
      have hjm : j < m.length := by rw [← hpl]; exact (List.getElem?_eq_some_iff.1 hj).1
      have h1 := kept.u j hjm (by show Hc (rho ps n j) ≠ _; rw [hr hj]; exact hne0)
      have h2 := hH1 j
      rw [hr hj] at h2
      rw [h2]; exact h1
    · rw [hH2 p hp (fun j h => hex ⟨j, h⟩)]; exact hne0
  have hgr : ∀ l u, GRep w S M Hc l u → GRep w' S' M' (hAll ps n Hc H') l u := fun l u => GRep.mono2 hkp (by rw [hn, g4]; omega) (fun p g hp => hHp p g (by rw [← hn]; exact hp)) (fun p hp => hun p (by rw [← hn]; exact hp)) (fun p e sz k cs hp => harr p e sz k cs (by rw [← hn]; exact hp))
  refine ⟨⟨r.nt, r.df, fun i => AVR.mono hgr (r.tm i), fun q b hb => ?_, fun q b g hb ho => ?_, fun q q' b b' g hb hb' ho ho' => ?_, fun q b g i hb ho hs => ?_, hin, ?_, ?_, fun p g hp hh => ?_, fun p e sz k cs hp hm => ?_, fun p hp hne0 => hun p (by have h9 : c.m0.length ≤ M.length := r.kl; omega) (r.ku p hp hne0)⟩, tie'.avUp hav⟩
  · rcases cls q b hb with ⟨j, b0, h1, rfl, rfl⟩ | ⟨h1, h2, h3⟩
    · rw [hH1]
      exact tie'.blkUp (mem'.bl j b0 h1)
    · rw [hH2 q h1 h2]
      have hbr := r.bl q b h3
      have hsame : ∀ g, b.own (Hc q) = some g → w'.heap[g]? = w.heap[g]? := fun g ho => ext.blk g (r.lo q b g h3 ho).2 (hnX q b g h2 h3 ho)
      cases b with
      | dead => trivial
      | hole => exact hbr
      | obj g mk cs =>
        obtain ⟨k1, vs, o, k2, k3, k4, k5⟩ := hbr
        exact ⟨k1, vs, o, (hsame g (by rw [k1]; rfl)).trans k2, k3, k4, k5.mono (fun l v => Rep.mono hkp)⟩
      | tab mk cs =>
        obtain ⟨g, k1, vs, o, k2, k3, k4, k5⟩ := hbr
        exact ⟨g, k1, vs, o, (hsame g (by rw [k1]; rfl)).trans k2, k3, k4, k5.mono (fun l v => Rep.mono hkp)⟩
      | box cs =>
        obtain ⟨g, e, cur, k1, k2, k3⟩ := hbr
        exact ⟨g, e, cur, k1, (hsame g (by rw [k1]; rfl)).trans k2, k3.mono hgr⟩
      | arr e sz k cs =>
        obtain ⟨h0, hk1, nn, vals, k1, k2, k3⟩ := hbr
        exact ⟨h0, hk1, nn, vals, ownsRow_of_block k1 (fun g hg => hsame g hg), k2.mono (fun l v => Rep.mono hkp), fun g hg i hi => ext.sub g i (k3 g hg i hi)⟩
  · rcases cls q b hb with ⟨j, b0, h1, rfl, rfl⟩ | ⟨h1, h2, h3⟩
    · rw [hH1, Blk.ren_own] at ho
      refine ⟨?_, mem'.hp j b0 g h1 ho⟩
      rcases hown' j b0 g h1 ho with h | h
      · exact .inl (Nat.le_trans r.ex.size h)
      · exact hX g h
    · rw [hH2 q h1 h2] at ho
      have := r.lo q b g h3 ho
      exact ⟨this.1, Nat.lt_of_lt_of_le this.2 ext.size⟩
  · have mixed : ∀ (j : Nat) (b0 : Blk) (q : Nat) (b : Blk), m'[j]? = some b0 → b0.own (H' j) = some g → (∀ j : Nat, ps[j]? ≠ some q) → M[q]? = some b → b.own (Hc q) = some g → False := by
      intro j b0 q b h1 h2 h3 h4 h5
      rcases hown' j b0 g h1 h2 with h | h
      · have := (r.lo q b g h4 h5).2; omega
      · exact hnX q b g h3 h4 h5 h
    rcases cls q b hb with ⟨j, b0, h1, rfl, rfl⟩ | ⟨h1, h2, h3⟩ <;> rcases cls q' b' hb' with ⟨j', b0', h1', rfl, rfl⟩ | ⟨h1', h2', h3'⟩
    · rw [hH1, Blk.ren_own] at ho ho'
      rw [mem'.inj j j' b0 b0' g h1 h1' ho ho']
    · rw [hH1, Blk.ren_own] at ho
      rw [hH2 q' h1' h2'] at ho'
      exact (mixed j b0 q' b' h1 ho h2' h3' ho').elim
    · rw [hH1, Blk.ren_own] at ho'
      rw [hH2 q h1 h2] at ho
      exact (mixed j' b0' q b h1' ho' h2 h3 ho).elim
    · rw [hH2 q h1 h2] at ho
      rw [hH2 q' h1' h2'] at ho'
      exact r.inj q q' b b' g h3 h3' ho ho'
  · rcases cls q b hb with ⟨j, b0, h1, rfl, rfl⟩ | ⟨h1, h2, h3⟩
    · rw [hH1, Blk.ren_own] at ho
      rw [Blk.ren_stab]
      exact mem'.sb j b0 g i h1 ho hs
    · rw [hH2 q h1 h2] at ho
      exact r.sb q b g i h3 ho (ext.back g i (r.lo q b g h3 ho).2 (hnX q b g h2 h3 ho) hs)
  · refine r.ex.trans2 ext (fun b hb hx hX' => ?_)
    rcases hX b hX' with h | h
    · omega
    · exact hx h
  · have := r.kl
    simp only [hn] at this
    show c.m0.length ≤ M'.length
    omega
  · have h1 := r.kh p g hp hh
    rw [← h1]
    have := r.kl
    simp only [hn] at this
    exact hHp p g (by omega) (h1.trans hh)
  · have hkl := r.kl
    simp only [hn] at hkl
    obtain ⟨k1, cs1, h1, h2⟩ := harr p e sz k cs (by omega) hm
    obtain ⟨k2, cs2, h3, h4⟩ := r.kr p e sz k1 cs1 hp h1
    refine ⟨k2, cs2, h3, ?_⟩
    rcases h2 with ⟨h2, hv⟩ | h2 <;> rcases h4 with ⟨h4, hv4⟩ | h4
    · exact .inl ⟨h4.trans h2, hv.trans hv4⟩
    · exact .inr (by omega)
    · exact .inr (by omega)
    · exact .inr (by omega)
end Go.Proofs.Ytnphcnhejgpjgaa.Abs
end
section
namespace Go.Proofs.Ytnphcnhejgpjgaa.Abs
open Go.Proofs.Ytnphcnhejgpjgaa.Co
variable [Env]
open Go.RowKit
section
variable {P : Program} [Nice P] {c : Ctx} {t : Nat → AV} {M : List Blk} {ops : Array Oper} {Q : Exit → AS → Prop} {rest : List Oper} {ty : TypeId} {pos : String} {af : Array Edge} {d : Tmp}
omit [Env] in
theorem svs_append {R : Lf → Value → Prop} {xs ys : List SV} {us vs : List Value} (h : SvsR R xs us) (k : SvsR R ys vs) : SvsR R (xs ++ ys) (us ++ vs) := by
  refine ⟨by simp [h.1, k.1], fun j x v h1 h2 => ?_⟩
  by_cases hj : j < xs.length
  · rw [List.getElem?_append_left hj] at h1
    rw [List.getElem?_append_left (by rw [← h.1]; exact hj)] at h2
    exact h.2 j x v h1 h2
  · rw [List.getElem?_append_right (by omega)] at h1
    rw [List.getElem?_append_right (by rw [← h.1]; omega), ← h.1] at h2
    exact k.2 _ x v h1 h2
omit [Env] in
theorem svs_ones {w : World} {S : Stab} {m : List Blk} {H : Nat → Value} {ls : List Lf} {vs : List Value} (h : LsR (GRep0 w S m H) ls vs) : SvsR (GRep w S m H) (ls.map SV.one) vs :=
  ⟨by simpa using h.1, fun j x v h1 h2 => by
    rw [List.getElem?_map] at h1
    cases hj : ls[j]? with
    | none => rw [hj] at h1; cases h1
    | some l => rw [hj] at h1; cases h1; exact GRep0.up (h.2 j l v hj h2)⟩
omit [Env] in
theorem callB_run {a : Act} {w : World} {S : Stab} {H : Nat → Value} (r : Rel c ⟨t, M⟩ a w S H) {callee : Operand} {f : FuncId} {la lb : List Lf} {args : Array Operand} {ats : Array TypeId} {xs : List SV} (hf : FnI P f) (hcal : Cal ⟨t, M⟩ callee f la lb) (ho : Opnds ⟨t, M⟩ args.toList xs) (dst : Option Tmp) :
    ∃ vs : Array Value, SvsR (GRep w S M H) (la.map SV.one ++ xs ++ lb.map SV.one) vs.toList ∧ (execOp a.eval ⟨dst, .call { callee := .value callee, args := args, argTypes := ats }, ty, pos, af, none⟩).run P w = .ok (.enter f vs) w := by
  obtain ⟨va, vb, hv, h1, h2⟩ := hcal.val r
  refine ⟨va ++ args.map a.eval ++ vb, ?_, ?_⟩
  · have := svs_append (svs_append (svs_ones h1) (opnds_rel r ho)) (svs_ones h2)
    simpa using this
  · simp [execOp, resolve, hv, Deferred.ofValue, invoke, hf.run]
theorem scallB [NoFr] {callee : Operand} {f : FuncId} {la lb : List Lf} {args : Array Operand} {ats : Array TypeId} {xs ys : List SV} {m m1 M' : List Blk} {x x' : AV} (ps : List Nat) (hd : decide (d < c.nt) = true) (hf : FnI P f) (hcal : Cal ⟨t, M⟩ callee f la lb) (ho : Opnds ⟨t, M⟩ args.toList xs)
    (hc : CallsB P f m ys (fun y m' => y = x ∧ m' = m1)) (hxs : la.map SV.one ++ xs ++ lb.map SV.one = ys.map (SV.ren (rho ps M.length))) (hps : ps.map (fun p => M[p]?) = m.map (fun b => some (b.ren (rho ps M.length)))) (hnd : ps.Nodup)
    (hi : (ys.all (SV.inbB m.length) && m.all (Blk.inbB m.length)) = true) (hx : x.ren (rho ps M.length) = x') (hM : setAll M ps (m1.map (Blk.ren (rho ps M.length))) = M')
    (k : AWL P c ops Q rest ⟨upd t d x', M'⟩) : AWL P c ops Q (⟨some d, .call { callee := .value callee, args := args, argTypes := ats }, ty, pos, af, none⟩ :: rest) ⟨t, M⟩ := by
  refine awl_at fun a w S H r => ?_
  obtain ⟨vs, hvs, hrun⟩ := callB_run (pos := pos) (af := af) (ty := ty) (ats := ats) r hf hcal ho (some d)
  rw [hxs] at hvs
  simp only [Bool.and_eq_true] at hi
  refine wpListP_plain rfl fun K hK => ?_
  unfold operK
  rw [hrun]
  refine (callB_step r hc hvs hps hnd hi.1 hi.2).mono ?_
  rintro e w' ⟨v, y, m', S', H', rfl, ⟨rfl, rfl⟩, r', hav⟩
  subst hx; subst hM
  exact hK _ _ (k _ _ _ _ (r'.put (of_decide_eq_true hd) hav))
omit [Nice P] in
theorem cpub {x : Code} (i : Nat) {y z : SV} {m' : List Blk} (hx : t i = .s y) (hp : PubV M y z m') (k : AWC P c x Q ⟨upd t i (.s z), m'⟩) : AWC P c x Q ⟨t, M⟩ := by
  intro a w S H r
  obtain ⟨S', k1, g1⟩ := hp.keeps r
  have h := r.tm i
  have hxx : (AS.mk t M).t i = .s y := hx
  rw [hxx] at h
  have hy := g1 _ h
  have r' := k1.rel
  refine k a w S' H ⟨r'.nt, r'.df, fun j => ?_, r'.bl, r'.lo, r'.inj, r'.sb, r'.sl, r'.ex, r'.kl, r'.kh, r'.kr, r'.ku⟩
  show AVR _ (upd t i _ j) _
  rw [upd_def]
  by_cases e : j = i
  · subst e
    rw [if_pos rfl]
    exact SVR.mono (fun _ _ => GRep.of_rep) hy
  · rw [if_neg e]
    exact r'.tm j
omit [Nice P] in
theorem AWC.mono {x : Code} {st : AS} {Q Q' : Exit → AS → Prop} (h : AWC P c x Q st) (hq : ∀ e st, Q e st → Q' e st) : AWC P c x Q' st := fun a w S H r =>
  wpK_mono (h a w S H r) fun e a w ⟨st, S, H, r, h⟩ => ⟨st, S, H, r, hq e st h⟩
def Meet {G : Type} (sl : G → List (Nat × AV)) (mm : G → List Blk) (pre : G → Prop) (st : AS) : Prop := ∃ g ex, pre g ∧ MatchL st.t (sl g) ∧ st.m = mm g ++ ex
omit [Nice P] in
theorem meet_go {G : Type} {sl : G → List (Nat × AV)} {mm : G → List Blk} {pre : G → Prop} {x : Code} {Q : Exit → AS → Prop} {st : AS} (h : Meet sl mm pre st) (hin : ∀ g, pre g → InbL (mm g).length (sl g)) (hmin : ∀ g, pre g → ∀ b ∈ mm g, b.inb (mm g).length) (hk : ∀ g, pre g → c.m0.length ≤ (mm g).length)
    (hy : ∀ g, pre g → AWC P c x Q ⟨updL (fun _ => .top) (sl g), mm g⟩) : AWC P c x Q st := by
  obtain ⟨g, ex, hp, hs, hm⟩ := h
  intro a w S H r
  have r0 : Rel c ⟨st.t, mm g ++ ex⟩ a w S H := by rw [← hm]; exact r
  exact hy g hp a w S H (r0.trim (updL_match hs (hin g hp)) (hmin g hp) (hk g hp))
omit [Nice P] in
theorem cjoin {x y : Code} {Q Q' : Exit → AS → Prop} {st : AS} (G : Type) (sl : G → List (Nat × AV)) (mm : G → List Blk) (pre : G → Prop) (hin : ∀ g, pre g → InbL (mm g).length (sl g)) (hmin : ∀ g, pre g → ∀ b ∈ mm g, b.inb (mm g).length) (hk : ∀ g, pre g → c.m0.length ≤ (mm g).length)
    (hy : ∀ g, pre g → AWC P c y Q ⟨updL (fun _ => .top) (sl g), mm g⟩) (hx : AWC P c x (thenA (Meet sl mm pre) Q') st) : AWC P c x (thenA (AWC P c y Q) Q') st := by
  refine hx.mono fun e st h => ?_
  cases e with
  | normal => exact meet_go h hin hmin hk hy
  | _ => exact h
omit [Nice P] in
theorem cjoin3 {x y z : Code} {Q Q' Q'' : Exit → AS → Prop} {st : AS} (G : Type) (sl : G → List (Nat × AV)) (mm : G → List Blk) (pre : G → Prop) (hin : ∀ g, pre g → InbL (mm g).length (sl g)) (hmin : ∀ g, pre g → ∀ b ∈ mm g, b.inb (mm g).length) (hk : ∀ g, pre g → c.m0.length ≤ (mm g).length)
    (hy : ∀ g, pre g → AWC P c z Q ⟨updL (fun _ => .top) (sl g), mm g⟩) (hx : AWC P c x (thenA (AWC P c y (thenA (Meet sl mm pre) Q'')) Q') st) : AWC P c x (thenA (AWC P c y (thenA (AWC P c z Q) Q'')) Q') st := by
  refine hx.mono fun e st h => ?_
  cases e with
  | normal =>
    refine AWC.mono h fun e st h => ?_
    cases e with
    | normal => exact meet_go h hin hmin hk hy
    | _ => exact h
  | _ => exact h
def AV.inbB (n : Nat) : AV → Bool
  | .s x => x.inbB n
  | .tup xs => xs.all (SV.inbB n)
  | .top => true
omit [Env] in
theorem inb_of {n : Nat} {l : Lf} (h : l.inbB n = true) : l.inb n = true := by
  cases l with
  | fn f la lb =>
    simp only [Lf.inbB, Bool.and_eq_true, List.all_eq_true] at h
    simp only [Lf.inb, Bool.and_eq_true, List.all_eq_true]
    refine ⟨fun x hx => ?_, fun x hx => ?_⟩
    · have := h.1 x hx; cases x <;> first | rfl | exact this
    · have := h.2 x hx; cases x <;> first | rfl | exact this
  | _ => first | rfl | exact h
omit [Env] in
theorem svinb_of {n : Nat} {x : SV} (h : x.inbB n = true) : x.inb n := by
  cases x with
  | one l => exact inb_of h
  | agg ls => exact fun l hl => inb_of (List.all_eq_true.1 h l hl)
omit [Env] in
theorem inbL_of {n : Nat} : ∀ {l : List (Nat × AV)}, (l.all fun p => p.2.inbB n) = true → InbL n l
  | [], _ => trivial
  | (i, x) :: r, h => by
    simp only [List.all_cons, Bool.and_eq_true] at h
    refine ⟨?_, inbL_of h.2⟩
    cases x with
    | s x => exact svinb_of h.1
    | tup xs => exact fun y hy => svinb_of (List.all_eq_true.1 h.1 y hy)
    | top => trivial
omit [Env] in
theorem blkinb_of {n : Nat} {m : List Blk} (h : m.all (Blk.inbB n) = true) : ∀ b ∈ m, b.inb n := by
  intro b hb
  have := List.all_eq_true.1 h b hb
  cases b with
  | box cs => exact fun l hl => inb_of (List.all_eq_true.1 this l hl)
  | _ => trivial
omit [Nice P] in
theorem smem {l : List Oper} (M' : List Blk) (e : M = M') (k : AWL P c ops Q l ⟨t, M'⟩) : AWL P c ops Q l ⟨t, M⟩ := by subst e; exact k
end
end Go.Proofs.Ytnphcnhejgpjgaa.Abs
end
section
namespace Go.Proofs.Ytnphcnhejgpjgaa.Abs
abbrev wI (n : Int) : Int := IntKind.i64.wrap n
def idx {α : Type} (xs : List α) (j : Int) : Option α := if 0 ≤ j then xs[j.toNat]? else none
def cut {α : Type} (xs : List α) (lo hi : Int) : Option (List α) := if 0 ≤ lo ∧ lo ≤ hi ∧ hi ≤ xs.length then some ((xs.drop lo.toNat).take (hi.toNat - lo.toNat)) else none
inductive LR (σ β ρ : Type) where
  | cont (s : σ)
  | brk (b : β)
  | ret (r : ρ)
inductive LB (σ β : Type) where
  | cont (s : σ)
  | brk (b : β)
def iter {σ β ρ : Type} (f : σ → Option (LR σ β ρ)) : Nat → σ → Option (Sum ρ β)
  | 0, _ => none
  | n + 1, s => match f s with
    | none => none
    | some (.cont s') => iter f n s'
    | some (.brk b) => some (.inr b)
    | some (.ret r) => some (.inl r)
def iterB {σ β : Type} (f : σ → Option (LB σ β)) : Nat → σ → Option β
  | 0, _ => none
  | n + 1, s => match f s with
    | none => none
    | some (.cont s') => iterB f n s'
    | some (.brk b) => some b
def fuel : Nat := 1000000000000000000000000
theorem bind_eq {α β : Type} {o : Option α} {f : α → Option β} {r : β} (h : o.bind f = some r) : ∃ u, o = some u ∧ f u = some r := by
  cases o with
  | none => cases h
  | some u => exact ⟨u, rfl, h⟩
theorem ite_t {α : Type} {b : Bool} {x y : Option α} {r : α} (hb : b = true) (h : (if b then x else y) = some r) : x = some r := by subst hb; exact h
theorem ite_f {α : Type} {b : Bool} {x y : Option α} {r : α} (hb : b = false) (h : (if b then x else y) = some r) : y = some r := by subst hb; exact h
theorem chk_eq {α : Type} {p : Prop} [Decidable p] {x : Option α} {r : α} (h : (if p then x else none) = some r) : p ∧ x = some r := by
  by_cases hp : p
  · rw [if_pos hp] at h; exact ⟨hp, h⟩
  · rw [if_neg hp] at h; cases h
theorem idx_eq {α : Type} {xs : List α} {j : Int} {u : α} (h : idx xs j = some u) : 0 ≤ j ∧ xs[j.toNat]? = some u := chk_eq h
theorem idx_lt {α : Type} {xs : List α} {j : Int} {u : α} (h : idx xs j = some u) : 0 ≤ j ∧ j < xs.length := by
  obtain ⟨h0, h1⟩ := idx_eq h
  have := (List.getElem?_eq_some_iff.1 h1).1
  omega
theorem iterB_eq {σ β : Type} {f : σ → Option (LB σ β)} {n : Nat} {s : σ} {x : β} (h : iterB f n s = some x) :
    ∃ m y, n = m + 1 ∧ f s = some y ∧ (match y with | .cont s' => iterB f m s' = some x | .brk b => b = x) := by
  cases n with
  | zero => cases h
  | succ m =>
    rw [iterB] at h
    cases hf : f s with
    | none => rw [hf] at h; cases h
    | some y =>
      rw [hf] at h
      refine ⟨m, y, rfl, rfl, ?_⟩
      cases y with
      | cont s' => exact h
      | brk b => exact Option.some.inj h
theorem iter_eq {σ β ρ : Type} {f : σ → Option (LR σ β ρ)} {n : Nat} {s : σ} {x : Sum ρ β} (h : iter f n s = some x) :
    ∃ m y, n = m + 1 ∧ f s = some y ∧ (match y with | .cont s' => iter f m s' = some x | .brk b => .inr b = x | .ret r => .inl r = x) := by
  cases n with
  | zero => cases h
  | succ m =>
    rw [iter] at h
    cases hf : f s with
    | none => rw [hf] at h; cases h
    | some y =>
      rw [hf] at h
      refine ⟨m, y, rfl, rfl, ?_⟩
      cases y with
      | cont s' => exact h
      | brk b => exact Option.some.inj h
      | ret r => exact Option.some.inj h
end Go.Proofs.Ytnphcnhejgpjgaa.Abs
end
section
namespace Go.Proofs.Ytnphcnhejgpjgaa.Abs
open Go.Proofs.Ytnphcnhejgpjgaa.Co
variable [Env]
open Go.RowKit
section lists
variable {α : Type} {f : α → List Lf} {sz : Nat}
omit [Env] in
theorem flat_len (hf : ∀ x, (f x).length = sz) (xs : List α) : (xs.flatMap f).length = xs.length * sz := by
  induction xs with
  | nil => simp
  | cons a l ih => simp [List.flatMap_cons, ih, hf, Nat.add_mul, Nat.add_comm]
omit [Env] in
theorem flat_drop (hf : ∀ x, (f x).length = sz) (xs : List α) (i : Nat) : (xs.flatMap f).drop (i * sz) = (xs.drop i).flatMap f := by
  induction xs generalizing i with
  | nil => simp
  | cons a l ih =>
    cases i with
    | zero => simp
    | succ i =>
      rw [List.flatMap_cons, Nat.add_mul, Nat.one_mul, Nat.add_comm, ← List.drop_drop, List.drop_left' (hf a), ih]
      rfl
omit [Env] in
theorem flat_at (hf : ∀ x, (f x).length = sz) {xs : List α} {i : Nat} {u : α} (h : xs[i]? = some u) : (xs.flatMap f).drop (i * sz) = f u ++ (xs.drop (i + 1)).flatMap f := by
  rw [flat_drop hf]
  have hi := (List.getElem?_eq_some_iff.1 h).1
  have e := (List.getElem?_eq_some_iff.1 h).2
  rw [List.drop_eq_getElem_cons hi, List.flatMap_cons, e]
end lists
section
variable {P : Program} [Nice P] {c : Ctx} {st : AS} {ty : TypeId} {α : Type} {f : α → List Lf} {sz : Nat}
omit [Env] in
theorem opv_ix {t e n : Nat} {x y : Operand} {cs : List Lf} {xs : List α} {k : IntKind} {j : Int} {u : α} (si : SI P t e sz) (hf : ∀ x, (f x).length = sz) (hx : opnd st x = .s (.one (.sl n cs))) (hcs : cs = xs.flatMap f) (hn : n = xs.length) (hy : opnd st y = .s (.one (.i k j))) (h : idx xs j = some u) :
    OpV P c st (.indexAddr t x y) ty (.s (.one (.cp (f u ++ (xs.drop (j.toNat + 1)).flatMap f)))) := by
  obtain ⟨h0, h1⟩ := idx_eq h
  have h2 := (idx_lt h).2
  have := opv_indexAddr_sl (P := P) (c := c) (ty := ty) si hx hy h0 (by rw [hn]; exact h2)
  rwa [hcs, flat_at hf h1] at this
end
section
variable {P : Program} [Nice P] {c : Ctx} {t : Nat → AV} {m : List Blk} {ops : Array Oper} {Q : Exit → AS → Prop} {rest : List Oper} {ty : TypeId} {pos : String} {af : Array Edge} {d : Tmp} {α : Type} {f : α → List Lf} {sz : Nat}
theorem sapp {x y : Operand} {t' t2 e bytes p n k mm : Nat} {zl cs ys : List Lf} {xs us : List α} {yv yv' : SV} {m' : List Blk} (hd : decide (d < c.nt) = true) (si : P.underlying t' = some (.slice e)) (ei : EI P e sz bytes zl) (h2 : NI P t2) (hf : ∀ x, (f x).length = sz) (hx : opnd ⟨t, m⟩ x = .s (.one (.ls p n))) (hy : opnd ⟨t, m⟩ y = .s yv)
    (hp : PubV m yv yv' m') (hm : m'[p]? = some (.arr e sz k cs)) (hcs : cs = xs.flatMap f) (hn : n = xs.length) (hsrc : SrcOf P yv' sz mm ys) (hys : ys = us.flatMap f) (hmm : mm = us.length) (hb : (xs.length + us.length) * bytes ≤ 140737488355328) (hbp : 0 < bytes)
    (kk : AWL P c ops Q rest ⟨upd t d (.s (.one (.ls p (xs ++ us).length))), m'.set p (.arr e sz k ((xs ++ us).flatMap f))⟩) :
    AWL P c ops Q (⟨some d, .call { callee := .builtin .append, args := #[x, y], argTypes := #[t', t2] }, ty, pos, af, none⟩ :: rest) ⟨t, m⟩ := by
  subst hcs hn hys hmm
  refine sappend hd si ei h2 hx hy hp hm (flat_len hf xs).symm hsrc ?_ hb ?_
  · have : xs.length + us.length ≤ (xs.length + us.length) * bytes := Nat.le_mul_of_pos_right _ hbp
    simp only [maxLen]; omega
  · rw [← List.flatMap_append, ← List.length_append]
    exact kk
end
end Go.Proofs.Ytnphcnhejgpjgaa.Abs
namespace Go.Proofs.Ytnphcnhejgpjgaa.Abs
open Go.Proofs.Ytnphcnhejgpjgaa.Co
variable [Env]
open Go.RowKit
def eU8 (b : UInt8) : List Lf := [.i .u8 (b.toNat : Int)]
def eU16 (b : BitVec 16) : List Lf := [.i .u16 (b.toNat : Int)]
def eU32 (b : BitVec 32) : List Lf := [.i .u32 (b.toNat : Int)]
def eU64 (b : BitVec 64) : List Lf := [.i .u64 (b.toNat : Int)]
def eI (n : Int) : List Lf := [.i .i64 n]
def eB (b : Bool) : List Lf := [.b b]
def eS (s : List UInt8) : List Lf := [.s ⟨s.toArray⟩]
def eL {α : Type} (f : α → List Lf) (xs : List α) : List Lf := [.sl xs.length (xs.flatMap f)]
section
variable {P : Program} [Nice P] {c : Ctx} {st : AS} {ty : TypeId}
end
end Go.Proofs.Ytnphcnhejgpjgaa.Abs
namespace Go.Proofs.Ytnphcnhejgpjgaa.Abs
open Go.Proofs.Ytnphcnhejgpjgaa.Co
variable [Env]
open Go.RowKit
section
variable {P : Program} [Nice P] {c : Ctx} {st : AS} {ty : TypeId} {α : Type} {f : α → List Lf} {sz : Nat}
omit [Env] in
theorem opv_loadNe {t s : Nat} {x : Operand} {l : Lf} {cs ys : List Lf} (ti : TI P t true s) (hx : opnd st x = .s (.one l)) (hp : PtrTo st l cs) (he : cs.take s = ys) (hs : s = ys.length) : OpV P c st (.load t x) ty (.s (.agg ys)) := by
  have := opv_loadN (P := P) (c := c) (ty := ty) ti hx hp (by rw [← he, List.length_take] at hs; omega)
  rwa [he] at this
end
end Go.Proofs.Ytnphcnhejgpjgaa.Abs
namespace Go.Proofs.Ytnphcnhejgpjgaa.Abs
open Go.Proofs.Ytnphcnhejgpjgaa.Co
variable [Env]
open Go.RowKit
section
variable {P : Program} [Nice P] {c : Ctx} {st : AS} {ty : TypeId} {k : IntKind} {n m : Int} {x y : Operand} {xt yt : TypeId}
end
section
variable {P : Program} [Nice P] {c : Ctx} {t : Nat → AV} {m : List Blk} {ops : Array Oper} {Q : Exit → AS → Prop} {rest : List Oper} {ty : TypeId} {pos : String} {af : Array Edge} {α : Type} {f : α → List Lf} {sz : Nat}
end
end Go.Proofs.Ytnphcnhejgpjgaa.Abs
end
section
namespace Go.Proofs.Ytnphcnhejgpjgaa.Abs
open Go.Proofs.Ytnphcnhejgpjgaa.Co
variable [Env]
open Go.RowKit
def waits1 (acc : List Nat) (after : List Edge) : Nat := after.foldl (fun s e => if Region.binds .any e then s ||| (1 <<< e.on) ||| acc.getD e.on 0 else s) 0
def waitsL : List Oper → List Nat → List Nat
  | [], acc => acc
  | o :: r, acc => waitsL r (acc ++ [waits1 acc o.after.toList])
omit [Env] in
theorem waits1_bit {acc : List Nat} {after : List Edge} {j : Nat} (h : (waits1 acc after).testBit j = true) : ∃ e ∈ after, Region.binds .any e = true ∧ (e.on = j ∨ (acc.getD e.on 0).testBit j = true) := by
  have key : ∀ (l : List Edge) (s : Nat), (l.foldl (fun s e => if Region.binds .any e then s ||| (1 <<< e.on) ||| acc.getD e.on 0 else s) s).testBit j = true →
      s.testBit j = true ∨ ∃ e ∈ l, Region.binds .any e = true ∧ (e.on = j ∨ (acc.getD e.on 0).testBit j = true) := by
    intro l
    induction l with
    | nil => intro s h; exact .inl h
    | cons e l ih =>
      intro s h
      rw [List.foldl_cons] at h
      rcases ih _ h with h | ⟨e', he, h⟩
      · cases hb : Region.binds .any e with
        | false => rw [hb] at h; exact .inl h
        | true =>
          rw [hb, if_pos rfl, Nat.testBit_or, Nat.testBit_or, Bool.or_eq_true, Bool.or_eq_true] at h
          rcases h with (h | h) | h
          · exact .inl h
          · refine .inr ⟨e, List.mem_cons_self .., hb, .inl ?_⟩
            rw [Nat.one_shiftLeft, Nat.testBit_two_pow] at h
            exact of_decide_eq_true h
          · exact .inr ⟨e, List.mem_cons_self .., hb, .inr h⟩
      · exact .inr ⟨e', List.mem_cons_of_mem _ he, h⟩
  rcases key after 0 h with h | h
  · simp at h
  · exact h
def Closed (ops : Array Oper) (listed : Array Bool) : Prop := ∀ (i : Nat) (o : Oper), ops[i]? = some o → listed.getD i false = true → Met listed o
omit [Env] in
theorem waitsL_get : ∀ (l : List Oper) (acc : List Nat) (i : Nat), i < acc.length → (waitsL l acc).getD i 0 = acc.getD i 0
  | [], acc, i, _ => rfl
  | o :: r, acc, i, h => by
    rw [waitsL, waitsL_get r _ i (by simp; omega)]
    simp [List.getD, List.getElem?_append_left h]
omit [Env] in
theorem waitsL_ok {listed : Array Bool} {ops : Array Oper} (hc : Closed ops listed) : ∀ (l : List Oper) (acc : List Nat), (∀ i o, l[i]? = some o → ops[acc.length + i]? = some o) →
    (∀ i, i < acc.length → listed.getD i false = true → ∀ j, (acc.getD i 0).testBit j = true → listed.getD j false = true) →
    ∀ i, listed.getD i false = true → ∀ j, ((waitsL l acc).getD i 0).testBit j = true → listed.getD j false = true
  | [], acc, _, hp, i, hi, j, hj => by
    by_cases h : i < acc.length
    · exact hp i h hi j hj
    · rw [waitsL] at hj
      simp [List.getD, List.getElem?_eq_none (by omega : acc.length ≤ i)] at hj
  | o :: r, acc, ho, hp, i, hi, j, hj => by
    refine waitsL_ok hc r (acc ++ [waits1 acc o.after.toList]) (fun i' o' h => ?_) (fun i' h' hl j' hj' => ?_) i hi j hj
    · have := ho (i' + 1) o' (by simpa using h)
      rw [← this]
      congr 1
      simp; omega
    · simp only [List.length_append, List.length_singleton] at h'
      by_cases h : i' < acc.length
      · have e : (acc ++ [waits1 acc o.after.toList]).getD i' 0 = acc.getD i' 0 := by simp [List.getD, List.getElem?_append_left h]
        rw [e] at hj'
        exact hp i' h hl j' hj'
      · have e0 : i' = acc.length := by omega
        have e : (acc ++ [waits1 acc o.after.toList]).getD i' 0 = waits1 acc o.after.toList := by simp [List.getD, e0]
        rw [e] at hj'
        obtain ⟨ed, hed, hb, h1⟩ := waits1_bit hj'
        have hm := hc i' o (by have := ho 0 o rfl; rw [e0]; exact this) hl
        have hon := hm ed (by simpa using hed) hb
        rcases h1 with h1 | h1
        · rw [← h1]; exact hon
        · by_cases h2 : ed.on < acc.length
          · exact hp ed.on h2 hon j' h1
          · simp [List.getD, List.getElem?_eq_none (by omega : acc.length ≤ ed.on)] at h1
omit [Env] in
theorem waits_met {listed : Array Bool} {ops : Array Oper} (hc : Closed ops listed) {i : Nat} {o : Oper} (ho : ops[i]? = some o) (hm : Met listed o) {j : Nat} (hj : ((waitsL ops.toList []).getD i 0).testBit j = true) : listed.getD j false = true := by
  have hil : i < ops.toList.length := by have := (Array.getElem?_eq_some_iff.1 ho).1; simpa using this
  have key : ∀ (l : List Oper) (acc : List Nat) (k : Nat), acc.length + k = i → l[k]? = some o → ∃ acc', (waitsL l acc).getD i 0 = waits1 acc' o.after.toList ∧ ∀ q, q < acc'.length → (waitsL l acc).getD q 0 = acc'.getD q 0 := by
    intro l
    induction l with
    | nil => intro acc k _ h; simp at h
    | cons o' r ih =>
      intro acc k hk h
      cases k with
      | zero =>
        simp only [List.getElem?_cons_zero, Option.some.injEq] at h
        subst h
        refine ⟨acc, ?_, fun q hq => ?_⟩
        · rw [waitsL, waitsL_get r _ i (by simp; omega)]
          simp [List.getD, show i = acc.length by omega]
        · rw [waitsL, waitsL_get r _ q (by simp; omega)]
          simp [List.getD, List.getElem?_append_left hq]
      | succ k => exact ih _ k (by simp; omega) (by simpa using h)
  obtain ⟨acc', h1, h2⟩ := key ops.toList [] i (by simp) (by simpa using ho)
  rw [h1] at hj
  obtain ⟨ed, hed, hb, h3⟩ := waits1_bit hj
  have hon := hm ed (by simpa using hed) hb
  rcases h3 with h3 | h3
  · rw [← h3]; exact hon
  · by_cases hq : ed.on < acc'.length
    · refine waitsL_ok hc ops.toList [] (fun i o h => by simpa using h) (fun i h => by simp at h) ed.on hon j ?_
      rw [h2 _ hq]; exact h3
    · simp [List.getD, List.getElem?_eq_none (by omega : acc'.length ≤ ed.on)] at h3
def mix (T : Nat → AV) (L : List Nat) (ζ : Nat → AV) : Nat → AV := fun j => cond (L.contains j) (T j) (ζ j)
def exactB (ws : List Nat) (es : List Nat) (i j : Nat) : Bool := (es.take j).all (fun e => (ws.getD i 0).testBit e) && (es.drop j).all (fun e => e == i || (ws.getD e 0).testBit i)
def okDrawC (ops : Array Oper) : Bool :=
  (List.range ops.size).all fun i => match ops[i]? with
    | none => false
    | some o => o.after.all (fun e => !Region.binds .any e || decide (e.on < i)) && (List.range ops.size).all (fun j => match ops[j]? with
        | none => false
        | some p => match p.dst with
            | none => true
            | some d => (decide (i = j) || !(o.dst == p.dst)) && (!(o.looksAt ops).contains d || o.after.any (fun e => e.on == j && Region.binds .any e)))
omit [Env] in
theorem drawOkC_of {ops : Array Oper} (h : okDrawC ops = true) : DrawOkC ops := by
  have hget : ∀ (i : Nat) (o : Oper), ops[i]? = some o → (∀ e ∈ o.after, (!Region.binds .any e || decide (e.on < i)) = true) ∧ ∀ (j : Nat) (p : Oper), ops[j]? = some p → ∀ d, p.dst = some d → ((decide (i = j) || !(o.dst == p.dst)) && (!(o.looksAt ops).contains d || o.after.any (fun e => e.on == j && Region.binds .any e))) = true := by
    intro i o ho
    have hi : i < ops.size := (Array.getElem?_eq_some_iff.1 ho).1
    have h1 := List.all_eq_true.1 h i (List.mem_range.2 hi)
    simp only [ho, Bool.and_eq_true] at h1
    refine ⟨fun e he => by have := h1.1; rw [Array.all_eq_true'] at this; exact this e he, fun j p hp d hd => ?_⟩
    have hj : j < ops.size := (Array.getElem?_eq_some_iff.1 hp).1
    have h2 := List.all_eq_true.1 h1.2 j (List.mem_range.2 hj)
    simp only [hp, hd] at h2
    rw [hd]
    exact h2
  refine ⟨fun i o ho e he hb => ?_, fun i o j p ho hp hij d hd hpd => ?_, fun i o j p d ho hp hpd hl => ?_⟩
  · have := (hget i o ho).1 e he
    rw [hb] at this
    simpa using this
  · have := (hget i o ho).2 j p hp d hpd
    rw [hd, hpd] at this
    simp [hij] at this
  · have := (hget i o ho).2 j p hp d hpd
    simp only [Bool.and_eq_true, Bool.or_eq_true, Bool.not_eq_true'] at this
    rcases this.2 with h | h
    · have hc : (o.looksAt ops).contains d = true := by simpa using hl
      rw [h] at hc; cases hc
    · rw [Array.any_eq_true] at h
      obtain ⟨k, hk, h⟩ := h
      simp only [Bool.and_eq_true, beq_iff_eq] at h
      exact ⟨_, Array.getElem_mem hk, h.1, h.2⟩
section
variable {P : Program} [Nice P] {c : Ctx} {t : Nat → AV} {m : List Blk} {Q : Exit → AS → Prop}
def EffS (P : Program) (c : Ctx) (ops : Array Oper) (T : Nat → AV) (M M' : List Blk) (o : Oper) (x : AV) : Prop :=
  ∀ ζ, AWL P c ops (fun e st => e = .normal ∧ st = ⟨(match o.dst with | some d => upd (mix T (o.looksAt ops) ζ) d x | none => mix T (o.looksAt ops) ζ), M'⟩) [{ o with guard := none }] ⟨mix T (o.looksAt ops) ζ, M⟩
def GoodE (P : Program) (c : Ctx) (ops : Array Oper) (ws es : List Nat) (all : List (List Blk)) (i : Nat) (t : Nat → AV) (o : Oper) (x : AV) : Prop :=
  (∃ md, Good1 P c md ops t o x ∧ ((∃ j, exactB ws es i j = true ∧ all[j]? = some md) ∨ ∀ M ∈ all, Lift md M)) ∨ ∀ M ∈ all, Good1 P c M ops t o x
theorem GoodE.congr {ops : Array Oper} {ws es : List Nat} {all : List (List Blk)} {i : Nat} {t t' : Nat → AV} {o : Oper} {x : AV} (h : GoodE P c ops ws es all i t o x) (ht : ∀ y ∈ o.looksAt ops, t y = t' y) : GoodE P c ops ws es all i t' o x := by
  rcases h with ⟨md, h1, h2⟩ | h
  · exact .inl ⟨md, h1.congr ht, h2⟩
  · exact .inr fun M hM => (h M hM).congr ht
def DE (P : Program) (c : Ctx) (ops : Array Oper) (ws es : List Nat) (all : List (List Blk)) (k : (Nat → AV) → Prop) : Nat → List (List Blk) → List Oper → (Nat → AV) → Prop
  | _, Ms, [], t => Ms.length = 1 ∧ k t
  | i, Ms, o :: rest, t =>
    (es.contains i = false ∧ ∃ x d, o.dst = some d ∧ d < c.nt ∧ GoodE P c ops ws es all i t o x ∧ DE P c ops ws es all k (i + 1) Ms rest (upd t d x)) ∨
    (∃ j M M' Ms' x, es[j]? = some i ∧ exactB ws es i j = true ∧ all[j]? = some M ∧ all[j + 1]? = some M' ∧ Ms = M :: M' :: Ms' ∧ GYes ops t o ∧ EffS P c ops t M M' o x ∧ (∀ d, o.dst = some d → d < c.nt) ∧
      DE P c ops ws es all k (i + 1) (M' :: Ms') rest (match o.dst with | some d => upd t d x | none => t))
omit [Env] in
theorem mix_congr {T T' : Nat → AV} {L : List Nat} (h : ∀ x ∈ L, T x = T' x) (ζ : Nat → AV) : mix T L ζ = mix T' L ζ := by
  funext j
  unfold mix
  cases hc : L.contains j with
  | false => rfl
  | true => exact h j (by simpa using hc)
omit [Env] in
theorem GYes.congr {ops : Array Oper} {t t' : Nat → AV} {o : Oper} (h : GYes ops t o) (ht : ∀ y ∈ o.looksAt ops, t y = t' y) : GYes ops t' o := by
  rcases h with h | ⟨j, want, dj, h1, h2, h3⟩
  · exact .inl h
  · exact .inr ⟨j, want, dj, h1, h2, by rw [← ht dj (mem_looks_guard h1 h2)]; exact h3⟩
omit [Nice P] in
theorem EffS.congr {ops : Array Oper} {t t' : Nat → AV} {M M' : List Blk} {o : Oper} {x : AV} (h : EffS P c ops t M M' o x) (ht : ∀ y ∈ o.looksAt ops, t y = t' y) : EffS P c ops t' M M' o x := by
  intro ζ
  have := h ζ
  rwa [mix_congr ht ζ] at this
theorem DE.get {ops : Array Oper} {ws es : List Nat} {all : List (List Blk)} {k : (Nat → AV) → Prop} : ∀ {l : List Oper} {i : Nat} {Ms : List (List Blk)} {t : Nat → AV}, DE P c ops ws es all k i Ms l t → (dsts l).Nodup → (∀ (q : Nat) (o : Oper), l[q]? = some o → ∀ y ∈ o.looksAt ops, y ∉ dsts (l.drop q)) →
    ∃ T, k T ∧ (∀ y, y ∉ dsts l → T y = t y) ∧ ∀ (q : Nat) (o : Oper), l[q]? = some o →
      (es.contains (i + q) = false ∧ ∃ d, o.dst = some d ∧ d < c.nt ∧ GoodE P c ops ws es all (i + q) T o (T d)) ∨
      (∃ j M M' x, es[j]? = some (i + q) ∧ exactB ws es (i + q) j = true ∧ all[j]? = some M ∧ all[j + 1]? = some M' ∧ GYes ops T o ∧ EffS P c ops T M M' o x ∧ ∀ d, o.dst = some d → d < c.nt ∧ T d = x)
  | [], i, Ms, t, h, _, _ => ⟨t, h.2, fun _ _ => rfl, fun q o h => by simp at h⟩
  | o :: rest, i, Ms, t, h, hnd, hl => by
    have hlook : ∀ y ∈ o.looksAt ops, y ∉ dsts (o :: rest) := fun y hy => by simpa using hl 0 o rfl y hy
    have hlt : ∀ (q : Nat) (o' : Oper), rest[q]? = some o' → ∀ y ∈ o'.looksAt ops, y ∉ dsts (rest.drop q) := fun q o' h' y hy => by
      have := hl (q + 1) o' (by simpa using h') y hy
      simpa using this
    rcases h with ⟨hne, x, d, hd, hdn, hg, hr⟩ | ⟨j, M, M', Ms', x, h1, h2, h3, h4, h5, h6, h7, h8, hr⟩
    · have hds : dsts (o :: rest) = d :: dsts rest := by simp [dsts, hd]
      rw [hds] at hnd hlook
      have hnd' := List.nodup_cons.1 hnd
      obtain ⟨T, hk, hT, hG⟩ := DE.get hr hnd'.2 hlt
      have hTl : ∀ y ∈ o.looksAt ops, t y = T y := fun y hy => by
        have := hlook y hy
        simp only [List.mem_cons, not_or] at this
        rw [hT y this.2, upd_def, if_neg this.1]
      have hTd : T d = x := by rw [hT d hnd'.1, upd_def, if_pos rfl]
      refine ⟨T, hk, fun y hy => ?_, fun q o' h' => ?_⟩
      · rw [hds] at hy
        simp only [List.mem_cons, not_or] at hy
        rw [hT y hy.2, upd_def, if_neg hy.1]
      · cases q with
        | zero =>
          simp only [List.getElem?_cons_zero, Option.some.injEq] at h'
          subst h'
          exact .inl ⟨hne, d, hd, hdn, by rw [hTd]; exact hg.congr hTl⟩
        | succ q =>
          have := hG q o' (by simpa using h')
          rw [show i + 1 + q = i + (q + 1) by omega] at this
          exact this
    · cases hd : o.dst with
      | none =>
        have hds : dsts (o :: rest) = dsts rest := by simp [dsts, hd]
        rw [hds] at hnd hlook
        rw [hd] at hr
        obtain ⟨T, hk, hT, hG⟩ := DE.get hr hnd hlt
        have hTl : ∀ y ∈ o.looksAt ops, t y = T y := fun y hy => (hT y (hlook y hy)).symm
        refine ⟨T, hk, fun y hy => hT y (by rw [hds] at hy; exact hy), fun q o' h' => ?_⟩
        cases q with
        | zero =>
          simp only [List.getElem?_cons_zero, Option.some.injEq] at h'
          subst h'
          exact .inr ⟨j, M, M', x, h1, h2, h3, h4, h6.congr hTl, h7.congr hTl, fun d h => by rw [hd] at h; cases h⟩
        | succ q =>
          have := hG q o' (by simpa using h')
          rw [show i + 1 + q = i + (q + 1) by omega] at this
          exact this
      | some d =>
        have hds : dsts (o :: rest) = d :: dsts rest := by simp [dsts, hd]
        rw [hds] at hnd hlook
        have hnd' := List.nodup_cons.1 hnd
        rw [hd] at hr
        obtain ⟨T, hk, hT0, hG⟩ := DE.get hr hnd'.2 hlt
        have hT : ∀ y, y ∉ dsts rest → T y = upd t d x y := hT0
        have hTl : ∀ y ∈ o.looksAt ops, t y = T y := fun y hy => by
          have := hlook y hy
          simp only [List.mem_cons, not_or] at this
          rw [hT y this.2, upd_def, if_neg this.1]
        have hTd : T d = x := by rw [hT d hnd'.1, upd_def, if_pos rfl]
        refine ⟨T, hk, fun y hy => ?_, fun q o' h' => ?_⟩
        · rw [hds] at hy
          simp only [List.mem_cons, not_or] at hy
          rw [hT y hy.2, upd_def, if_neg hy.1]
        · cases q with
          | zero =>
            simp only [List.getElem?_cons_zero, Option.some.injEq] at h'
            subst h'
            refine .inr ⟨j, M, M', x, h1, h2, h3, h4, h6.congr hTl, h7.congr hTl, fun d' h => ?_⟩
            rw [hd] at h
            cases h
            exact ⟨h8 d hd, hTd⟩
          | succ q =>
            have := hG q o' (by simpa using h')
            rw [show i + 1 + q = i + (q + 1) by omega] at this
            exact this
omit [Env] in
theorem Lift.refl (m : List Blk) : Lift m m := ⟨rfl, fun _ _ h => .inr h, fun _ _ _ _ _ h => h⟩
omit [Env] in
theorem Met.set {listed : Array Bool} {o : Oper} {i : Nat} (h : Met listed o) : Met (listed.setIfInBounds i true) o := by
  intro e he hb
  have := h e he hb
  simp only [Array.getD_eq_getD_getElem?, Array.getElem?_setIfInBounds] at this ⊢
  split
  · split <;> simp_all
  · exact this
omit [Env] in
theorem Closed.set {ops : Array Oper} {listed : Array Bool} (h : Closed ops listed) {i : Nat} {o : Oper} (ho : ops[i]? = some o) (hm : Met listed o) : Closed ops (listed.setIfInBounds i true) := by
  intro a oa ha hl
  by_cases e : a = i
  · subst e
    rw [ho] at ha
    cases ha
    exact hm.set
  · have : (listed.setIfInBounds i true).getD a false = listed.getD a false := by
      simp only [Array.getD_eq_getD_getElem?, Array.getElem?_setIfInBounds]
      rw [if_neg (fun e' => e e'.symm)]
    rw [this] at hl
    exact (h a oa ha hl).set
omit [Env] in
theorem countP_exact {p : Nat → Bool} {es : List Nat} {j : Nat} (hj : j ≤ es.length) (h1 : ∀ e ∈ es.take j, p e = true) (h2 : ∀ e ∈ es.drop j, p e = false) : es.countP p = j := by
  conv => lhs; rw [← List.take_append_drop j es]
  rw [List.countP_append, List.countP_eq_length.2 h1, List.countP_eq_zero.2 (fun e he => by rw [h2 e he]; simp), List.length_take]
  omega
theorem cdraw_eD {l : List Oper} (es ws : List Nat) (all : List (List Blk)) {last : List Blk} (hws : waitsL l [] = ws) (hok : okDrawC l.toArray = true) (hnd : es.Nodup) (hes : (es.all fun e => decide (e < l.length)) = true) (hall : all.length = es.length + 1) (h0 : all[0]? = some m) (hlast : all[es.length]? = some last)
    (h : DE P c l.toArray ws es all (fun T => Q .normal ⟨T, last⟩) 0 all l t) : AWD P c Q l ⟨t, m⟩ := by
  subst hws
  have ok := drawOkC_of hok
  have hdn : (dsts l).Nodup := by
    have key : ∀ (k : List Oper) (n : Nat), (∀ i o, k[i]? = some o → l[n + i]? = some o) → (dsts k).Nodup := by
      intro k
      induction k with
      | nil => intro n _; exact List.nodup_nil
      | cons o r ih =>
        intro n hk
        have ih' := ih (n + 1) (fun i o' h' => by have := hk (i + 1) o' (by simpa using h'); rw [← this]; congr 1; omega)
        cases hd : o.dst with
        | none => simpa [dsts, hd] using ih'
        | some d =>
          have hds : dsts (o :: r) = d :: dsts r := by simp [dsts, hd]
          rw [hds]
          refine List.nodup_cons.2 ⟨fun hmem => ?_, ih'⟩
          unfold dsts at hmem
          rw [List.mem_filterMap] at hmem
          obtain ⟨p, hp, hpd⟩ := hmem
          obtain ⟨q, hq, hqp⟩ := List.getElem_of_mem hp
          have h1 := hk 0 o rfl
          have h2 := hk (q + 1) p (by simp [hq, hqp])
          exact ok.ne n o (n + (q + 1)) p (by simpa using h1) (by simpa using h2) (by omega) d hd hpd
    exact key l 0 (fun i o h => by simpa using h)
  obtain ⟨T, hQ, hTt, hG⟩ := DE.get h hdn (later ok)
  let B : Array Bool → List Blk := fun listed => all.getD (es.countP fun e => listed.getD e false) []
  let HI : Array Bool → (Nat → Value) → Prop := fun listed _ => Closed l.toArray listed
  have hws : ∀ {listed : Array Bool}, Closed l.toArray listed → ∀ i, listed.getD i false = true → ∀ j, ((waitsL l []).getD i 0).testBit j = true → listed.getD j false = true := fun hc =>
    waitsL_ok hc l [] (fun i o h => by simpa using h) (fun i h => by simp at h)
  have hBj : ∀ {j : Nat} {M : List Blk}, all[j]? = some M → j ≤ es.length := fun h => by
    have := (List.getElem?_eq_some_iff.1 h).1; omega
  have huf : ∀ {listed : Array Bool} {i : Nat}, listed.size = l.toArray.size → i < l.length → listed.getD i true = false → listed.getD i false = false := by
    intro listed i hs hi h
    simp only [Array.getD_eq_getD_getElem?] at h ⊢
    rw [Array.getElem?_eq_getElem (by rw [hs]; simpa using hi)] at h ⊢
    exact h
  have exact_ : ∀ {listed : Array Bool} {i j : Nat} {o : Oper} {M : List Blk}, Closed l.toArray listed → l[i]? = some o → Met listed o → listed.getD i false = false → exactB (waitsL l []) es i j = true → all[j]? = some M → es.countP (fun e => listed.getD e false) = j := by
    intro listed i j o M hc ho hmt hun hx hM
    unfold exactB at hx
    rw [Bool.and_eq_true, List.all_eq_true, List.all_eq_true] at hx
    refine countP_exact (hBj hM) (fun e he => ?_) (fun e he => ?_)
    · have := waits_met (ops := l.toArray) hc (i := i) (o := o) (by simpa using ho) hmt (j := e) (by simpa using hx.1 e he)
      exact this
    · have := hx.2 e he
      rw [Bool.or_eq_true] at this
      cases hle : listed.getD e false with
      | false => rfl
      | true =>
        rcases this with h | h
        · have e1 : e = i := by simpa using h
          rw [e1, hun] at hle; cases hle
        · have := hws hc e hle i h
          rw [hun] at this; cases this
  have hBsame : ∀ {listed : Array Bool} {i : Nat}, es.contains i = false → B (listed.setIfInBounds i true) = B listed := by
    intro listed i hi
    show all.getD _ [] = all.getD _ []
    congr 1
    refine List.countP_congr fun e he => ?_
    have : i ≠ e := fun e' => by subst e'; have : es.contains i = true := by simpa using he
                                 rw [hi] at this; cases this
    simp only [Array.getD_eq_getD_getElem?, Array.getElem?_setIfInBounds_ne this]
  have hlk : ∀ {i : Nat} {o : Oper}, l.toArray[i]? = some o → l[i]? = some o ∧ i < l.length := fun {i o} h => by
    have h' : l[i]? = some o := by simpa using h
    exact ⟨h', (List.getElem?_eq_some_iff.1 h').1⟩
  refine draw_open (T := T) (B := B) (HI := HI) ok (fun i o ho => ?_) hTt (fun a w S H r => ⟨H, ?_, ?_⟩) (fun listed hs hl => ?_)
  · obtain ⟨ho', hil⟩ := hlk ho
    rcases hG i o ho' with ⟨hne, d, hd, hdn, hg⟩ | ⟨j, M, M', x, h1, h2, h3, h4, h5, h6, h7⟩
    · rw [Nat.zero_add] at hne hg
      refine .inl fun listed H hs hun hmt hc => ?_
      have hBmem : B listed ∈ all := by
        have hle : es.countP (fun e => listed.getD e false) < all.length := by have := List.countP_le_length (p := fun e => listed.getD e false) (l := es); omega
        show all.getD (es.countP fun e => listed.getD e false) [] ∈ all
        simp only [List.getD, List.getElem?_eq_getElem hle, Option.getD_some]
        exact List.getElem_mem hle
      rcases hg with ⟨md, hg, hmd⟩ | hg
      · refine ⟨md, ⟨d, hd, hdn, hg⟩, ?_, hBsame hne, hc.set ho hmt⟩
        rcases hmd with ⟨j, hx, hM⟩ | hmd
        · have := exact_ hc ho' hmt (huf hs hil hun) hx hM
          show Lift md (all.getD (es.countP fun e => listed.getD e false) [])
          rw [this]
          simp only [List.getD, hM, Option.getD_some]
          exact Lift.refl md
        · exact hmd _ hBmem
      · exact ⟨B listed, ⟨d, hd, hdn, hg _ hBmem⟩, Lift.refl _, hBsame hne, hc.set ho hmt⟩
    · rw [Nat.zero_add] at h1 h2
      refine .inr ⟨h5, fun listed hs hun hmt a w S H r hc K Qn hK => ?_⟩
      have hcnt := exact_ hc ho' hmt (huf hs hil hun) h2 h3
      have hcnt' : es.countP (fun e => (listed.setIfInBounds i true).getD e false) = j + 1 := by
        have hjl := (List.getElem?_eq_some_iff.1 h1).1
        have hje := (List.getElem?_eq_some_iff.1 h1).2
        have hx := h2
        unfold exactB at hx
        rw [Bool.and_eq_true, List.all_eq_true, List.all_eq_true] at hx
        refine countP_exact (by omega) (fun e he => ?_) (fun e he => ?_)
        · by_cases hei : e = i
          · subst hei
            simp only [Array.getD_eq_getD_getElem?]
            rw [Array.getElem?_setIfInBounds_self_of_lt (by rw [hs]; simpa using hil)]; rfl
          · have hmem : e ∈ es.take j := by
              rw [List.take_add_one, List.mem_append] at he
              rcases he with he | he
              · exact he
              · rw [h1] at he; simp at he; exact absurd he hei
            have := waits_met (ops := l.toArray) hc (i := i) (o := o) ho hmt (j := e) (by simpa using hx.1 e hmem)
            simp only [Array.getD_eq_getD_getElem?, Array.getElem?_setIfInBounds_ne (fun e' => hei e'.symm)] at this ⊢
            exact this
        · have hei : e ≠ i := by
            intro e'
            subst e'
            obtain ⟨q, hq, hqe⟩ := List.getElem_of_mem he
            rw [List.getElem_drop] at hqe
            have := (List.getElem_inj hnd).1 (hqe.trans hje.symm)
            omega
          have hd' : e ∈ es.drop j := by
            rw [← List.drop_drop] at he
            exact List.mem_of_mem_drop he
          have := hx.2 e hd'
          rw [Bool.or_eq_true] at this
          simp only [Array.getD_eq_getD_getElem?, Array.getElem?_setIfInBounds_ne (fun e' => hei e'.symm)]
          cases hle : listed.getD e false with
          | false => simpa [Array.getD_eq_getD_getElem?] using hle
          | true =>
            rcases this with h | h
            · exact absurd (by simpa using h) hei
            · have h9 := hws hc e hle i h
              rw [huf hs hil hun] at h9; cases h9
      have hB1 : B listed = M := by show all.getD _ [] = M; rw [hcnt]; simp [List.getD, h3]
      have hB2 : B (listed.setIfInBounds i true) = M' := by show all.getD _ [] = M'; rw [hcnt']; simp [List.getD, h4]
      have hlook := TL_look (T := T) ok hs ho hmt
      have hmix : mix T (o.looksAt l.toArray) (TL l.toArray T listed) = TL l.toArray T listed := by
        funext y
        unfold mix
        cases hc' : (o.looksAt l.toArray).contains y with
        | false => rfl
        | true => exact (hlook y (by simpa using hc')).symm
      have heff := h6 (TL l.toArray T listed)
      rw [hmix] at heff
      rw [hB1] at r
      have hw := heff a w S H r w (Env.rlR w)
      unfold wpListP at hw
      rw [if_pos (by rfl)] at hw
      refine operK_mono (P := P) (o := o) (fun a' w' hx => ?_) (operK_guard hw.1)
      obtain ⟨st', S', H', r', _, rfl⟩ := hx w' (Env.rlR w')
      refine hK a' w' S' H' ?_ (hc.set ho hmt)
      rw [hB2]
      cases hd : o.dst with
      | none =>
        rw [hd] at r'
        rw [← TL_set_none ho hd]
        exact r'
      | some d =>
        rw [hd] at r'
        rw [← TL_set (T := T) ok hs ho hun hd, (h7 d hd).2]
        exact r'
  · have : B (Array.replicate l.toArray.size false) = m := by
      show all.getD _ [] = m
      have h9 : es.countP (fun e => (Array.replicate l.toArray.size false).getD e false) = 0 := by
        refine List.countP_eq_zero.2 fun e _ => ?_
        simp only [Array.getD_eq_getD_getElem?, Array.getElem?_replicate]
        split <;> simp
      rw [h9]
      simp [List.getD, h0]
    rw [this]
    exact r
  · intro i o _ hl
    simp only [Array.getD_eq_getD_getElem?, Array.getElem?_replicate] at hl
    split at hl <;> simp at hl
  · have hin : ∀ e ∈ es, e < l.length := fun e he => by simpa using List.all_eq_true.1 hes e he
    have h9 : es.countP (fun e => listed.getD e false) = es.length := by
      refine List.countP_eq_length.2 fun e he => ?_
      have h1 := hl e (by simpa using hin e he)
      have h2 : e < listed.size := by rw [hs]; simpa using hin e he
      simp only [Array.getD_eq_getD_getElem?, Array.getElem?_eq_getElem h2, Option.getD_some] at h1 ⊢
      exact h1
    have : B listed = last := by
      show all.getD _ [] = last
      rw [h9]
      simp [List.getD, hlast]
    rw [this]
    exact hQ
theorem cdraw_e {id : Nat} {l : List Oper} (es ws : List Nat) (all : List (List Blk)) {last : List Blk} (hws : waitsL l [] = ws) (hm : P.follows .mixedOrders = true) (hok : okDrawC l.toArray = true) (hnd : es.Nodup) (hes : (es.all fun e => decide (e < l.length)) = true) (hall : all.length = es.length + 1) (h0 : all[0]? = some m) (hlast : all[es.length]? = some last)
    (h : DE P c l.toArray ws es all (fun T => Q .normal ⟨T, last⟩) 0 all l t) : AWC P c (.region id l.toArray true) Q ⟨t, m⟩ := (cdraw_eD es ws all hws hok hnd hes hall h0 hlast h).awc hm
variable {ops : Array Oper} {ws es : List Nat} {all Ms : List (List Blk)} {k : (Nat → AV) → Prop} {rest : List Oper} {op : Op} {ty : TypeId} {pos : String} {af : Array Edge} {d : Tmp} {x : AV} {i : Nat}
def Sees (ws es : List Nat) (all : List (List Blk)) (i : Nat) (md : List Blk) : Prop := (∃ j, exactB ws es i j = true ∧ all[j]? = some md) ∨ ∀ M ∈ all, Lift md M
omit [Env] in
theorem sees_at (j : Nat) {md : List Blk} (h : exactB ws es i j = true) (hm : all[j]? = some md) : Sees ws es all i md := .inl ⟨j, h, hm⟩
omit [Nice P] in
theorem enil {M : List Blk} (h : k t) : DE P c ops ws es all k i [M] [] t := ⟨rfl, h⟩
theorem ev {md : List Blk} (hs : Sees ws es all i md) (hi : es.contains i = false) (hd : decide (d < c.nt) = true) (h : OpV P c ⟨restr t (Oper.looksAt ops ⟨some d, op, ty, pos, af, none⟩), md⟩ op ty x) (kk : DE P c ops ws es all k (i + 1) Ms rest (upd t d x)) : DE P c ops ws es all k i Ms (⟨some d, op, ty, pos, af, none⟩ :: rest) t :=
  .inl ⟨hi, x, d, rfl, of_decide_eq_true hd, .inl ⟨md, .inl ⟨.inl rfl, h.opD⟩, hs⟩, kk⟩
theorem emv (hi : es.contains i = false) (hd : decide (d < c.nt) = true) (h : ∀ md, OpV P c ⟨restr t (Oper.looksAt ops ⟨some d, op, ty, pos, af, none⟩), md⟩ op ty x) (kk : DE P c ops ws es all k (i + 1) Ms rest (upd t d x)) : DE P c ops ws es all k i Ms (⟨some d, op, ty, pos, af, none⟩ :: rest) t :=
  .inl ⟨hi, x, d, rfl, of_decide_eq_true hd, .inr fun _ _ => .inl ⟨.inl rfl, (h _).opD⟩, kk⟩
omit [Nice P] in
theorem ed {md : List Blk} (hs : Sees ws es all i md) (hi : es.contains i = false) (hd : decide (d < c.nt) = true) (h : OpD P c ⟨restr t (Oper.looksAt ops ⟨some d, op, ty, pos, af, none⟩), md⟩ op ty x) (kk : DE P c ops ws es all k (i + 1) Ms rest (upd t d x)) : DE P c ops ws es all k i Ms (⟨some d, op, ty, pos, af, none⟩ :: rest) t :=
  .inl ⟨hi, x, d, rfl, of_decide_eq_true hd, .inl ⟨md, .inl ⟨.inl rfl, h⟩, hs⟩, kk⟩
omit [Nice P] in
theorem ee (j : Nat) {M M' : List Blk} (he : es[j]? = some i) (hx : exactB ws es i j = true) (h1 : all[j]? = some M) (h2 : all[j + 1]? = some M') (hd : decide (d < c.nt) = true)
    (h : ∀ ζ, AWL P c ops (fun e st => e = .normal ∧ st = ⟨upd (mix t (Oper.looksAt ops ⟨some d, op, ty, pos, af, none⟩) ζ) d x, M'⟩) [⟨some d, op, ty, pos, af, none⟩] ⟨mix t (Oper.looksAt ops ⟨some d, op, ty, pos, af, none⟩) ζ, M⟩)
    (kk : DE P c ops ws es all k (i + 1) (M' :: Ms) rest (upd t d x)) : DE P c ops ws es all k i (M :: M' :: Ms) (⟨some d, op, ty, pos, af, none⟩ :: rest) t :=
  .inr ⟨j, M, M', Ms, x, he, hx, h1, h2, rfl, .inl rfl, h, fun d' h' => by cases h'; exact of_decide_eq_true hd, kk⟩
omit [Nice P] in
theorem ee0 (j : Nat) {M M' : List Blk} (he : es[j]? = some i) (hx : exactB ws es i j = true) (h1 : all[j]? = some M) (h2 : all[j + 1]? = some M')
    (h : ∀ ζ, AWL P c ops (fun e st => e = .normal ∧ st = ⟨mix t (Oper.looksAt ops ⟨none, op, ty, pos, af, none⟩) ζ, M'⟩) [⟨none, op, ty, pos, af, none⟩] ⟨mix t (Oper.looksAt ops ⟨none, op, ty, pos, af, none⟩) ζ, M⟩)
    (kk : DE P c ops ws es all k (i + 1) (M' :: Ms) rest t) : DE P c ops ws es all k i (M :: M' :: Ms) (⟨none, op, ty, pos, af, none⟩ :: rest) t :=
  .inr ⟨j, M, M', Ms, .top, he, hx, h1, h2, rfl, .inl rfl, h, (fun d' h' => by cases h'), kk⟩
omit [Nice P] in
theorem eend {st : AS} {ops' : Array Oper} : AWL P c ops' (fun e s => e = .normal ∧ s = st) [] st := awl_nil ⟨rfl, rfl⟩
def LiftL : List Blk → List Blk → Prop
  | [], [] => True
  | .dead :: r, b :: r' => (match b with | .arr .. => False | _ => True) ∧ LiftL r r'
  | a :: r, b :: r' => a = b ∧ LiftL r r'
  | _, _ => False
omit [Env] in
theorem lift_of : ∀ {md M : List Blk}, LiftL md M → Lift md M
  | [], [], _ => Lift.refl []
  | [], _ :: _, h => h.elim
  | a :: r, [], h => by cases a <;> exact h.elim
  | a :: r, b :: r', h => by
    have h' : (a = .dead ∧ (∀ e sz k cs, b ≠ .arr e sz k cs) ∧ LiftL r r') ∨ (a = b ∧ LiftL r r') := by
      cases a with
      | dead => exact .inl ⟨rfl, fun e sz k cs e' => by subst e'; exact h.1, h.2⟩
      | hole => exact .inr h
      | obj g mk cs => exact .inr h
      | tab mk cs => exact .inr h
      | box cs => exact .inr h
      | arr e sz k cs => exact .inr h
    have ih := lift_of (show LiftL r r' by rcases h' with h' | h'; exact h'.2.2; exact h'.2)
    refine ⟨by simp [ih.len], fun p x hx => ?_, fun p e sz k cs hx => ?_⟩
    · cases p with
      | zero =>
        simp only [List.getElem?_cons_zero, Option.some.injEq] at hx
        subst hx
        rcases h' with h' | h'
        · exact .inl h'.1
        · exact .inr (by simp [h'.1])
      | succ p => exact ih.at_ p x (by simpa using hx)
    · cases p with
      | zero =>
        simp only [List.getElem?_cons_zero, Option.some.injEq] at hx
        rcases h' with h' | h'
        · exact absurd hx (h'.2.1 e sz k cs)
        · simp [h'.1, hx]
      | succ p => exact ih.arr p e sz k cs (by simpa using hx)
def LiftAll (md : List Blk) : List (List Blk) → Prop
  | [] => True
  | M :: r => LiftL md M ∧ LiftAll md r
omit [Env] in
theorem liftAll_of {md : List Blk} : ∀ {l : List (List Blk)}, LiftAll md l → ∀ M ∈ l, Lift md M
  | [], _, M, h => by simp at h
  | N :: r, h, M, hm => by
    rcases List.mem_cons.1 hm with rfl | hm
    · exact lift_of h.1
    · exact liftAll_of h.2 M hm
omit [Env] in
theorem sees_all {md : List Blk} (h : LiftAll md all) : Sees ws es all i md := .inr (liftAll_of h)
end
end Go.Proofs.Ytnphcnhejgpjgaa.Abs
namespace Go.Proofs.Ytnphcnhejgpjgaa.Abs
open Go.Proofs.Ytnphcnhejgpjgaa.Co
variable [Env]
open Go.RowKit
section
variable {P : Program} [Nice P] {c : Ctx} {st : AS} {ty : TypeId}
omit [Nice P] in
theorem opD_newArr {op : Op} {e sz n : Nat} {cs : List Lf} (hsz : 0 < sz) (h : NewArr P c st op ty e sz n cs) : OpD P c st op ty (.s (.one (.sl n cs))) := by
  intro a w S H r dst pos af g K Q hK
  obtain ⟨v, w', vals, hrun, hext, hin, hown, hls⟩ := h a w S H r
  unfold operK
  rw [hrun]
  let S' : Stab := fun b i => S b i ∨ (ownOf v = some b ∧ i < cs.length)
  have hge : ∀ b, ownOf v = some b → w.heap.size ≤ b ∧ b < w'.heap.size := by
    intro b hb
    rcases hown.2 with ⟨hv, _⟩ | ⟨g', cap, cur, hv, h1, h2, _⟩
    · rw [hv] at hb; cases hb
    · rw [hv] at hb
      cases hb
      exact ⟨h1, (Array.getElem?_eq_some_iff.1 h2).1⟩
  have hext' : Ext w S w' S' := ⟨hext.os, hext.tape, hext.output, hext.size, hext.blk, fun b i hs => .inl (hext.sub b i hs), fun b i hb hs => by
    rcases hs with hs | hs
    · exact hext.back b i hb hs
    · have := (hge b hs.1).1; omega⟩
  have hin' : InH w' S' := ⟨fun b i hs => by
    rcases hs with hs | hs
    · exact hin.1 b i hs
    · exact (hge b hs.1).2, hin.2.1.mono fun b i hs => ⟨.inl hs, rfl⟩, hin.2.2.add fun b i hs => by
      rcases hs with hs | hs
      · exact .inl hs
      · refine .inr ⟨?_, fun j hj => by have := r.sl.1 b j hj; have := (hge b hs.1).1; omega⟩
        rcases hown.2 with ⟨hv, _⟩ | ⟨g', cap, cur, hv, hbg, hg, _⟩
        · rw [hv] at hs; cases hs.1
        · have hb : ownOf v = some b := hs.1
          rw [hv] at hb
          cases hb
          have hi : i < vals.length := by rw [← hls.1]; exact hs.2
          have := hown.cells (g := g') (by rw [hv]; rfl) i _ (List.getElem?_eq_getElem hi)
          rw [Addr.add_lit, Nat.zero_add] at this
          exact fun h => by rw [show w'.cell? ⟨g', i, none⟩ = some _ from this] at h; cases h⟩
  refine hK v w' S' hext' hin' (avr_rep ?_)
  have hnl : n * sz = cs.length := by rw [← hown.1, hls.1]
  rcases hown.2 with ⟨hv, h0⟩ | ⟨g', cap, cur, hv, hbg, hg, hnc, hcm, hcs, htake⟩
  · subst h0
    have : cs = [] := List.eq_nil_of_length_eq_zero (by rw [← hnl, Nat.zero_mul])
    subst this
    rw [hv]
    exact .sl0 _ _
  · rw [hv]
    refine Rep.sl n cs g' 0 cap (fun j => vals.getD j undef) hnc hcm (fun j l hl => ?_) (fun j l hl => ?_)
    · have hj : j < cs.length := (List.getElem?_eq_some_iff.1 hl).1
      obtain ⟨u, hu, _⟩ := hls.get hl
      refine ⟨.inr ⟨by rw [hv]; simp [ownOf], by omega⟩, ?_⟩
      have := hown.cells (g := g') (by rw [hv]; rfl) j u hu
      rw [Addr.add_lit] at this
      rw [this]
      simp [List.getD, hu]
    · obtain ⟨u, hu, hr⟩ := hls.get hl
      have : vals.getD j undef = u := by simp [List.getD, hu]
      rw [this]
      exact Rep.mono (fun b i h => ⟨.inl h, rfl⟩) hr
variable {α : Type} {f : α → List Lf} {sz : Nat}
theorem opD_bld {t e sz bytes len : Nat} {zl out : List Lf} {parts : Array (Nat × Operand)} {xs : List (Nat × SV)} (si : P.underlying t = some (.slice e)) (ei : EI P e sz bytes zl) (hp : Parts st parts.toList xs)
    (hb : Built (fun i : Nat => some (i * sz, sz)) (mkLs zl (len * sz)) xs out) (hout : out.all Lf.pubd = true) (hlen : len * sz ≤ 16777216) : OpD P c st (.buildSlice t len parts) ty (.s (.one (.sl len out))) :=
  opD_newArr ei.p (newArr_build si ei hp hb (List.all_eq_true.1 hout) hlen)
theorem opD_callC {callee : Operand} {g : FuncId} {la lb : List Lf} {args : Array Operand} {ats : Array TypeId} {xs : List SV} {r : AV} (hf : FnI P g) (hcal : Cal st callee g la lb) (ho : Opnds st args.toList xs) (hp : (la.map SV.one ++ xs ++ lb.map SV.one).all (fun x => x.cells.all Lf.pubd) = true) (hc : CallsA P g (la.map SV.one ++ xs ++ lb.map SV.one) (· = r)) :
    OpD P c st (.call { callee := .value callee, args := args, argTypes := ats }) ty r := by
  intro a w S H rr dst pos af gd K Q hK
  obtain ⟨va, vb, hv, h1, h2⟩ := hcal.val rr
  have hsv := svs_append (svs_append (svs_ones h1) (opnds_rel rr ho)) (svs_ones h2)
  have hsr : SvsR (Rep w S) (la.map SV.one ++ xs ++ lb.map SV.one) (va.toList ++ args.toList.map a.eval ++ vb.toList) :=
    ⟨hsv.1, fun j x v hx hv' => svr_pub (hsv.2 j x v hx hv') (List.all_eq_true.1 hp x (List.mem_of_getElem? hx))⟩
  unfold operK
  have hrun : (execOp a.eval ⟨dst, .call { callee := .value callee, args := args, argTypes := ats }, ty, pos, af, gd⟩).run P w = .ok (.enter g (va ++ args.map a.eval ++ vb)) w := by
    simp [execOp, resolve, hv, Deferred.ofValue, invoke, hf.run]
  rw [hrun]
  refine (hc w S (va ++ args.map a.eval ++ vb) rr.sl (by simpa using hsr)).mono ?_
  rintro e w' ⟨v, x, S', rfl, rfl, hext, hin, hav⟩
  exact hK v w' S' hext hin (avr_of_rep hav)
end
section
variable {P : Program} [Nice P] {c : Ctx} {t : Nat → AV} {m : List Blk} {ops : Array Oper} {Q : Exit → AS → Prop} {rest : List Oper} {op : Op} {ty : TypeId} {pos : String} {af : Array Edge} {d : Tmp} {x : AV}
end
end Go.Proofs.Ytnphcnhejgpjgaa.Abs
end
section
namespace Go.Proofs.Ytnphcnhejgpjgaa.Abs
open Go.Proofs.Ytnphcnhejgpjgaa.Co
variable [Env]
open Go.RowKit
section
variable {P : Program} [Nice P] {c : Ctx} {st : AS} {t : Nat → AV} {m : List Blk} {ops : Array Oper} {Q : Exit → AS → Prop} {rest : List Oper} {ty : TypeId} {pos : String} {af : Array Edge} {d : Tmp}
omit [Nice P] in
theorem snilq [NoFr] {xt yt e n : Nat} {x : Operand} {cs : List Lf} (hd : decide (d < c.nt) = true) (hu : P.underlying xt = some (.slice e)) (hx : opnd ⟨t, m⟩ x = .s (.one (.sl n cs)))
    (k : ∀ b, (b = true → n = 0) → AWL P c ops Q rest ⟨upd t d (.s (.one (.b b))), m⟩) : AWL P c ops Q (⟨some d, .binOp .eql xt x (.const (.slice none 0 0)) yt, ty, pos, af, none⟩ :: rest) ⟨t, m⟩ := by
  refine awl_at fun a w S H r => ?_
  have hx' := opnd_rel r x
  rw [hx] at hx'
  have hx'' : Rep w S (.sl n cs) (a.eval x) := hx'
  refine wpListP_plain rfl fun K hK => ?_
  unfold operK
  have key : ∀ b, (b = true → n = 0) → (execOp a.eval ⟨some d, .binOp .eql xt x (.const (.slice none 0 0)) yt, ty, pos, af, none⟩).run P w = .ok (.value (.bool b)) w → uponK P ⟨some d, .binOp .eql xt x (.const (.slice none 0 0)) yt, ty, pos, af, none⟩ a K ((execOp a.eval ⟨some d, .binOp .eql xt x (.const (.slice none 0 0)) yt, ty, pos, af, none⟩).run P w) := by
    intro b hb hrun
    rw [hrun]
    exact hK _ _ (k b hb _ _ _ _ (r.put (d := d) (x := .s (.one (.b b))) (of_decide_eq_true hd) (avr_rep (.b b))))
  generalize hv : a.eval x = v at hx''
  have hc : a.eval (.const (.slice none 0 0)) = .slice none 0 0 := rfl
  cases hx'' with
  | sl0 ad cap =>
    refine key ad.isNone (fun _ => rfl) ?_
    cases ad <;> simp [execOp, hv, hc, eqGuard, binOp, run_underlying hu, run_equal_slice_nil w xt e _ _ _ hu]
  | sl n cs bk off cap vals hcn hm hs hr =>
    refine key false (fun h => by cases h) ?_
    simp [execOp, hv, hc, eqGuard, binOp, run_underlying hu, run_equal_slice_nil w xt e _ _ _ hu]
end
end Go.Proofs.Ytnphcnhejgpjgaa.Abs
namespace Go.Proofs.Ytnphcnhejgpjgaa.Abs
open Go.Proofs.Ytnphcnhejgpjgaa.Co
variable [Env]
open Go.RowKit
section
variable {P : Program} [Nice P] {c : Ctx} {st : AS} {ty : TypeId}
end
section
variable {P : Program} [Nice P] {c : Ctx} {t : Nat → AV} {m : List Blk} {ops : Array Oper} {Q : Exit → AS → Prop} {rest : List Oper} {ty : TypeId} {pos : String} {af : Array Edge} {d : Tmp} {α : Type} {f : α → List Lf} {sz : Nat}
end
end Go.Proofs.Ytnphcnhejgpjgaa.Abs
namespace Go.Proofs.Ytnphcnhejgpjgaa.Abs
open Go.Proofs.Ytnphcnhejgpjgaa.Co
variable [Env]
end Go.Proofs.Ytnphcnhejgpjgaa.Abs
namespace Go.Proofs.Ytnphcnhejgpjgaa.Abs
open Go.Proofs.Ytnphcnhejgpjgaa.Co
variable [Env]
open Go.RowKit
section
variable {P : Program} [Nice P] {c : Ctx} {t : Nat → AV} {m : List Blk} {ops : Array Oper} {Q : Exit → AS → Prop} {rest : List Oper} {ty : TypeId} {pos : String} {af : Array Edge} {d : Tmp} {sz : Nat}
end
end Go.Proofs.Ytnphcnhejgpjgaa.Abs
end
section
namespace Go.Proofs.Ytnphcnhejgpjgaa.Abs
open Go.Proofs.Ytnphcnhejgpjgaa.Co
variable [Env]
open Go.RowKit
omit [Env] in
theorem pub_box_rel {c : Ctx} {st : AS} {a : Act} {w : World} {S : Stab} {H : Nat → Value} (r : Rel c st a w S H) {p i : Nat} {cs : List Lf} {l l' : Lf} {m' : List Blk} (hm : st.m[p]? = some (.box cs)) (hi : cs[i]? = some l) (hp : PubL st.m l l' m') (hm' : m'[p]? = some (.box cs)) :
    ∃ S' H', Rel c ⟨st.t, m'.set p (.box (cs.set i l'))⟩ a w S' H' := by
  obtain ⟨S', k, g⟩ := hp.keeps (t := st.t) r
  have r' := k.rel
  have hpl : p < m'.length := (List.getElem?_eq_some_iff.1 hm').1
  obtain ⟨gg, e, cur, h1, h2, h3⟩ := r.bl p _ hm
  obtain ⟨gg', e', cur', h1', h2', h3'⟩ := r'.bl p _ hm'
  have e1 : gg = gg' := by rw [h1] at h1'; cases h1'; rfl
  subst e1
  have e2 : cur = cur' := by rw [h2] at h2'; cases h2'; rfl
  subst e2
  refine ⟨S', setH H p (H p), r'.change (p := p) (b' := .box (cs.set i l')) (v := H p) (by simp) (by rw [List.getElem?_set_self hpl]) (fun q hq => List.getElem?_set_ne (fun e => hq e.symm)) (fun b i h => ⟨h, rfl⟩)
    (fun g _ _ => rfl) (fun e sz k cs _ h => by cases h) (fun g _ _ => rfl) ⟨gg, e', cur, h1', h2', ?_⟩
    (fun g hg => ⟨(r'.lo p _ g hm' hg).1, (r'.lo p _ g hm' hg).2, fun q b hq hb ho => hq (r'.inj q p b _ g hb hm' ho hg), fun j hj => r'.sb p (.box cs) g j hm' hg hj⟩) (fun q b g i _ _ _ h => h) (fun g i _ _ h => h) r'.sl.two (Nat.le_refl _) rfl rfl rfl⟩
  have hset : setH H p (H p) = H := by
    funext q
    by_cases e' : q = p
    · subst e'; exact setH_same H q _
    · exact setH_other H _ e'
  rw [hset]
  have hmono : ∀ l v, GRep w S' m' H l v → GRep w S' (m'.set p (.box (cs.set i l'))) H l v := fun l v =>
    GRep.mono (fun b i h => ⟨h, rfl⟩) (by simp) (fun _ _ => rfl) (fun q e sz k cs1 _ hmm => by
      by_cases hq : q = p
      · subst hq
        rw [List.getElem?_set_self hpl] at hmm
        cases hmm
      · rw [List.getElem?_set_ne (fun e => hq e.symm)] at hmm
        exact ⟨k, cs1, hmm, rfl⟩)
  refine ⟨by rw [List.length_set]; exact h3.1, fun j x v hx hv => ?_⟩
  by_cases hj : j = i
  · subst hj
    have hlt : j < cs.length := (List.getElem?_eq_some_iff.1 hi).1
    rw [List.getElem?_set_self hlt] at hx
    cases hx
    exact GRep.of_rep (g v (h3.2 j l v hi hv))
  · rw [List.getElem?_set_ne (fun e => hj e.symm)] at hx
    exact hmono _ _ (h3'.2 j x v hx hv)
section
variable {P : Program} [Nice P] {c : Ctx} {t : Nat → AV} {m : List Blk} {ops : Array Oper} {Q : Exit → AS → Prop}
omit [Nice P] in
theorem cpubbox {x : Code} (p i : Nat) {cs : List Lf} {u y : Lf} {m' : List Blk} (hm : m[p]? = some (.box cs)) (hi : cs[i]? = some u) (hp : PubL m u y m') (hm' : m'[p]? = some (.box cs)) (k : AWC P c x Q ⟨t, m'.set p (.box (cs.set i y))⟩) : AWC P c x Q ⟨t, m⟩ :=
  awc_of _ (fun _ _ _ _ r => pub_box_rel (st := ⟨t, m⟩) r hm hi hp hm') k
end
end Go.Proofs.Ytnphcnhejgpjgaa.Abs
namespace Go.Proofs.Ytnphcnhejgpjgaa.Abs
open Go.Proofs.Ytnphcnhejgpjgaa.Co
variable [Env]
open Go.RowKit
section
variable {P : Program} [Nice P] {c : Ctx} {st : AS} {ty : TypeId}
end
end Go.Proofs.Ytnphcnhejgpjgaa.Abs
namespace Go.Proofs.Ytnphcnhejgpjgaa.Abs
open Go.Proofs.Ytnphcnhejgpjgaa.Co
variable [Env]
open Go.RowKit
section
variable {P : Program} [Nice P] {c : Ctx} {st : AS} {ty : TypeId}
end
end Go.Proofs.Ytnphcnhejgpjgaa.Abs
namespace Go.Proofs.Ytnphcnhejgpjgaa.Abs
open Go.Proofs.Ytnphcnhejgpjgaa.Co
variable [Env]
open Go.RowKit
section
variable {P : Program} [Nice P] {c : Ctx} {st : AS} {ty : TypeId} {α : Type} {f : α → List Lf} {sz : Nat}
end
end Go.Proofs.Ytnphcnhejgpjgaa.Abs
end
section
namespace Go.Proofs.Ytnphcnhejgpjgaa.Abs
open Go.Proofs.Ytnphcnhejgpjgaa.Co
variable [Env]
open Go.RowKit
section
variable {P : Program} [Nice P] {c : Ctx} {t : Nat → AV} {m : List Blk} {ops : Array Oper} {Q : Exit → AS → Prop} {rest : List Oper} {ty : TypeId} {pos : String} {af : Array Edge} {d : Tmp} {α : Type} {f : α → List Lf} {sz : Nat}
end
section
variable {P : Program} [Nice P] {c : Ctx} {t : Nat → AV} {m : List Blk} {ops : Array Oper} {Q : Exit → AS → Prop}
end
end Go.Proofs.Ytnphcnhejgpjgaa.Abs
end
section
namespace Go.Proofs.Ytnphcnhejgpjgaa.Abs
open Go.Proofs.Ytnphcnhejgpjgaa.Co
variable [Env]
open Go.RowKit
omit [Env] in
theorem hole_rel {c : Ctx} {t : Nat → AV} {m : List Blk} {a : Act} {w : World} {S : Stab} {H : Nat → Value} (r : Rel c ⟨t, m⟩ a w S H) : Rel c ⟨t, m ++ [.hole]⟩ a w S (setH H m.length undef) := by
  refine r.change (p := m.length) (b' := .hole) (v := undef) (by simp) (by simp) (fun q hq => ?_) (fun b i h => ⟨h, rfl⟩) (fun g h => absurd h (Nat.lt_irrefl _)) (fun e sz k cs h => absurd h (Nat.lt_irrefl _))
    (fun g _ _ => rfl) rfl (fun g hg => by cases hg) (fun q b g i _ _ _ h => h) (fun g i _ _ h => h) r.sl.two (Nat.le_refl _) rfl rfl rfl (fun _ h => absurd h (Nat.lt_irrefl _))
  rcases Nat.lt_or_ge q m.length with h | h
  · rw [List.getElem?_append_left h]
  · rw [List.getElem?_eq_none (by simp; omega), List.getElem?_eq_none h]
omit [Env] in
theorem Rel.fillBox {c : Ctx} {t : Nat → AV} {m : List Blk} {a : Act} {w : World} {S : Stab} {H : Nat → Value} (r : Rel c ⟨t, m⟩ a w S H) {p : Nat} (hm : m[p]? = some .hole) {e : TypeId} {cells : Array Value} {ls : List Lf} (hls : LsR (GRep w S m H) ls cells.toList) :
    Rel c ⟨t, m.set p (.box ls)⟩ a (w.alloc (.cells cells e)) S (setH H p (.pointer (some ⟨w.heap.size, 0, none⟩))) := by
  have hx : Ext w S (w.alloc (.cells cells e)) S := Ext.alloc w S _
  have hp : p < m.length := (List.getElem?_eq_some_iff.1 hm).1
  have hH : H p = undef := r.bl p _ hm
  have hf := r.fresh (Nat.le_refl w.heap.size)
  have hkeep : ∀ b i, S b i → S b i ∧ (w.alloc (.cells cells e)).cell? ⟨b, i, none⟩ = w.cell? ⟨b, i, none⟩ := fun b i h => hx.keeps r.sl b i h
  have hoth : ∀ q, q ≠ p → (m.set p (.box ls))[q]? = m[q]? := fun q hq => List.getElem?_set_ne (fun e => hq e.symm)
  have hgr : ∀ l v, GRep w S m H l v → GRep (w.alloc (.cells cells e)) S (m.set p (.box ls)) (setH H p (.pointer (some ⟨w.heap.size, 0, none⟩))) l v := fun l v =>
    GRep.mono2 hkeep (by simp) (fun q g hq hh => by
      by_cases e1 : q = p
      · subst e1; exact (undef_ne (hH.symm.trans hh)).elim
      · exact setH_other H _ e1) (fun q _ hne => by
      by_cases e1 : q = p
      · subst e1; exact absurd hH hne
      · rw [setH_other H _ e1]; exact hne) (fun q e1 sz k cs hq hm1 => by
      by_cases e2 : q = p
      · subst e2; rw [List.getElem?_set_self hp] at hm1; cases hm1
      · rw [hoth q e2] at hm1
        exact ⟨k, cs, hm1, .inl ⟨rfl, setH_other H _ e2⟩⟩)
  refine r.change (p := p) (b' := .box ls) (by simp) (List.getElem?_set_self hp) hoth hkeep (fun g _ h => (undef_ne (hH.symm.trans h)).elim) (fun e sz k cs _ h => by cases h)
    (fun g hg _ => hx.blk g hg) ⟨w.heap.size, e, cells, rfl, heap_alloc_new w _, hls.mono hgr⟩ (fun g hg => ?_) (fun q b g i _ _ _ h => h) (fun g i _ _ h => h) (r.sl.ext hx).two hx.size rfl rfl rfl
  have hg' : w.heap.size = g := by simpa [Blk.own, ownOf] using hg
  subst hg'
  exact ⟨.inl r.ex.size, by simp, fun q b _ hb => hf.1 q b hb, fun i hi => absurd hi (hf.2 i)⟩
section
variable {P : Program} [Nice P] {c : Ctx} {t : Nat → AV} {m : List Blk} {ops : Array Oper} {Q : Exit → AS → Prop} {rest : List Oper} {ty : TypeId} {pos : String} {af : Array Edge} {d : Tmp}
omit [Nice P] in
theorem chole {x : Code} (k : AWC P c x Q ⟨t, m ++ [.hole]⟩) : AWC P c x Q ⟨t, m⟩ := awc_of _ (fun _ _ S _ r => ⟨S, _, hole_rel r⟩) k
omit [Nice P] in
theorem salloc_at {tt : TypeId} {zl : List Lf} (p : Nat) (hd : decide (d < c.nt) = true) (zi : ZI P tt zl) (hm : m[p]? = some .hole)
    (k : AWL P c ops Q rest ⟨upd t d (.s (.one (.lp p 0))), m.set p (.box zl)⟩) : AWL P c ops Q (⟨some d, .alloc tt, ty, pos, af, none⟩ :: rest) ⟨t, m⟩ := by
  obtain ⟨i, z, hi, hz, hl, ho⟩ := zi.h
  subst hl
  refine awl_at fun a w S H r => ?_
  refine wpListP_plain rfl fun K hK => ?_
  unfold operK
  have hrun : (execOp a.eval ⟨some d, .alloc tt, ty, pos, af, none⟩).run P w = .ok (.value (.pointer (some ⟨w.heap.size, 0, none⟩))) (w.alloc (.cells z.cells tt)) := by simp [execOp, Instr.alloc, zeroValue, typeInfo, hi, hz, newVar, newRow]
  rw [hrun]
  have r' := r.fillBox (e := tt) (cells := z.cells) hm (clf_list ho)
  have hp : p < m.length := (List.getElem?_eq_some_iff.1 hm).1
  exact hK _ _ (k _ _ _ _ (r'.put (d := d) (x := .s (.one (.lp p 0))) (of_decide_eq_true hd) ⟨by simpa using hp, w.heap.size, setH_same _ _ _, rfl⟩))
end
end Go.Proofs.Ytnphcnhejgpjgaa.Abs
end
section
namespace Go.Proofs.Ytnphcnhejgpjgaa.Abs
open Go.Proofs.Ytnphcnhejgpjgaa.Co
variable [Env]
open Go.RowKit
def eqLf : Lf → Lf → Option Bool
  | .i k n, .i k' m => if k = k' then some (decide (n = m)) else none
  | .b x, .b y => some (x == y)
  | .s x, .s y => some (x.toList == y.toList)
  | _, _ => none
def eqLs : List Lf → List Lf → Option Bool
  | [], [] => some true
  | a :: l, b :: r => match eqLf a b, eqLs l r with
    | some x, some y => some (x && y)
    | _, _ => none
  | _, _ => none
def Lf.tag : Lf → Nat
  | .i _ _ => 0
  | .b _ => 1
  | .s _ => 2
  | _ => 3
def tagOf : Option TypeDesc → Nat
  | some (.int _) => 0
  | some .bool => 1
  | some .string => 2
  | _ => 4
def flatF (P : Program) : Nat → List Field → List Nat → Bool
  | _, [], [] => true
  | i, f :: r, k :: ks => f.name != "_" && f.offset == i && tagOf (P.underlying f.type) == k && flatF P (i + 1) r ks
  | _, _, _ => false
omit [Env] in
theorem part_flat {P : Program} [Nice P] {w : World} {t : TypeId} {xs : Array Value} {i : Nat} {v : Value} (h : tagOf (P.underlying t) < 4) (hv : xs[i]? = some v) : (part t xs i).run P w = .ok v w := by
  cases hu : P.underlying t with
  | none => rw [hu] at h; simp [tagOf] at h
  | some d => rw [hu] at h; cases d <;> simp [tagOf] at h <;> simp [part, isAgg, run_underlying hu, hv]
omit [Env] in
theorem eqFields_flat {P : Program} [Nice P] {S : Stab} {m : List Blk} {H : Nat → Value} {w : World} {d : Nat} {xs ys : Array Value} : ∀ (fs : List Field) (i : Nat) (ls ls' : List Lf) (b : Bool), flatF P i fs (ls.map Lf.tag) = true → ls.map Lf.tag = ls'.map Lf.tag → eqLs ls ls' = some b →
    (∀ j l, ls[j]? = some l → ∃ v, xs[i + j]? = some v ∧ GRep w S m H l v) → (∀ j l, ls'[j]? = some l → ∃ v, ys[i + j]? = some v ∧ GRep w S m H l v) →
    (Op.eqFields (d + 1) xs ys fs).run P w = .ok b w
  | [], i, ls, ls', b, hf, _, he, _, _ => by
    cases ls with
    | cons _ _ => cases hf
    | nil =>
      cases ls' with
      | nil => cases he; rfl
      | cons _ _ => cases he
  | f :: fs, i, [], ls', b, hf, _, _, _, _ => by cases hf
  | f :: fs, i, l :: ls, [], b, _, _, he, _, _ => by cases he
  | f :: fs, i, l :: ls, l' :: ls', b, hf, hl, he, hx, hy => by
    simp only [List.map_cons, flatF, Bool.and_eq_true, bne_iff_ne, ne_eq, beq_iff_eq] at hf
    obtain ⟨⟨⟨h1, h2⟩, h3⟩, h4⟩ := hf
    simp only [List.map_cons, List.cons.injEq] at hl
    obtain ⟨hl1, hl2⟩ := hl
    obtain ⟨v, hv, hr⟩ := hx 0 l rfl
    obtain ⟨v', hv', hr'⟩ := hy 0 l' rfl
    unfold eqLs at he
    cases e1 : eqLf l l' with
    | none => rw [e1] at he; cases he
    | some x =>
    cases e2 : eqLs ls ls' with
    | none => rw [e1, e2] at he; cases he
    | some y =>
    rw [e1, e2] at he
    obtain rfl : (x && y) = b := Option.some.inj he
    have ht4 : tagOf (P.underlying f.type) < 4 := by
      rw [h3]; cases l <;> simp [Lf.tag]
    have heq : (Op.equalIn (d + 1) f.type v v').run P w = .ok x w := by
      cases hu : P.underlying f.type with
      | none => rw [hu] at ht4; simp [tagOf] at ht4
      | some dd =>
        rw [hu] at h3
        cases l <;> cases l' <;> simp only [eqLf, reduceCtorEq, Option.some.injEq] at e1
        · rename_i k n k' m'
          by_cases hk : k = k'
          · subst hk
            rw [if_pos rfl] at e1
            obtain rfl := Option.some.inj e1
            have q1 : v = _ := rep_i hr
            have q2 : v' = _ := rep_i hr'
            subst q1 q2
            cases dd <;> simp [tagOf, Lf.tag] at h3
            exact (run_equalIn_int w d f.type _ _ _ _ hu).trans (by rw [go_beq])
          · rw [if_neg hk] at e1; cases e1
        · subst e1
          have q1 : v = _ := rep_b hr
          have q2 : v' = _ := rep_b hr'
          subst q1 q2
          cases dd <;> simp [tagOf, Lf.tag] at h3
          simp [Op.equalIn, run_underlying hu]
        · subst e1
          have q1 : v = _ := rep_s hr
          have q2 : v' = _ := rep_s hr'
          subst q1 q2
          cases dd <;> simp [tagOf, Lf.tag] at h3
          simp [Op.equalIn, run_underlying hu, beq_toListBytes]
    have ih := eqFields_flat (d := d) fs (i + 1) ls ls' y h4 hl2 e2 (fun j l h => by have := hx (j + 1) l (by simpa using h); rwa [show i + (j + 1) = i + 1 + j by omega] at this) (fun j l h => by have := hy (j + 1) l (by simpa using h); rwa [show i + (j + 1) = i + 1 + j by omega] at this)
    unfold Op.eqFields
    rw [Nat.add_zero] at hv hv'
    rw [if_pos h1, h2]
    simp only [Sem.run_bind, part_flat ht4 hv, part_flat ht4 hv', Result.andThen_ok, heq]
    cases x
    · simp
    · simp [ih]
section
variable {P : Program} [Nice P] {c : Ctx} {st : AS} {ty : TypeId} {xt yt : TypeId} {x y : Operand}
structure EqT (P : Program) (t : TypeId) (n : List Nat) : Prop where
  u : P.underlying t = some (.struct (P.fieldsOf t))
  h : P.stoodInHeld t = false
  g : P.eqGuardType P.depth t = false
  f : flatF P 0 (P.fieldsOf t).toList n = true
omit [Env] in
theorem eq_run {n : List Nat} (et : EqT P xt n) {ls ls' : List Lf} {b : Bool} (hx : opnd st x = .s (.agg ls)) (hy : opnd st y = .s (.agg ls')) (hn : ls.map Lf.tag = n) (hn' : ls'.map Lf.tag = n) (he : eqLs ls ls' = some b) {a : Act} {w : World} {S : Stab} {H : Nat → Value} (r : Rel c st a w S H) :
    ∃ cs cs' : Array Value, a.eval x = .agg cs ∧ a.eval y = .agg cs' ∧ (Op.equalIn 10000 xt (.agg cs) (.agg cs')).run P w = .ok b w := by
  have h1 := opnd_rel r x
  rw [hx] at h1
  have h2 := opnd_rel r y
  rw [hy] at h2
  obtain ⟨cs, e1, g1⟩ := h1
  obtain ⟨cs', e2, g2⟩ := h2
  refine ⟨cs, cs', e1, e2, ?_⟩
  rw [run_equalIn_struct w 9999 xt cs cs' et.u et.h]
  refine eqFields_flat (d := 9998) (S := S) (m := st.m) (H := H) _ 0 ls ls' b (by rw [hn]; exact et.f) (hn.trans hn'.symm) he (fun j l h => ?_) (fun j l h => ?_)
  · obtain ⟨v, hv, hr⟩ := g1.get h
    exact ⟨v, by simpa using hv, hr⟩
  · obtain ⟨v, hv, hr⟩ := g2.get h
    exact ⟨v, by simpa using hv, hr⟩
omit [Env] in
theorem opv_stneq {n : List Nat} (et : EqT P xt n) {ls ls' : List Lf} {b : Bool} (hx : opnd st x = .s (.agg ls)) (hy : opnd st y = .s (.agg ls')) (hn : ls.map Lf.tag = n) (hn' : ls'.map Lf.tag = n) (he : eqLs ls ls' = some b) : OpV P c st (.binOp .neq xt x y yt) ty (.s (.one (.b (!b)))) := by
  intro a w S H r
  obtain ⟨cs, cs', e1, e2, h⟩ := eq_run et hx hy hn hn' he r
  refine ⟨.bool (!b), avr_rep (.b _), fun _ _ _ _ => ?_⟩
  simp only [execOp, e1, e2, Sem.run_bind, run_eqGuard_agg w _ xt x y cs cs' et.g, Result.andThen_ok, run_neq_struct, h]
  rfl
end
end Go.Proofs.Ytnphcnhejgpjgaa.Abs
end
section
namespace Go.Proofs.Ytnphcnhejgpjgaa.Abs
open Go.Proofs.Ytnphcnhejgpjgaa.Co
variable [Env]
open Go.RowKit
section
variable {P : Program} [Nice P] {c : Ctx} {st : AS} {ty : TypeId} {α : Type} {f : α → List Lf} {sz : Nat}
end
def tabD {H : Type} (rows : List (List Bool)) : DataW H := .agg (rows.map fun r => .agg (r.map fun b => .lit (.bool b)))
def boolFields (P : Program) : List Field → Nat → Bool
  | [], _ => true
  | f :: fs, i => f.offset == i && (P.cellsOf f.type == 1 && ((match P.underlying f.type with | some .bool => true | _ => false) && boolFields P fs (i + 1)))
omit [Env] in
theorem boolFields_at {P : Program} [Nice P] : ∀ {fs : List Field} {i j : Nat} {f : Field}, boolFields P fs i = true → fs[j]? = some f → f.offset = i + j ∧ P.cellsOf f.type = 1 ∧ P.underlying f.type = some .bool
  | f :: fs, i, 0, g, h, hg => by
    simp only [boolFields, Bool.and_eq_true, beq_iff_eq] at h
    simp at hg; subst hg
    refine ⟨h.1, h.2.1, ?_⟩
    have := h.2.2.1
    split at this
    · assumption
    · cases this
  | f :: fs, i, j + 1, g, h, hg => by
    simp only [boolFields, Bool.and_eq_true] at h
    obtain ⟨a, b, c⟩ := boolFields_at (j := j) h.2.2.2 (by simpa using hg)
    exact ⟨by omega, b, c⟩
  | [], i, j, g, h, hg => by simp at hg
omit [Env] in
theorem tab_cells {P : Program} [Nice P] {H : Type} {enc : TypeId × Value → H} {w : World} {base fuel t n e k : Nat} {spare : Nat → Bool} {held : Bool} {fs : Array Field} {cs : List Value} {rows : List (List Bool)} {q : List MemPlace}
    (ht : P.underlying t = some (.array n e)) (he : P.underlying e = some (.struct fs)) (hk : P.cellsOf e = k) (hb : boolFields P fs.toList 0 = true)
    (h : DataW.trod enc P w base spare held fuel t cs = some (tabD rows, q)) :
    ∀ (i j : Nat) (r : List Bool) (b : Bool), rows[i]? = some r → r[j]? = some b → j < k ∧ cs[i * k + j]? = some (.bool b) := by
  intro i j r b hi hj
  obtain ⟨xs, m, rfl, hx, hlen, hxl, hel⟩ := DataW.trod_array ht h
  simp only [tabD, Prod.mk.injEq, DataW.agg.injEq] at hx
  have hx1 := hx.1
  have hin : i < n := by
    have := congrArg List.length hx1
    simp at this
    have := (List.getElem?_eq_some_iff.1 hi).1
    omega
  have hE := hel i hin
  have hxi : xs[i]? = some (xs[i]'(by omega)) := List.getElem?_eq_getElem _
  have hd : (xs[i]'(by omega)).1 = .agg (r.map fun b => .lit (.bool b)) := by
    have := congrArg (fun l => l[i]?) hx1
    simp only [List.getElem?_map, hi, hxi, Option.map_some, Option.some.injEq] at this
    exact this.symm
  rw [hxi, hk] at hE
  obtain ⟨ys, m', rfl, hy, hlen', hyl, hel'⟩ := DataW.trod_struct he hE
  rw [hy] at hd
  simp only [DataW.agg.injEq] at hd
  have hjn : j < fs.size := by
    have := congrArg List.length hd
    simp at this
    have := (List.getElem?_eq_some_iff.1 hj).1
    omega
  obtain ⟨f1, f2, f3⟩ := boolFields_at (j := j) hb (f := fs[j]) (by simp [hjn])
  have hE' := hel' j fs[j] (by simp [hjn])
  have hyj : ys[j]? = some (ys[j]'(by omega)) := List.getElem?_eq_getElem _
  have hdj : (ys[j]'(by omega)).1 = .lit (.bool b) := by
    have := congrArg (fun l => l[j]?) hd
    simp only [List.getElem?_map, hj, hyj, Option.map_some, Option.some.injEq] at this
    exact this
  rw [hyj, f2] at hE'
  obtain ⟨b', hc, hv⟩ := DataW.trod_bool f3 hE'
  rw [hv] at hdj
  simp only [DataW.lit.injEq, Lit.bool.injEq] at hdj
  subst hdj
  have e1 := congrArg (fun l => l[0]?) hc
  simp only [List.getElem?_cons_zero, List.getElem?_take, List.getElem?_drop, f1] at e1
  have hjk : j < k := by
    by_cases hjk : j < k
    · exact hjk
    · have : (0 + j + 0) = j := by omega
      rw [this, if_neg hjk] at e1
      simp at e1
  refine ⟨hjk, ?_⟩
  have e2 : (0 + j + 0) = j := by omega
  rw [e2, if_pos hjk] at e1
  simpa using e1
omit [Env] in
theorem flat_ix {α : Type} {k : Nat} : ∀ {rows : List (List α)} {p : Nat} {x : α}, (∀ r ∈ rows, r.length = k) → rows.flatten[p]? = some x → ∃ i j r, rows[i]? = some r ∧ r[j]? = some x ∧ p = i * k + j
  | [], p, x, _, h => by simp at h
  | r :: rows, p, x, hk, h => by
    rw [List.flatten_cons] at h
    by_cases hp : p < r.length
    · rw [List.getElem?_append_left hp] at h
      exact ⟨0, p, r, rfl, h, by simp⟩
    · rw [List.getElem?_append_right (by omega)] at h
      obtain ⟨i, j, r', h1, h2, h3⟩ := flat_ix (fun r hr => hk r (List.mem_cons_of_mem _ hr)) h
      refine ⟨i + 1, j, r', by simpa using h1, h2, ?_⟩
      have := hk r (List.mem_cons_self ..)
      rw [Nat.add_mul]; omega
omit [Env] in
theorem tab_rep {P : Program} [Nice P] {W : World} {name : String} {g t n e k : Nat} {fs : Array Field} {rows : List (List Bool)} (h : laidMetH P [(name, tabD rows)] W)
    (hg : P.globalNamed name = some g) (htp : (P.globals[g]?).map (·.type) = some t) (ht : P.underlying t = some (.array n e)) (he : P.underlying e = some (.struct fs)) (hk : P.cellsOf e = k) (hb : boolFields P fs.toList 0 = true)
    (hr : ∀ r ∈ rows, r.length = k) : Rep W (allS W) (.cp (rows.flatten.map .b)) (.pointer (some ⟨g, 0, none⟩)) := by
  rw [MakeChecks.laidMetH_plain _ _ _ rfl] at h
  obtain ⟨ps, ⟨g0, t0, cs0, f0, p0, q0, hg0, ht0, hv0, hd0, _, _⟩, _, _⟩ := h
  obtain rfl := Option.some.inj (hg.symm.trans hg0)
  obtain rfl := Option.some.inj (htp.symm.trans ht0)
  have hc : ∀ (j : Nat) (l : Lf), (rows.flatten.map Lf.b)[j]? = some l → ∃ b, l = .b b ∧ W.cell? ⟨g, 0 + j, none⟩ = some (.bool b) := by
    intro j l hj
    rw [List.getElem?_map] at hj
    cases hx : rows.flatten[j]? with
    | none => rw [hx] at hj; cases hj
    | some b =>
      rw [hx] at hj
      cases hj
      obtain ⟨i, j', r, h1, h2, h3⟩ := flat_ix hr hx
      obtain ⟨_, h4⟩ := tab_cells ht he hk hb hd0 i j' r b h1 h2
      refine ⟨b, rfl, ?_⟩
      have := World.var?_cell hg hv0 j
      rw [Nat.zero_add, this]
      rw [h3]
      simpa using h4
  refine .cp _ g 0 (fun j => (W.cell? ⟨g, 0 + j, none⟩).getD undef) (fun j l hj => ?_) (fun j l hj => ?_)
  · obtain ⟨b, _, h1⟩ := hc j l hj
    exact ⟨⟨_, h1⟩, by rw [h1]; rfl⟩
  · obtain ⟨b, rfl, h1⟩ := hc j l hj
    show Rep _ _ _ ((W.cell? ⟨g, 0 + j, none⟩).getD undef)
    rw [h1]
    exact .b b
end Go.Proofs.Ytnphcnhejgpjgaa.Abs
end
section
namespace Go.Proofs.Ytnphcnhejgpjgaa.Abs
open Go.Proofs.Ytnphcnhejgpjgaa.Co
variable [Env]
open Go.RowKit
structure DrawOkL (ops : Array Oper) (n : Nat) : Prop where
  sz : ops.size = n + 1
  dst : ∀ (i : Nat) (o : Oper), ops[i]? = some o → ∃ d, o.dst = some d
  lt : ∀ (i : Nat) (o : Oper), ops[i]? = some o → ∀ e ∈ o.after, e.on < i
  ne : ∀ (i : Nat) (o : Oper) (j : Nat) (p : Oper), ops[i]? = some o → ops[j]? = some p → i ≠ j → o.dst ≠ p.dst
  ed : ∀ (i : Nat) (o : Oper) (j : Nat) (p : Oper) (d : Tmp), ops[i]? = some o → ops[j]? = some p → p.dst = some d → j < n → d ∈ o.looksAt ops → ∃ e ∈ o.after, e.on = j ∧ Region.binds .any e = true
  all : ∀ (o : Oper) (j : Nat), ops[n]? = some o → j < n → ∃ e ∈ o.after, e.on = j ∧ Region.binds .any e = true
section
variable {P : Program} [Nice P] {c : Ctx} {t : Nat → AV} {m : List Blk} {Q : Exit → AS → Prop}
omit [Nice P] in
theorem DR.split {ops : Array Oper} {k : (Nat → AV) → Prop} : ∀ {l : List Oper} {o : Oper} {t : Nat → AV}, DR P c m ops k (l ++ [o]) t → DR P c m ops (fun T => ∃ x d, o.dst = some d ∧ d < c.nt ∧ Good1 P c m ops T o x ∧ k (upd T d x)) l t
  | [], o, t, h => by
    obtain ⟨x, d, h1, h2, h3, h4⟩ := h
    exact ⟨x, d, h1, h2, h3, h4⟩
  | o' :: l, o, t, h => by
    obtain ⟨x, d, h1, h2, h3, h4⟩ := h
    exact ⟨x, d, h1, h2, h3, DR.split h4⟩
end
end Go.Proofs.Ytnphcnhejgpjgaa.Abs
end
section
namespace Go.Proofs.Ytnphcnhejgpjgaa.Abs
open Go.Proofs.Ytnphcnhejgpjgaa.Co
variable [Env]
open Go.RowKit
section
variable {P : Program} [Nice P] {c : Ctx} {st : AS} {ty : TypeId} {α : Type} {f : α → List Lf} {sz : Nat}
end
end Go.Proofs.Ytnphcnhejgpjgaa.Abs
end
section
namespace Go.Proofs.Ytnphcnhejgpjgaa.Abs
open Go.Proofs.Ytnphcnhejgpjgaa.Co
variable [Env]
open Go.RowKit
structure FT (P : Program) (s : TypeId) (f off : Nat) (ft : TypeId) : Prop where
  h : ∃ fs fld, P.underlying s = some (.struct fs) ∧ fs[f]? = some fld ∧ fld.offset = off ∧ fld.type = ft
section
variable {P : Program} [Nice P] {c : Ctx} {st : AS} {ty : TypeId}
omit [Env] in
theorem opv_field1 {s f off ft : Nat} {x : Operand} {ls : List Lf} {y : Lf} (h : FT P s f off ft) (ti : TI P ft false 1) (hx : opnd st x = .s (.agg ls)) (hy : ls[off]? = some y) : OpV P c st (.field s x f) ty (.s (.one y)) := by
  intro a w S H r
  have h1 := opnd_rel r x
  rw [hx] at h1
  obtain ⟨cs, hv, hl, hr⟩ := h1
  obtain ⟨fs, fld, hu, hf, ho, ht⟩ := h.h
  have hj : off < cs.size := by
    have := (List.getElem?_eq_some_iff.1 hy).1
    rw [hl] at this
    simpa using this
  have hg : cs[off]? = some cs[off] := Array.getElem?_eq_getElem hj
  refine ⟨cs[off], hr off y _ hy (by simp), fun _ _ _ _ => ?_⟩
  subst ho ht
  simp [execOp, hv, Instr.field, run_underlying hu, hf, part, asAgg, ti.run_isAgg, hg]
end
end Go.Proofs.Ytnphcnhejgpjgaa.Abs
end
section
namespace Go.Proofs.Ytnphcnhejgpjgaa.Abs
open Go.Proofs.Ytnphcnhejgpjgaa.Co
variable [Env]
open Go.RowKit
section
variable {P : Program} [Nice P] {c : Ctx} {t : Nat → AV} {m : List Blk} {ops : Array Oper} {Q : Exit → AS → Prop} {rest : List Oper} {ty : TypeId} {pos : String} {af : Array Edge} {d : Tmp} {α : Type} {f : α → List Lf} {sz : Nat}
end
end Go.Proofs.Ytnphcnhejgpjgaa.Abs
end
section
namespace Go.Proofs.Ytnphcnhejgpjgaa.Abs
open Go.Proofs.Ytnphcnhejgpjgaa.Co
variable [Env]
open Go.RowKit
section
variable {P : Program} [Nice P] {c : Ctx} {t : Nat → AV} {m : List Blk} {ops : Array Oper} {Q : Exit → AS → Prop} {rest : List Oper} {ty ty' : TypeId} {pos pos' : String} {af af' : Array Edge} {d d1 : Tmp} {α : Type} {f : α → List Lf} {sz : Nat}
end
end Go.Proofs.Ytnphcnhejgpjgaa.Abs
end
section
namespace Go.Proofs.Ytnphcnhejgpjgaa.Abs
open Go.Proofs.Ytnphcnhejgpjgaa.Co
variable [Env]
open Go.RowKit
section
variable {P : Program} [Nice P] {c : Ctx} {t : Nat → AV} {m : List Blk} {ops : Array Oper} {Q : Exit → AS → Prop} {rest : List Oper} {ty : TypeId} {pos : String} {af : Array Edge} {d : Tmp} {α : Type} {f : α → List Lf} {sz : Nat}
end
end Go.Proofs.Ytnphcnhejgpjgaa.Abs
end
section
namespace Go.Proofs.Ytnphcnhejgpjgaa.Abs
open Go.Proofs.Ytnphcnhejgpjgaa.Co
variable [Env]
open Go.RowKit
def FW (rd : Option Nat) : Fence := { Fence.wide with round := rd }
def dsl (a : Act) (ds : List Deferred) : Act := { a with defers := ds }
section
variable {P : Program} [Nice P] {ops : Array Oper} {K K' : Act → World → Prop} {Q1 Q2 : Exit → Act → World → Prop} {ds : List Deferred} {rd : Option Nat}
end
def Zed (w : World) (Z : List (Nat × Obj)) : Prop := ∀ x ∈ Z, w.heap[x.1]? = some x.2 ∧ isOwn x.2 = false
omit [Env] in
theorem Zed.ext {w w' : World} {S S' : Stab} {Z : List (Nat × Obj)} (x : Ext w S w' S') (z : Zed w Z) : Zed w' Z := fun y hy => by
  obtain ⟨h1, h2⟩ := z y hy
  exact ⟨(x.blk y.1 (Array.getElem?_eq_some_iff.1 h1).1).trans h1, h2⟩
end Go.Proofs.Ytnphcnhejgpjgaa.Abs
end
section
namespace Go.Proofs.Ytnphcnhejgpjgaa.Abs
open Go.Proofs.Ytnphcnhejgpjgaa.Co
variable [Env]
open Go.RowKit
structure FrK where
  ds : List Deferred
  Z : List (Nat × Obj)
def NoOut (Q : Exit → AS → Prop) : Prop := ∀ st, ¬ Q .outgrown st
def QI (c : Ctx) (ok : FrK → Prop) (K : FrK) (Q : Exit → AS → Prop) : Exit → Act → World → Prop := fun e a w =>
  ∃ K' st S H a0, ok K' ∧ (∀ z ∈ K.Z, z ∈ K'.Z) ∧ a = dsl a0 K'.ds ∧ Rel c st a0 w S H ∧ Zed w K'.Z ∧ Q e st
def AWI (rd : Option Nat) (P : Program) (c : Ctx) (ok : FrK → Prop) (x : Code) (Q : Exit → AS → Prop) (st : AS) : Prop :=
  NoOut Q → ∀ K, ok K → ∀ a w S H, Rel c st a w S H → Zed w K.Z → x.wpIn (FW rd) 0 P (QI c ok K Q) (dsl a K.ds) w
section
variable {rd : Option Nat} {P : Program} [Nice P] {c : Ctx} {ok : FrK → Prop} {Q : Exit → AS → Prop} {t : Nat → AV} {m : List Blk}
omit [Env] in
theorem NoOut.then {n : AS → Prop} (h : NoOut Q) : NoOut (thenA n Q) := fun st hs => h st hs
omit [Env] in
theorem NoOut.block {id : Nat} (h : NoOut Q) : NoOut (inBlockA id Q) := fun st hs => h st hs
omit [Env] [Nice P] in
theorem AWI.mono {x : Code} {st : AS} {Q Q' : Exit → AS → Prop} (h : AWI rd P c ok x Q st) (hq : ∀ e st, Q e st → Q' e st) : AWI rd P c ok x Q' st := by
  intro hn K hK a w S H r z
  refine wpIn_mono (h (fun st hs => hn st (hq _ _ hs)) K hK a w S H r z) ?_
  rintro e a w ⟨K', st, S, H, a0, h1, h2, h3, h4, h5, h6⟩
  exact ⟨K', st, S, H, a0, h1, h2, h3, h4, h5, hq _ _ h6⟩
end
section
variable {rd : Option Nat} {P : Program} [Nice P] {c : Ctx} {ok : FrK → Prop} {Q : Exit → AS → Prop} {t : Nat → AV} {M : List Blk}
end
structure KeptS (w : World) (S : Stab) (w' : World) (S' : Stab) : Prop where
  st : ∀ b i, S b i → S' b i ∧ w'.cell? ⟨b, i, none⟩ = w.cell? ⟨b, i, none⟩
  sl : InH w' S'
def RQ {G : Type} (mm : G → List Blk) (pre : G → Prop) (jmp : Code → G → Prop) : Exit → AS → Prop
  | .normal, st => ∃ g ex, pre g ∧ st.m = mm g ++ ex
  | .ret, st => ∃ g ex, jmp .ret g ∧ st.m = mm g ++ ex
  | .exit id, st => ∃ g ex, jmp (.exit id) g ∧ st.m = mm g ++ ex
  | _, _ => False
section
variable {P : Program} [Nice P] {c : Ctx} {Q : Exit → AS → Prop} {t : Nat → AV} {m : List Blk}
end
end Go.Proofs.Ytnphcnhejgpjgaa.Abs
end
section
namespace Go.Proofs.Ytnphcnhejgpjgaa.Abs
open Go.Proofs.Ytnphcnhejgpjgaa.Co
variable [Env]
open Go.RowKit
section
variable {P : Program} [Nice P] {c : Ctx} {ops : Array Oper} {Q : Exit → AS → Prop} {rest : List Oper} {ty : TypeId} {pos : String} {af : Array Edge} {d : Tmp} {t : Nat → AV} {m : List Blk}
end
abbrev YK := World → Stab → Prop
omit [Env] in
theorem Rel.kept {t : Nat → AV} {a : Act} {w w' : World} {S S' : Stab} {H : Nat → Value} {nt : Nat} (r : Rel (Ctx.of w S nt) ⟨t, []⟩ a w S H) (h : KeptS w S w' S') : Rel (Ctx.of w' S' nt) ⟨t, []⟩ a w' S' H :=
  ⟨r.nt, r.df, fun i => AVR.mono (fun l v => GRep.mono h.st (Nat.le_refl _) (fun _ _ => rfl) (fun p e sz k cs hp _ => by simp at hp)) (r.tm i), fun p b h => by simp at h, fun p b g h => by simp at h, fun p q b b' g h => by simp at h, fun p b g i h => by simp at h, h.sl, ExtX.refl _ w' S', Nat.zero_le _, fun p g h => absurd h (Nat.not_lt_zero _), fun p e sz k cs h => absurd h (Nat.not_lt_zero _), fun p h => absurd h (Nat.not_lt_zero _)⟩
section
variable {P : Program} [Nice P] {nt : Nat} {Q : Exit → (Nat → AV) → YK → Prop} {K : YK} {t : Nat → AV}
end
end Go.Proofs.Ytnphcnhejgpjgaa.Abs
end
section
namespace Go.Proofs.Ytnphcnhejgpjgaa.Abs
open Go.Proofs.Ytnphcnhejgpjgaa.Co
variable [Env]
open Go.RowKit
section
variable {P : Program} [Nice P] {c : Ctx} {Q : Exit → AS → Prop} {t : Nat → AV} {m : List Blk}
omit [Env] in
theorem RQ.mono {G : Type} {mm : G → List Blk} {p p' : G → Prop} {j j' : Code → G → Prop} (hp : ∀ g, p g → p' g) (hj : ∀ c g, j c g → j' c g) : ∀ e st, RQ mm p j e st → RQ mm p' j' e st := by
  intro e st h
  cases e with
  | normal => obtain ⟨g, ex, h1, h2⟩ := h; exact ⟨g, ex, hp g h1, h2⟩
  | ret => obtain ⟨g, ex, h1, h2⟩ := h; exact ⟨g, ex, hj _ g h1, h2⟩
  | exit id => obtain ⟨g, ex, h1, h2⟩ := h; exact ⟨g, ex, hj _ g h1, h2⟩
  | _ => exact h
end
end Go.Proofs.Ytnphcnhejgpjgaa.Abs
end
section
namespace Go.Proofs.Ytnphcnhejgpjgaa.Abs
open Go.Proofs.Ytnphcnhejgpjgaa.Co
variable [Env]
open Go.RowKit
section
variable {P : Program} [Nice P]
end
section
variable {P : Program} [Nice P] {c : Ctx} {t : Nat → AV} {m : List Blk} {Q : Exit → AS → Prop}
omit [Nice P] in
theorem AWL.go {ops : Array Oper} {l : List Oper} {st : AS} (h : AWL P c ops Q l st) (a : Act) (w : World) (S : Stab) (H : Nat → Value) (r : Rel c st a w S H) : wpListK P ops (QR c Q) l a w := h a w S H r
end
end Go.Proofs.Ytnphcnhejgpjgaa.Abs
end
section
namespace Go.Proofs.Ytnphcnhejgpjgaa.Abs
open Go.Proofs.Ytnphcnhejgpjgaa.Co
variable [Env]
open Go.RowKit
abbrev MTbl := List (List Bool × List Blk)
def look : MTbl → List Bool → Option (List Blk)
  | [], _ => none
  | (b, M) :: r, bits => if b == bits then some M else look r bits
def consB (ws es : List Nat) (i : Nat) (bits : List Bool) : Bool := (es.zip bits).all fun x => (!((ws.getD i 0).testBit x.1) || x.2) && (!(x.1 == i || (ws.getD x.1 0).testBit i) || !x.2)
def AllE (p : List Bool → Bool) (Q : List Bool → List Blk → Prop) (tbl : MTbl) : Prop := ∀ e ∈ tbl, p e.1 = true → Q e.1 e.2
section
variable {P : Program} [Nice P] {c : Ctx} {t : Nat → AV} {m : List Blk} {Q : Exit → AS → Prop}
def GoodM (P : Program) (c : Ctx) (ops : Array Oper) (ws es : List Nat) (tbl : MTbl) (i : Nat) (t : Nat → AV) (o : Oper) (x : AV) : Prop :=
  (∃ md, Good1 P c md ops t o x ∧ AllE (consB ws es i) (fun _ M => Lift md M) tbl) ∨ AllE (consB ws es i) (fun _ M => Good1 P c M ops t o x) tbl
theorem GoodM.congr {ops : Array Oper} {ws es : List Nat} {tbl : MTbl} {i : Nat} {t t' : Nat → AV} {o : Oper} {x : AV} (h : GoodM P c ops ws es tbl i t o x) (ht : ∀ y ∈ o.looksAt ops, t y = t' y) : GoodM P c ops ws es tbl i t' o x := by
  rcases h with ⟨md, h1, h2⟩ | h
  · exact .inl ⟨md, h1.congr ht, h2⟩
  · exact .inr fun e he hp => (h e he hp).congr ht
def DM (P : Program) (c : Ctx) (ops : Array Oper) (ws es : List Nat) (tbl : MTbl) (k : (Nat → AV) → Prop) : Nat → List Oper → (Nat → AV) → Prop
  | _, [], t => k t
  | i, o :: rest, t =>
    (es.contains i = false ∧ ∃ x d, o.dst = some d ∧ d < c.nt ∧ GoodM P c ops ws es tbl i t o x ∧ DM P c ops ws es tbl k (i + 1) rest (upd t d x)) ∨
    (∃ j x, es[j]? = some i ∧ GYes ops t o ∧ AllE (consB ws es i) (fun b M => ∃ M', look tbl (b.set j true) = some M' ∧ EffS P c ops t M M' o x) tbl ∧ (∀ d, o.dst = some d → d < c.nt) ∧
      DM P c ops ws es tbl k (i + 1) rest (match o.dst with | some d => upd t d x | none => t))
theorem DM.get {ops : Array Oper} {ws es : List Nat} {tbl : MTbl} {k : (Nat → AV) → Prop} : ∀ {l : List Oper} {i : Nat} {t : Nat → AV}, DM P c ops ws es tbl k i l t → (dsts l).Nodup → (∀ (q : Nat) (o : Oper), l[q]? = some o → ∀ y ∈ o.looksAt ops, y ∉ dsts (l.drop q)) →
    ∃ T, k T ∧ (∀ y, y ∉ dsts l → T y = t y) ∧ ∀ (q : Nat) (o : Oper), l[q]? = some o →
      (es.contains (i + q) = false ∧ ∃ d, o.dst = some d ∧ d < c.nt ∧ GoodM P c ops ws es tbl (i + q) T o (T d)) ∨
      (∃ j x, es[j]? = some (i + q) ∧ GYes ops T o ∧ AllE (consB ws es (i + q)) (fun b M => ∃ M', look tbl (b.set j true) = some M' ∧ EffS P c ops T M M' o x) tbl ∧ ∀ d, o.dst = some d → d < c.nt ∧ T d = x)
  | [], i, t, h, _, _ => ⟨t, h, fun _ _ => rfl, fun q o h => by simp at h⟩
  | o :: rest, i, t, h, hnd, hl => by
    have hlook : ∀ y ∈ o.looksAt ops, y ∉ dsts (o :: rest) := fun y hy => by simpa using hl 0 o rfl y hy
    have hlt : ∀ (q : Nat) (o' : Oper), rest[q]? = some o' → ∀ y ∈ o'.looksAt ops, y ∉ dsts (rest.drop q) := fun q o' h' y hy => by
      have := hl (q + 1) o' (by simpa using h') y hy
      simpa using this
    rcases h with ⟨hne, x, d, hd, hdn, hg, hr⟩ | ⟨j, x, h1, h6, h7, h8, hr⟩
    · have hds : dsts (o :: rest) = d :: dsts rest := by simp [dsts, hd]
      rw [hds] at hnd hlook
      have hnd' := List.nodup_cons.1 hnd
      obtain ⟨T, hk, hT, hG⟩ := DM.get hr hnd'.2 hlt
      have hTl : ∀ y ∈ o.looksAt ops, t y = T y := fun y hy => by
        have := hlook y hy
        simp only [List.mem_cons, not_or] at this
        rw [hT y this.2, upd_def, if_neg this.1]
      have hTd : T d = x := by rw [hT d hnd'.1, upd_def, if_pos rfl]
      refine ⟨T, hk, fun y hy => ?_, fun q o' h' => ?_⟩
      · rw [hds] at hy
        simp only [List.mem_cons, not_or] at hy
        rw [hT y hy.2, upd_def, if_neg hy.1]
      · cases q with
        | zero =>
          simp only [List.getElem?_cons_zero, Option.some.injEq] at h'
          subst h'
          exact .inl ⟨hne, d, hd, hdn, by rw [hTd]; exact hg.congr hTl⟩
        | succ q =>
          have := hG q o' (by simpa using h')
          rw [show i + 1 + q = i + (q + 1) by omega] at this
          exact this
    · have fin : ∀ {T : Nat → AV}, (∀ y ∈ o.looksAt ops, t y = T y) → AllE (consB ws es i) (fun b M => ∃ M', look tbl (b.set j true) = some M' ∧ EffS P c ops T M M' o x) tbl := fun hTl e he hp => by
        obtain ⟨M', h3, h4⟩ := h7 e he hp
        exact ⟨M', h3, h4.congr hTl⟩
      cases hd : o.dst with
      | none =>
        have hds : dsts (o :: rest) = dsts rest := by simp [dsts, hd]
        rw [hds] at hnd hlook
        rw [hd] at hr
        obtain ⟨T, hk, hT, hG⟩ := DM.get hr hnd hlt
        have hTl : ∀ y ∈ o.looksAt ops, t y = T y := fun y hy => (hT y (hlook y hy)).symm
        refine ⟨T, hk, fun y hy => hT y (by rw [hds] at hy; exact hy), fun q o' h' => ?_⟩
        cases q with
        | zero =>
          simp only [List.getElem?_cons_zero, Option.some.injEq] at h'
          subst h'
          exact .inr ⟨j, x, h1, h6.congr hTl, fin hTl, fun d h => by rw [hd] at h; cases h⟩
        | succ q =>
          have := hG q o' (by simpa using h')
          rw [show i + 1 + q = i + (q + 1) by omega] at this
          exact this
      | some d =>
        have hds : dsts (o :: rest) = d :: dsts rest := by simp [dsts, hd]
        rw [hds] at hnd hlook
        have hnd' := List.nodup_cons.1 hnd
        rw [hd] at hr
        obtain ⟨T, hk, hT0, hG⟩ := DM.get hr hnd'.2 hlt
        have hT : ∀ y, y ∉ dsts rest → T y = upd t d x y := hT0
        have hTl : ∀ y ∈ o.looksAt ops, t y = T y := fun y hy => by
          have := hlook y hy
          simp only [List.mem_cons, not_or] at this
          rw [hT y this.2, upd_def, if_neg this.1]
        have hTd : T d = x := by rw [hT d hnd'.1, upd_def, if_pos rfl]
        refine ⟨T, hk, fun y hy => ?_, fun q o' h' => ?_⟩
        · rw [hds] at hy
          simp only [List.mem_cons, not_or] at hy
          rw [hT y hy.2, upd_def, if_neg hy.1]
        · cases q with
          | zero =>
            simp only [List.getElem?_cons_zero, Option.some.injEq] at h'
            subst h'
            refine .inr ⟨j, x, h1, h6.congr hTl, fin hTl, fun d' h => ?_⟩
            rw [hd] at h
            cases h
            exact ⟨h8 d hd, hTd⟩
          | succ q =>
            have := hG q o' (by simpa using h')
            rw [show i + 1 + q = i + (q + 1) by omega] at this
            exact this
variable {ops : Array Oper} {ws es : List Nat} {tbl : MTbl} {k : (Nat → AV) → Prop} {rest : List Oper} {op : Op} {ty : TypeId} {pos : String} {af : Array Edge} {d : Tmp} {x : AV} {i : Nat}
end
end Go.Proofs.Ytnphcnhejgpjgaa.Abs
end
section
namespace Go.Proofs.Ytnphcnhejgpjgaa.Abs
open Go.Proofs.Ytnphcnhejgpjgaa.Co
variable [Env]
open Go.RowKit
section
variable {P : Program} [Nice P] {nt : Nat} {Q : Exit → (Nat → AV) → YK → Prop} {K : YK} {t : Nat → AV}
end
section
variable {P : Program} [Nice P] {c : Ctx} {ops : Array Oper} {ws es : List Nat} {tbl : MTbl} {k : (Nat → AV) → Prop} {t : Nat → AV} {rest : List Oper} {op : Op} {ty : TypeId} {pos : String} {af : Array Edge} {d : Tmp} {x : AV} {i : Nat}
end
end Go.Proofs.Ytnphcnhejgpjgaa.Abs
end
section
namespace Go.Proofs.Ytnphcnhejgpjgaa.Abs
open Go.Proofs.Ytnphcnhejgpjgaa.Co
variable [Env]
open Go.RowKit Go.Proofs Go.Lib
structure RowLeft (E sz b n : Nat) (w w' : World) (v : Value) (vals : List Value) : Prop where
  os : w'.os = w.os
  tape : w'.tape = w.tape
  output : w'.output = w.output
  size : w.heap.size ≤ w'.heap.size
  blk : ∀ g, g < w.heap.size → g ≠ b → w'.heap[g]? = w.heap[g]?
  row : ∃ G cap cur, (G = b ∨ w.heap.size ≤ G) ∧ v = .slice (some ⟨G, 0, none⟩) n cap ∧ w'.heap[G]? = some (.cells cur E (0, 0)) ∧ n ≤ cap ∧ cap ≤ maxLen ∧ cur.size = cap * sz ∧ cur.toList.take (n * sz) = vals
section
variable {P : Program} [Nice P] {c : Ctx} {Q : Exit → AS → Prop} {t : Nat → AV} {m : List Blk}
end
omit [Env] in
theorem Rel.fillRow {c : Ctx} {t : Nat → AV} {m : List Blk} {a : Act} {w w' : World} {S S' : Stab} {H H' : Nat → Value} (r : Rel c ⟨t, m⟩ a w S H) {p : Nat} (hm : m[p]? = some .hole) (hp0 : c.m0.length ≤ p) {e sz : Nat} {cs : List Lf}
    (hx : Ext w S w' S') (hin : InH w' S') (mem : Mem w' S' [.arr e sz 0 cs] H') (hown : ∀ g, ownOf (H' 0) = some g → w.heap.size ≤ g) :
    Rel c ⟨t, m.set p (.arr e sz 0 cs)⟩ a w' S' (setH H p (H' 0)) := by
  have hp : p < m.length := (List.getElem?_eq_some_iff.1 hm).1
  have hH : H p = undef := r.bl p _ hm
  obtain ⟨hsz, hk, n, vals, h1, h2, h3⟩ := mem.bl 0 _ rfl
  refine r.changeM (p := p) (b' := .arr e sz 0 cs) (v := H' 0) (by simp) (List.getElem?_set_self hp) (fun q hq => List.getElem?_set_ne (fun e => hq e.symm)) (hx.keeps r.sl) (fun g _ h => (undef_ne (hH.symm.trans h)).elim)
    (fun e sz k cs _ h _ => by rcases h with h | h; exact absurd hH h; omega) (fun g hg _ => hx.blk g hg) ⟨hsz, Nat.zero_le _, n, vals, h1, h2, fun _ _ _ h => absurd h (Nat.not_lt_zero _)⟩ (fun g hg => ?_)
    (fun q b g i _ hb ho hs => hx.back g i (r.lo q b g hb ho).2 hs) (fun g i hg _ hs => hx.back g i (Nat.lt_of_lt_of_le hg r.ex.size) hs) hin hx.size hx.os hx.tape hx.output
  have hge := hown g hg
  refine ⟨.inl (Nat.le_trans r.ex.size hge), mem.hp 0 _ g rfl hg, fun q b _ hb ho => ?_, fun i hs => mem.sb 0 _ g i rfl hg hs⟩
  have := (r.lo q b g hb ho).2
  omega
section
variable {P : Program} [Nice P] {c : Ctx} {t : Nat → AV} {M : List Blk} {ops : Array Oper} {Q : Exit → AS → Prop} {rest : List Oper} {ty : TypeId} {pos : String} {af : Array Edge} {d : Tmp}
theorem scallB_at [NoFr] {callee : Operand} {f : FuncId} {args : Array Operand} {ats : Array TypeId} {xs : List SV} {e sz n : Nat} {cs : List Lf} {α : Type} {g : α → List Lf} {ys : List α} (p : Nat) (hd : decide (d < c.nt) = true) (hf : FnI P f) (hcal : Cal ⟨t, M⟩ callee f [] []) (ho : Opnds ⟨t, M⟩ args.toList xs)
    (hc : CallsB P f [] xs (fun y m' => y = .s (.one (.ls 0 n)) ∧ m' = [.arr e sz 0 cs])) (hpub : xs.all (fun x => x.inbB 0) = true) (hg : ∀ x, (g x).length = sz) (hcs : cs = ys.flatMap g) (hn : n = ys.length) (hm : M[p]? = some .hole) (hp0 : Nat.ble c.m0.length p = true)
    (k : AWL P c ops Q rest ⟨upd t d (.s (.one (.ls p n))), M.set p (.arr e sz 0 cs)⟩) : AWL P c ops Q (⟨some d, .call { callee := .value callee, args := args, argTypes := ats }, ty, pos, af, none⟩ :: rest) ⟨t, M⟩ := by
  subst hcs hn
  refine awl_at fun a w S H r => ?_
  obtain ⟨vs, hvs, hrun⟩ := callB_run (pos := pos) (af := af) (ty := ty) (ats := ats) r hf hcal ho (some d)
  refine wpListP_plain rfl fun K hK => ?_
  unfold operK
  rw [hrun]
  have hvs' : SvsR (GRep w S [] H) xs vs.toList := by
    have tie : Tie [] M H H (fun j => j) := ⟨fun p h => absurd h (Nat.not_lt_zero _), fun _ _ => rfl, fun p b h => by cases h⟩
    have e : xs.map (SV.ren (fun j => j)) = xs := by
      have hl : ∀ l : Lf, l.ren0 (fun j => j) = l := fun l => by cases l <;> rfl
      have hl2 : ∀ l : Lf, l.ren (fun j => j) = l := fun l => by
        cases l with
        | fn f a b =>
          show Lf.fn f (a.map _) (b.map _) = _
          rw [show (Lf.ren0 fun j => j) = id from funext hl, List.map_id, List.map_id]
        | _ => rfl
      have hs : ∀ x : SV, x.ren (fun j => j) = x := fun x => by
        cases x with
        | one l => show SV.one _ = _; rw [hl2]
        | agg ls => show SV.agg _ = _; rw [show (Lf.ren fun j => j) = id from funext hl2, List.map_id]
      rw [show (SV.ren fun j => j) = id from funext hs, List.map_id]
    exact tie.svsDown hpub (by rw [e]; simpa using hvs)
  refine (hc w S H vs r.sl ⟨fun p b h => by simp at h, fun p b g h => by simp at h, fun p q b b' g h => by simp at h, fun p b g i h => by simp at h⟩ hvs').mono ?_
  rintro e' w' ⟨v, y, m', S', H', rfl, ⟨rfl, rfl⟩, ext, hin, mem', hown', _, hav⟩
  have hx : Ext w S w' S' := ext.toExt (fun b ⟨q, bb, h, _⟩ => by simp at h)
  have r' := r.fillRow hm (Nat.le_of_ble_eq_true hp0) hx hin mem' (fun g hg => by
    rcases hown' 0 _ g rfl hg with h | ⟨q, bb, h, _⟩
    · exact h
    · simp at h)
  have hp : p < M.length := (List.getElem?_eq_some_iff.1 hm).1
  obtain ⟨_, ho1, hv⟩ := (show GRep0 w' S' [.arr e sz 0 (ys.flatMap g)] H' (.ls 0 ys.length) v from hav)
  have hvH := (hv e sz 0 _ rfl).2 (flat_len hg ys).symm
  refine hK _ _ (k _ _ _ _ (r'.put (of_decide_eq_true hd) ?_))
  show GRep0 w' S' (M.set p (.arr e sz 0 (ys.flatMap g))) (setH H p (H' 0)) (.ls p ys.length) v
  refine ⟨by simpa using hp, ⟨ho1.1, by rw [setH_same]; exact ho1.2⟩, fun e2 sz2 k2 cs2 h2 => ?_⟩
  rw [List.getElem?_set_self hp] at h2
  cases h2
  exact ⟨Nat.le_of_eq (flat_len hg ys).symm, fun _ => by rw [setH_same]; exact hvH⟩
end
end Go.Proofs.Ytnphcnhejgpjgaa.Abs
end
section
namespace Go.Proofs.Ytnphcnhejgpjgaa.Abs
open Go.Proofs.Ytnphcnhejgpjgaa.Co
variable [Env]
open Go.RowKit Go.Lib
end Go.Proofs.Ytnphcnhejgpjgaa.Abs
end
section
namespace Go.Proofs.Ytnphcnhejgpjgaa.Abs
open Go.Proofs.Ytnphcnhejgpjgaa.Co
variable [Env]
open Go.RowKit Go.MapKept
open Go.ChangeMaps (setBlock)
omit [Env] in
theorem setBlock_size (w : World) (g : Nat) (o : Obj) : (setBlock w g o).heap.size = w.heap.size := by simp [setBlock]
omit [Env] in
theorem Rel.setObj {c : Ctx} {st : AS} {a : Act} {w : World} {S : Stab} {H : Nat → Value} (r : Rel c st a w S H) {p g : Nat} {mk mk' : List (List Value) → Obj → Prop} {css css' : List (List Lf)} {o : Obj} {vss : List (List Value)}
    (hm : st.m[p]? = some (.obj g mk css)) (ho : isTab o = true) (hmk : mk' vss o) (hl : LsR2 (Rep w S) css' vss) : ∃ H', Rel c ⟨st.t, st.m.set p (.obj g mk' css')⟩ a (setBlock w g o) S H' ∧ ∀ b i, S b i → S b i ∧ (setBlock w g o).cell? ⟨b, i, none⟩ = w.cell? ⟨b, i, none⟩ := by
  have hp : p < st.m.length := (List.getElem?_eq_some_iff.1 hm).1
  obtain ⟨h1, vs0, o0, h2, h3, h4, h5⟩ := r.bl p _ hm
  have hlo := r.lo p _ g hm (by rw [h1]; rfl)
  have hset := heap_set (o' := o) h2
  have hcell : ∀ b i, S b i → (setBlock w g o).cell? ⟨b, i, none⟩ = w.cell? ⟨b, i, none⟩ := fun b i hs => by
    refine World.cell?_of_block (w := w) (hset.2 b fun e => ?_)
    subst e
    have := r.sb p _ b i hm (by rw [h1]; rfl) hs
    exact absurd this (Nat.not_lt_zero _)
  have hk : ∀ b i, S b i → S b i ∧ (setBlock w g o).cell? ⟨b, i, none⟩ = w.cell? ⟨b, i, none⟩ := fun b i hs => ⟨hs, hcell b i hs⟩
  refine ⟨_, r.change (m' := st.m.set p (.obj g mk' css')) (b' := .obj g mk' css') (v := H p) (by simp) (by rw [List.getElem?_set_self hp]) (fun q hq => by rw [List.getElem?_set_ne (Ne.symm hq)]) hk (fun _ _ _ => rfl) (fun e sz k cs _ h => by cases h)
    (fun g' _ hg' => hset.2 g' fun e => ?_) ⟨h1, vss, o, hset.1, ho, hmk, hl.mono (fun l v => Rep.mono hk)⟩ (fun g' hg' => ?_) (fun q b g i _ _ _ h => h) (fun g i _ _ h => h) (r.sl.turn2 (Nat.le_of_eq (setBlock_size w g o).symm) hcell) (Nat.le_of_eq (setBlock_size w g o).symm) rfl rfl rfl, hk⟩
  · subst e
    exact hg' _ hm (by rw [h1]; rfl)
  · have hg2 : g = g' := by
      rw [h1] at hg'
      simpa [Blk.own, ownOf] using hg'
    subst hg2
    exact ⟨hlo.1, by rw [setBlock_size]; exact hlo.2, fun q b hq hb ho' => hq (r.inj q p b _ g hb hm ho' (by rw [h1]; rfl)), fun i hi => absurd (r.sb p _ g i hm (by rw [h1]; rfl) hi) (Nat.not_lt_zero _)⟩
section
variable {P : Program} [Nice P] {c : Ctx} {ops : Array Oper} {Q : Exit → AS → Prop} {rest : List Oper} {ty : TypeId} {pos : String} {af : Array Edge} {d : Tmp} {t : Nat → AV} {m : List Blk}
end
end Go.Proofs.Ytnphcnhejgpjgaa.Abs
end
section
namespace Go.Proofs.Ytnphcnhejgpjgaa.Abs
open Go.Proofs.Ytnphcnhejgpjgaa.Co
variable [Env]
open Go.RowKit Go.Shelf Go.Sort
open Go.Proofs (sortWorldK)
omit [Env] in
theorem lsr_split {R : Lf → Value → Prop} : ∀ {a b : List Lf} {vs : List Value}, LsR R (a ++ b) vs → LsR R a (vs.take a.length) ∧ LsR R b (vs.drop a.length) := fun {a b vs} h => by
  obtain ⟨h1, h2⟩ := h
  rw [List.length_append] at h1
  refine ⟨⟨by rw [List.length_take]; omega, fun j l v e1 e2 => ?_⟩, ⟨by rw [List.length_drop]; omega, fun j l v e1 e2 => ?_⟩⟩
  · have hj := (List.getElem?_eq_some_iff.1 e1).1
    rw [List.getElem?_take, if_pos hj] at e2
    exact h2 j l v (by rw [List.getElem?_append_left hj]; exact e1) e2
  · rw [List.getElem?_drop] at e2
    exact h2 (a.length + j) l v (by rw [List.getElem?_append_right (by omega)]; simpa using e1) e2
omit [Env] in
theorem lsr_join {R : Lf → Value → Prop} {a b : List Lf} {va vb : List Value} (ha : LsR R a va) (hb : LsR R b vb) : LsR R (a ++ b) (va ++ vb) := by
  refine ⟨by rw [List.length_append, List.length_append, ha.1, hb.1], fun j l v e1 e2 => ?_⟩
  rcases Nat.lt_or_ge j a.length with hj | hj
  · rw [List.getElem?_append_left hj] at e1
    rw [List.getElem?_append_left (by rw [← ha.1]; exact hj)] at e2
    exact ha.2 j l v e1 e2
  · rw [List.getElem?_append_right hj] at e1
    rw [List.getElem?_append_right (by rw [← ha.1]; exact hj), ← ha.1] at e2
    exact hb.2 _ l v e1 e2
omit [Env] in
theorem chunks {α : Type} {f : α → List Lf} {R : Lf → Value → Prop} : ∀ {xs : List α} {vals : List Value}, LsR R (xs.flatMap f) vals → ∃ d : List { p : α × List Value // LsR R (f p.1) p.2 }, d.map (fun p => p.1.1) = xs ∧ d.flatMap (fun p => p.1.2) = vals
  | [], vals, h => by
    have : vals = [] := List.eq_nil_of_length_eq_zero h.1.symm
    exact ⟨[], rfl, this.symm⟩
  | x :: xs, vals, h => by
    rw [List.flatMap_cons] at h
    obtain ⟨h1, h2⟩ := lsr_split h
    obtain ⟨d, e1, e2⟩ := chunks h2
    refine ⟨⟨(x, vals.take (f x).length), h1⟩ :: d, by rw [List.map_cons, e1], ?_⟩
    rw [List.flatMap_cons, e2]
    exact List.take_append_drop ..
omit [Env] in
theorem unchunk {α : Type} {f : α → List Lf} {R : Lf → Value → Prop} : ∀ d : List { p : α × List Value // LsR R (f p.1) p.2 }, LsR R ((d.map (fun p => p.1.1)).flatMap f) (d.flatMap (fun p => p.1.2))
  | [] => ⟨rfl, fun j l v h => by simp at h⟩
  | p :: d => by
    rw [List.map_cons, List.flatMap_cons, List.flatMap_cons]
    exact lsr_join p.2 (unchunk d)
omit [Env] in
theorem get_flat {β γ : Type} {g : β → List γ} {k : Nat} (hk : ∀ x, (g x).length = k) (xs : List β) {j i : Nat} (hi : i < k) (hj : j < xs.length) : (xs.flatMap g)[j * k + i]? = (g xs[j])[i]? := by
  have e : (xs.flatMap g)[j * k + i]? = ((xs.flatMap g).drop (j * k))[i]? := by rw [List.getElem?_drop]
  have h2 : (xs.flatMap g).drop (j * k) = (xs.drop j).flatMap g := by
    clear e hj
    induction xs generalizing j with
    | nil => simp
    | cons a l ih =>
      cases j with
      | zero => simp
      | succ j =>
        rw [List.flatMap_cons, List.drop_append, List.drop_succ_cons, ← ih, hk]
        rw [List.drop_eq_nil_of_le (by rw [hk, Nat.succ_mul]; omega), List.nil_append]
        congr 1
        rw [Nat.succ_mul]; omega
  rw [e, h2, List.drop_eq_getElem_cons hj, List.flatMap_cons, List.getElem?_append_left (by rw [hk]; exact hi)]
omit [Env] in
theorem flatK_eq {β : Type} [Inhabited β] {enc : β → List Value} {k : Nat} (hk : ∀ x, (enc x).length = k) (d : Array β) : (flatK enc k d).toList = d.toList.flatMap enc := by
  have hlen : (d.toList.flatMap enc).length = d.size * k := by
    have : ∀ l : List β, (l.flatMap enc).length = l.length * k := fun l => by
      induction l with
      | nil => simp
      | cons a l ih => rw [List.flatMap_cons, List.length_append, ih, hk, List.length_cons, Nat.succ_mul, Nat.add_comm]
    rw [this]; simp
  apply List.ext_getElem
  · rw [hlen]; simp
  · intro t h1 h2
    rw [hlen] at h2
    have k0 : 0 < k := by
      rcases Nat.eq_zero_or_pos k with h | h
      · rw [h] at h2; simp at h2
      · exact h
    have hj : t / k < d.size := Nat.div_lt_of_lt_mul (by rw [Nat.mul_comm]; exact h2)
    have hi : t % k < k := Nat.mod_lt _ k0
    have ht : (flatK enc k d)[t]! = (flatK enc k d)[t]'(by simpa using h2) := getElem!_pos _ t _
    have e1 : (flatK enc k d).toList[t] = (enc d[t / k])[t % k]'(by rw [hk]; exact hi) := by
      rw [Array.getElem_toList, ← ht, get_flatK enc k d t h2, getElem!_pos d _ hj, getElem!_pos _ _ (by rw [hk]; exact hi)]
    have e2 := get_flat hk d.toList (j := t / k) hi (by simpa using hj)
    have e3 : t / k * k + t % k = t := by rw [Nat.mul_comm]; exact Nat.div_add_mod t k
    have e4 : d.toList[t / k]'(by simpa using hj) = d[t / k] := Array.getElem_toList ..
    rw [e3, List.getElem?_eq_getElem (by rw [hlen]; exact h2), e4, List.getElem?_eq_getElem (by rw [hk]; exact hi)] at e2
    rw [e1, Option.some.inj e2]
section
variable {β : Type} [Inhabited β] {enc : β → List Value} {k : Nat} {w : World} {b n : Nat} {d : Array β} {os : Array Obj} {cur : Array Value} {e : TypeId}
omit [Env] in
theorem sw_same (hb : w.heap[b]? = some (.cells cur e (0, 0))) (hd : d.size * k ≤ cur.size) : (sortWorldK enc k w b 0 n d os).heap[b]? = some (.cells ((flatK enc k d).toList ++ cur.toList.drop (d.size * k)).toArray e (0, 0)) := by
  have hlt := (Array.getElem?_eq_some_iff.1 hb).1
  have h1 : (sortWorldK enc k w b 0 n d os).heap[b]? = (putRowK enc k (Sort.ahead w n) b 0 d).heap[b]? := by
    show ((putRowK enc k (Sort.ahead w n) b 0 d).heap ++ os)[b]? = _
    rw [Array.getElem?_append_left (by simp [putRowK, Sort.ahead]; exact hlt)]
  rw [h1]
  show ((Sort.ahead w n).heap.modify b _)[b]? = _
  rw [Array.getElem?_modify, if_pos rfl]
  show (w.heap[b]?).map _ = _
  rw [hb]
  show some (Obj.cells (putCells id 0 (flatK enc k d) cur) e (0, 0)) = _
  congr 2
  apply Array.ext_getElem?
  intro i
  rw [putCells, Array.getElem?_mapIdx]
  simp only [size_flatK, Nat.zero_le, true_and, Nat.zero_add, Nat.sub_zero, id]
  have hto : ((flatK enc k d).toList ++ cur.toList.drop (d.size * k)).toArray[i]? = ((flatK enc k d).toList ++ cur.toList.drop (d.size * k))[i]? := List.getElem?_toArray ..
  rw [hto]
  rcases Nat.lt_or_ge i (d.size * k) with hi | hi
  · rw [List.getElem?_append_left (by simpa using hi), Array.getElem?_toList, Array.getElem?_eq_getElem (show i < cur.size by omega), Array.getElem?_eq_getElem (show i < (flatK enc k d).size by simpa using hi), Option.map_some, if_pos hi, getElem!_pos]
  · rw [List.getElem?_append_right (by simpa using hi), List.getElem?_drop, Array.getElem?_toList, Array.length_toList, size_flatK, show d.size * k + (i - d.size * k) = i by omega]
    cases cur[i]? with
    | none => rfl
    | some v => rw [Option.map_some, if_neg (by omega)]
omit [Env] in
theorem sw_other {i : Nat} (hi : i < w.heap.size) (hne : i ≠ b) : (sortWorldK enc k w b 0 n d os).heap[i]? = w.heap[i]? := by
  have h1 : (sortWorldK enc k w b 0 n d os).heap[i]? = (putRowK enc k (Sort.ahead w n) b 0 d).heap[i]? := by
    show ((putRowK enc k (Sort.ahead w n) b 0 d).heap ++ os)[i]? = _
    rw [Array.getElem?_append_left (by simp [putRowK, Sort.ahead]; exact hi)]
  rw [h1]
  show ((Sort.ahead w n).heap.modify b _)[i]? = _
  rw [Array.getElem?_modify, if_neg (fun h => hne h.symm)]
  rfl
omit [Env] in
theorem sw_size : w.heap.size ≤ (sortWorldK enc k w b 0 n d os).heap.size := by
  show _ ≤ ((putRowK enc k (Sort.ahead w n) b 0 d).heap ++ os).size
  rw [Array.size_append]
  simp [putRowK, Sort.ahead]
end
end Go.Proofs.Ytnphcnhejgpjgaa.Abs
end
section
namespace Go.Proofs.Ytnphcnhejgpjgaa.Abs
open Go.Proofs.Ytnphcnhejgpjgaa.Co
variable [Env]
open Go.RowKit
omit [Env] in
theorem ft_i64 {ls : List Lf} (h : Fits (.int .i64) ls) : ∃ n : Int, (-9223372036854775808 ≤ n ∧ n ≤ 9223372036854775807) ∧ ls = eI n := by
  obtain ⟨n, hw, rfl⟩ := h
  exact ⟨n, lit_i64 hw, rfl⟩
omit [Env] in
theorem lit_un {k : IntKind} {n : Int} (h : (Lit.int k n).wf = true) : k.min ≤ n ∧ n ≤ k.max := by
  simp only [Lit.wf, Bool.and_eq_true, decide_eq_true_eq] at h
  exact h
omit [Env] in
theorem ft_u8 {ls : List Lf} (h : Fits (.int .u8) ls) : ∃ a : UInt8, True ∧ ls = eU8 a := by
  obtain ⟨n, hw, rfl⟩ := h
  obtain ⟨h1, h2⟩ := lit_un hw
  simp [IntKind.min, IntKind.max, IntKind.bits, IntKind.signed] at h1 h2
  refine ⟨UInt8.ofNat n.toNat, trivial, ?_⟩
  show _ = [Lf.i .u8 _]
  rw [show ((UInt8.ofNat n.toNat).toNat : Int) = n by rw [UInt8.toNat_ofNat']; omega]
omit [Env] in
theorem ft_b8 {ls : List Lf} (h : Fits (.int .u8) ls) : ∃ a : BitVec 8, True ∧ ls = [.i .u8 (a.toNat : Int)] := by
  obtain ⟨a, _, rfl⟩ := ft_u8 h
  exact ⟨a.toBitVec, trivial, rfl⟩
omit [Env] in
theorem ft_u16 {ls : List Lf} (h : Fits (.int .u16) ls) : ∃ a : BitVec 16, True ∧ ls = eU16 a := by
  obtain ⟨n, hw, rfl⟩ := h
  obtain ⟨h1, h2⟩ := lit_un hw
  simp [IntKind.min, IntKind.max, IntKind.bits, IntKind.signed] at h1 h2
  refine ⟨BitVec.ofNat 16 n.toNat, trivial, ?_⟩
  show _ = [Lf.i .u16 _]
  rw [show ((BitVec.ofNat 16 n.toNat).toNat : Int) = n by rw [BitVec.toNat_ofNat]; omega]
omit [Env] in
theorem ft_u32 {ls : List Lf} (h : Fits (.int .u32) ls) : ∃ a : BitVec 32, True ∧ ls = eU32 a := by
  obtain ⟨n, hw, rfl⟩ := h
  obtain ⟨h1, h2⟩ := lit_un hw
  simp [IntKind.min, IntKind.max, IntKind.bits, IntKind.signed] at h1 h2
  refine ⟨BitVec.ofNat 32 n.toNat, trivial, ?_⟩
  show _ = [Lf.i .u32 _]
  rw [show ((BitVec.ofNat 32 n.toNat).toNat : Int) = n by rw [BitVec.toNat_ofNat]; omega]
omit [Env] in
theorem ft_u64 {ls : List Lf} (h : Fits (.int .u64) ls) : ∃ a : BitVec 64, True ∧ ls = eU64 a := by
  obtain ⟨n, hw, rfl⟩ := h
  obtain ⟨h1, h2⟩ := lit_un hw
  simp [IntKind.min, IntKind.max, IntKind.bits, IntKind.signed] at h1 h2
  refine ⟨BitVec.ofNat 64 n.toNat, trivial, ?_⟩
  show _ = [Lf.i .u64 _]
  rw [show ((BitVec.ofNat 64 n.toNat).toNat : Int) = n by rw [BitVec.toNat_ofNat]; omega]
omit [Env] in
theorem ft_bool {ls : List Lf} (h : Fits .bool ls) : ∃ b : Bool, True ∧ ls = eB b := by
  obtain ⟨b, rfl⟩ := h
  exact ⟨b, trivial, rfl⟩
omit [Env] in
theorem ft_str {ls : List Lf} (h : Fits .str ls) : ∃ s : List UInt8, s.length ≤ maxLen ∧ ls = eS s := by
  obtain ⟨s, hs, rfl⟩ := h
  exact ⟨s.data.toList, by simpa using hs, by simp [eS]⟩
omit [Env] in
theorem ft_sl {α : Type} {e : Sh} {f : α → List Lf} {Q : α → Prop} (he : ∀ {r}, Fits e r → ∃ x, Q x ∧ r = f x) {ls : List Lf} (h : Fits (.sl e) ls) : ∃ xs : List α, (xs.length ≤ maxLen ∧ ∀ x ∈ xs, Q x) ∧ ls = eL f xs := by
  obtain ⟨rows, hl, hr, rfl⟩ := h
  have : ∃ xs : List α, (∀ x ∈ xs, Q x) ∧ rows = xs.map f := by
    clear hl
    induction rows with
    | nil => exact ⟨[], fun _ h => by simp at h, rfl⟩
    | cons r rs ih =>
      obtain ⟨x, hq, hx⟩ := he (hr r (List.mem_cons_self ..))
      obtain ⟨xs, hqs, hxs⟩ := ih (fun r h => hr r (List.mem_cons_of_mem _ h))
      exact ⟨x :: xs, fun y hy => by rcases List.mem_cons.1 hy with rfl | hy; exact hq; exact hqs y hy, by rw [hx, hxs]; rfl⟩
  obtain ⟨xs, hq, rfl⟩ := this
  exact ⟨xs, ⟨by simpa using hl, hq⟩, by rw [eL, List.flatMap, List.length_map]⟩
end Go.Proofs.Ytnphcnhejgpjgaa.Abs
end
section
namespace Go.Proofs.Ytnphcnhejgpjgaa.Abs
end Go.Proofs.Ytnphcnhejgpjgaa.Abs
end
section
namespace Go.Proofs.Ytnphcnhejgpjgaa.Abs
open Go.Proofs.Ytnphcnhejgpjgaa.Co
variable [Env]
open Go.Sort
section
variable {α : Type} {kf : α → List UInt8}
end
end Go.Proofs.Ytnphcnhejgpjgaa.Abs
namespace Go.Proofs.Ytnphcnhejgpjgaa.Abs
open Go.Proofs.Ytnphcnhejgpjgaa.Co
variable [Env]
end Go.Proofs.Ytnphcnhejgpjgaa.Abs
end
section
namespace Go.Proofs.Ytnphcnhejgpjgaa.Abs
open Go.Proofs.Ytnphcnhejgpjgaa.Co
variable [Env]
open Go.RowKit Go.MapKept
open Go.ChangeMaps (setBlock)
def lval : Lf → Value
  | .i k n => .int k n
  | .b x => .bool x
  | .s x => .string x
  | _ => undef
def kval (l : List Lf) : Value := .agg (l.map lval).toArray
omit [Env] in
theorem grep_lval {w : World} {S : Stab} {m : List Blk} {H : Nat → Value} {l : Lf} (ht : l.tag < 3) : GRep w S m H l (lval l) := by
  cases l <;> simp [Lf.tag] at ht
  · exact .i _ _
  · exact .b _
  · exact .s _
section
variable {P : Program} [Nice P] {kt : TypeId} {n : List Nat}
structure KeyE (κ : Type) [DecidableEq κ] (P : Program) (kt : TypeId) (e : κ → List Lf) (n : List Nat) : Prop where
  et : EqT P kt n
  tag : ∀ k, (e k).map Lf.tag = n
  low : ∀ x ∈ n, x < 3
  eq : ∀ k k', eqLs (e k) (e k') = some (decide (k = k'))
variable {κ : Type} [DecidableEq κ] {e : κ → List Lf}
omit [Env] [Nice P] in
theorem KeyE.lt (h : KeyE κ P kt e n) (k : κ) : ∀ l ∈ e k, l.tag < 3 := fun l hl => h.low _ (by rw [← h.tag k]; exact List.mem_map.2 ⟨l, hl, rfl⟩)
omit [Env] in
theorem KeyE.equal (h : KeyE κ P kt e n) (w : World) (k k' : κ) : (Op.equal kt (kval (e k)) (kval (e k'))).run P w = .ok (decide (k = k')) w := by
  show (Op.equalIn (9999 + 1) kt (.agg _) (.agg _)).run P w = _
  rw [run_equalIn_struct w 9999 kt _ _ h.et.u h.et.h]
  refine eqFields_flat (d := 9998) (S := fun _ _ => False) (m := []) (H := fun _ => undef) _ 0 (e k) (e k') _ (by rw [h.tag]; exact h.et.f) ((h.tag k).trans (h.tag k').symm) (h.eq k k') (fun j l hl => ?_) (fun j l hl => ?_)
  · exact ⟨lval l, by simp [hl], grep_lval (h.lt k l (List.mem_of_getElem? hl))⟩
  · exact ⟨lval l, by simp [hl], grep_lval (h.lt k' l (List.mem_of_getElem? hl))⟩
omit [Env] in
theorem KeyE.inj (h : KeyE κ P kt e n) {k k' : κ} (hk : kval (e k) = kval (e k')) : k = k' := by
  have h1 := h.equal default k k'
  rw [hk, h.equal default k' k'] at h1
  have : decide (k' = k') = decide (k = k') := by injection h1
  rw [decide_eq_true rfl] at this
  exact of_decide_eq_true this.symm
omit [Env] in
theorem KeyE.asking (h : KeyE κ P kt e n) (w : World) (k : κ) : ∀ (es : List MapEntry) (ks : List κ) (i : Nat), es.map (·.key) = ks.map (fun k => kval (e k)) →
    ((Instr.findAsking kt (kval (e k)) es i).run P w = .ok none w ∧ k ∉ ks) ∨ ∃ j x, (Instr.findAsking kt (kval (e k)) es i).run P w = .ok (some (i + j, x.val)) w ∧ es[j]? = some x ∧ ks[j]? = some k
  | [], [], i, _ => .inl ⟨by simp [Instr.findAsking], by simp⟩
  | [], _ :: _, i, h => by cases h
  | _ :: _, [], i, h => by cases h
  | x :: es, k' :: ks, i, hk => by
    simp only [List.map_cons, List.cons.injEq] at hk
    obtain ⟨hk1, hk2⟩ := hk
    by_cases hkk : k = k'
    · subst hkk
      refine .inr ⟨0, x, ?_, rfl, rfl⟩
      simp [Instr.findAsking, hk1, h.equal]
    · rcases h.asking w k es ks (i + 1) hk2 with ⟨h1, h2⟩ | ⟨j, y, h1, h2, h3⟩
      · refine .inl ⟨by simp [Instr.findAsking, hk1, h.equal, hkk, h1], ?_⟩
        rw [List.mem_cons]; rintro (h | h); exact hkk h; exact h2 h
      · refine .inr ⟨j + 1, y, ?_, by simpa using h2, by simpa using h3⟩
        simp [Instr.findAsking, hk1, h.equal, hkk, h1, Nat.add_assoc, Nat.add_comm 1 j]
omit [Env] in
theorem KeyE.find (h : KeyE κ P kt e n) (w : World) (k : κ) {es : List MapEntry} {ks : List κ} (hk : es.map (·.key) = ks.map (fun k => kval (e k))) :
    ((Instr.findKey kt (kval (e k)) es).run P w = .ok none w ∧ k ∉ ks) ∨ ∃ j x, (Instr.findKey kt (kval (e k)) es).run P w = .ok (some (j, x.val)) w ∧ es[j]? = some x ∧ ks[j]? = some k := by
  have hf : (Instr.findKey kt (kval (e k)) es).run P w = (Instr.findAsking kt (kval (e k)) es).run P w := by
    cases es with
    | nil => simp [Instr.findKey, run_underlying h.et.u, Result.andThen, Instr.findNow, Instr.findAsking]
    | cons x es =>
      have : Instr.findNow (.struct (P.fieldsOf kt)) (kval (e k)) (x :: es) 0 = none := by simp [Instr.findNow, Instr.sameNow]
      simp [Instr.findKey, run_underlying h.et.u, Result.andThen, this]
  rw [hf]
  rcases h.asking w k es ks 0 hk with h | ⟨j, x, h1, h2, h3⟩
  · exact .inl h
  · rw [Nat.zero_add] at h1
    exact .inr ⟨j, x, h1, h2, h3⟩
end
section
variable {κ : Type} [DecidableEq κ]
end
section
variable {P : Program} [Nice P] {c : Ctx} {ops : Array Oper} {Q : Exit → AS → Prop} {rest : List Oper} {ty : TypeId} {pos : String} {af : Array Edge} {d : Tmp} {t : Nat → AV} {m : List Blk}
variable {κ : Type} [DecidableEq κ] {e : κ → List Lf} {n : List Nat} {kt : TypeId}
omit [DecidableEq κ] in
omit [DecidableEq κ] in
omit [Env] in
theorem all_nil {Q : List Blk → Prop} : ∀ M ∈ ([] : List (List Blk)), Q M := fun _ h => by cases h
omit [Env] in
theorem all_cons {Q : List Blk → Prop} {M : List Blk} {l : List (List Blk)} (h : Q M) (h' : ∀ x ∈ l, Q x) : ∀ x ∈ M :: l, Q x := fun x hx => by
  rcases List.mem_cons.1 hx with rfl | hx
  · exact h
  · exact h' x hx
theorem evA {ws es : List Nat} {all : List (List Blk)} {kq : (Nat → AV) → Prop} {Ms : List (List Blk)} {op : Op} {x : AV} {i : Nat} (hi : es.contains i = false) (hd : decide (d < c.nt) = true) (h : ∀ M ∈ all, OpV P c ⟨restr t (Oper.looksAt ops ⟨some d, op, ty, pos, af, none⟩), M⟩ op ty x) (kk : DE P c ops ws es all kq (i + 1) Ms rest (upd t d x)) : DE P c ops ws es all kq i Ms (⟨some d, op, ty, pos, af, none⟩ :: rest) t :=
  .inl ⟨hi, x, d, rfl, of_decide_eq_true hd, .inr fun M hM => .inl ⟨.inl rfl, (h M hM).opD⟩, kk⟩
omit [Nice P] in
theorem edA {ws es : List Nat} {all : List (List Blk)} {kq : (Nat → AV) → Prop} {Ms : List (List Blk)} {op : Op} {x : AV} {i : Nat} (hi : es.contains i = false) (hd : decide (d < c.nt) = true) (h : ∀ M ∈ all, OpD P c ⟨restr t (Oper.looksAt ops ⟨some d, op, ty, pos, af, none⟩), M⟩ op ty x) (kk : DE P c ops ws es all kq (i + 1) Ms rest (upd t d x)) : DE P c ops ws es all kq i Ms (⟨some d, op, ty, pos, af, none⟩ :: rest) t :=
  .inl ⟨hi, x, d, rfl, of_decide_eq_true hd, .inr fun M hM => .inl ⟨.inl rfl, h M hM⟩, kk⟩
end
end Go.Proofs.Ytnphcnhejgpjgaa.Abs
end
section
namespace Go.Proofs.Ytnphcnhejgpjgaa.Abs
open Go.Proofs.Ytnphcnhejgpjgaa.Co
variable [Env]
open Go.RowKit Go.Shelf Go.Sort
def encN : Int → Value := Value.int .i64
section
variable {w : World} {b n : Nat} {d : Array Int} {os : Array Obj} {cur : Array Value} {e : TypeId}
end
structure RowN (P : Program) (e : TypeId) (w : World) (S : Stab) (H : Nat → Value) (xs : List Int) (blk cap : Nat) (cur : Array Value) : Prop where
  h : H 0 = .slice (some ⟨blk, 0, none⟩) xs.length cap
  heap : w.heap[blk]? = some (.cells cur e (0, 0))
  fits : xs.length ≤ cap
  most : cap ≤ maxLen
  cs : cur.size = cap * 1
  vals : cur.toList.take xs.length = xs.map encN
  lt : blk < w.heap.size
  noS : ∀ i, ¬ S blk i
omit [Env] in
theorem RowN.holds {P : Program} [Nice P] {e : TypeId} {w : World} {S : Stab} {H : Nat → Value} {xs : List Int} {blk cap : Nat} {cur : Array Value} (h : RowN P e w S H xs blk cap cur) : Holds (Value.int .i64) w blk 0 xs.toArray := fun j hj => by
  rw [List.size_toArray] at hj
  have hcur : cur.toList[j]? = some (.int .i64 xs[j]) := by
    have : (cur.toList.take xs.length)[j]? = some (encN xs[j]) := by rw [h.vals, List.getElem?_map, List.getElem?_eq_getElem hj]; rfl
    rw [List.getElem?_take, if_pos hj] at this
    exact this
  refine ⟨?_, ?_⟩
  · rw [Nat.zero_add, cell_of_row w _ _ cur e (0, 0) h.heap, getElem!_pos _ _ (by simpa using hj)]
    simpa using hcur
  · rw [Nat.zero_add]
    unfold World.frozen?
    rw [h.heap]
    simp
end Go.Proofs.Ytnphcnhejgpjgaa.Abs
end
section
namespace Go.Proofs.Ytnphcnhejgpjgaa.Abs
open Go.Proofs.Ytnphcnhejgpjgaa.Co
variable [Env]
omit [Env] in
theorem nn {b : Bool} (h : b = false) : ¬ b = true := fun h' => by rw [h] at h'; cases h'
end Go.Proofs.Ytnphcnhejgpjgaa.Abs
end
section
namespace Go.Proofs.Ytnphcnhejgpjgaa.Abs
open Go.Proofs.Ytnphcnhejgpjgaa.Co
variable [Env]
open Go.RowKit Go.MapKept Go.Conc
open Go.ChangeMaps (setBlock)
section
variable {P : Program} [Nice P] {c : Ctx} {ops : Array Oper} {Q : Exit → AS → Prop} {rest : List Oper} {ty : TypeId} {pos : String} {af : Array Edge} {d : Tmp} {t : Nat → AV} {m : List Blk} {α : Type} {e : α → List Lf}
end
end Go.Proofs.Ytnphcnhejgpjgaa.Abs
end
