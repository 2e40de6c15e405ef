/-
  A walk over abstract states: its rules, part C.
-/
import Derived.Maps.Range
import Derived.Test.YtphgpfgibpgfiaaGreatSAbsB
import Derived.Shelf.SlSortCmp.WholeK
import Derived.Shelf.SlSortCmp.NoneTotal
import Derived.Shelf.SortM.Plain
import Derived.Shelf.SortM.SortNone
import Derived.Shelf.SlicesE.Compact
import Derived.Conc.LoneSelect
import Derived.Test.YtphgpfgibpgfiaaGreatSAbsA
import Derived.SizedLaws
import Derived.OpenShut
import Derived.ChangeKeysEq
import Derived.WalkKit
import Derived.LaidEql
import Derived.Stop.Asserts
import Derived.Stop.IfaceNil
import Derived.RowKitTokens
import Derived.Lib.IfaceEq
set_option linter.unusedVariables false
set_option linter.unusedSimpArgs false
namespace Go.Proofs.YtphgpfgibpgfiaaGreat.Abs
open Go.RowKit Go.MapKept
open Go.ChangeMaps (setBlock)
def Ni (vof : List Value → Value) (ks : List Value) : List (List Value) → Obj → Prop := fun vss o =>
 ∃ es clock, o = .map es clock ∧ Stamped es clock ∧ es.toList.map (·.key) = ks ∧ es.toList.map (·.val) = vss.map vof
def Yi (vof : List Value → Value) (es : Array MapEntry) (clock : Nat) : List (List Value) → Obj → Prop := fun vss o => o = .map es clock ∧ es.toList.map (·.val) = vss.map vof
def Aeh (g since : Nat) (seen : Array Nat) (c0 : Nat) : List (List Value) → Obj → Prop := fun _ o => o = .mapIter (some g) since seen c0
def Q5 (vs : List Value) : Value := .agg vs.toArray
theorem Rel.newObj {c : Ctx} {st : AS} {a : Act} {w : World} {S : Dd} {H : Nat → Value} (r : Rel c st a w S H) {o : Obj} {mk : List (List Value) → Obj → Prop} {vss : List (List Value)} {css : List (List Lf)} (ho : Ai4 o = true) (hmk : mk vss o)
  (hl : Ahg (Rep w S) css vss) : Rel c ⟨st.t, st.m ++ [.obj w.heap.size mk css]⟩ a (w.alloc o) S (Rt H st.m.length (.pointer (some ⟨w.heap.size, 0, none⟩))) := by
 have hx : Ext w S (w.alloc o) S := Ext.alloc w S _
 have hk := hx.keeps r.sl
 have hf := r.fresh (Nat.le_refl w.heap.size)
 refine r.change (b' := .obj w.heap.size mk css) (by simp) (by simp) (fun q hq => ?_) hk (fun g h => absurd h (Nat.lt_irrefl _)) (fun e sz k cs h => absurd h (Nat.lt_irrefl _))
  (fun g hg _ => Below.heap_alloc w o g hg) ⟨rfl, vss, o, heap_alloc_new w o, ho, hmk, hl.mono (fun l v => Rep.mono hk)⟩ (fun g hg => ?_) (fun q b g i _ _ _ h => h) (fun g i _ _ h => h) (r.sl.ext hx) hx.size rfl rfl rfl
 ·rcases Nat.lt_or_ge q st.m.length with h | h
  ·rw [List.getElem?_append_left h]
  ·rw [List.getElem?_eq_none (by simp; omega), List.getElem?_eq_none h]
 ·have : w.heap.size = g := by simpa [Blk.own, Hm] using hg
  subst this
  exact ⟨.inl r.ex.size, by simp, fun q b _ hb => hf.1 q b hb, fun i hi => absurd hi (hf.2 i)⟩
theorem P3 (w : World) (g : Nat) (o : Obj) : (setBlock w g o).heap.size = w.heap.size := by simp [setBlock]
theorem Rel.setObj {c : Ctx} {st : AS} {a : Act} {w : World} {S : Dd} {H : Nat → Value} (r : Rel c st a w S H) {p g : Nat} {mk mk' : List (List Value) → Obj → Prop} {css css' : List (List Lf)} {o : Obj} {vss : List (List Value)}
  (hm : st.m[p]? = some (.obj g mk css)) (ho : Ai4 o = true) (hmk : mk' vss o) (hl : Ahg (Rep w S) css' vss) : ∃ H', Rel c ⟨st.t, st.m.set p (.obj g mk' css')⟩ a (setBlock w g o) S H' ∧ ∀ b i, S b i → S b i ∧ (setBlock w g o).cell? ⟨b, i, none⟩ = w.cell? ⟨b, i, none⟩ := by
 have hp : p < st.m.length := (List.getElem?_eq_some_iff.1 hm).1
 obtain ⟨h1, vs0, o0, h2, h3, h4, h5⟩ := r.bl p _ hm
 have hlo := r.lo p _ g hm (by rw [h1]; rfl)
 have hset := heap_set (o' := o) h2
 have hcell : ∀ b i, S b i → (setBlock w g o).cell? ⟨b, i, none⟩ = w.cell? ⟨b, i, none⟩ := fun b i hs => by
  refine World.cell?_of_block (w := w) (hset.2 b fun e => ?_)
  subst e
  have := r.sb p _ b i hm (by rw [h1]; rfl) hs
  exact absurd this (Nat.not_lt_zero _)
 have hk : ∀ b i, S b i → S b i ∧ (setBlock w g o).cell? ⟨b, i, none⟩ = w.cell? ⟨b, i, none⟩ := fun b i hs => ⟨hs, hcell b i hs⟩
 refine ⟨_, r.change (m' := st.m.set p (.obj g mk' css')) (b' := .obj g mk' css') (v := H p) (by simp) (by rw [List.getElem?_set_self hp]) (fun q hq => by rw [List.getElem?_set_ne (Ne.symm hq)]) hk (fun _ _ _ => rfl) (fun e sz k cs _ h => by cases h)
  (fun g' _ hg' => hset.2 g' fun e => ?_) ⟨h1, vss, o, hset.1, ho, hmk, hl.mono (fun l v => Rep.mono hk)⟩ (fun g' hg' => ?_) (fun q b g i _ _ _ h => h) (fun g i _ _ h => h) (r.sl.turn (Nat.le_of_eq (P3 w g o).symm) hcell) (Nat.le_of_eq (P3 w g o).symm) rfl rfl rfl, hk⟩
 ·subst e
  exact hg' _ hm (by rw [h1]; rfl)
 ·have hg2 : g = g' := by
   rw [h1] at hg'
   simpa [Blk.own, Hm] using hg'
  subst hg2
  exact ⟨hlo.1, by rw [P3]; exact hlo.2, fun q b hq hb ho' => hq (r.inj q p b _ g hb hm ho' (by rw [h1]; rfl)), fun i hi => absurd (r.sb p _ g i hm (by rw [h1]; rfl) hi) (Nat.not_lt_zero _)⟩
section
variable {P : Program} {c : Ctx} {ops : Array Oper} {Q : Exit → AS → Prop} {rest : List Oper} {ty : TypeId} {pos : String} {af : Array Edge} {d : Tmp} {t : Nat → AV} {m : List Blk}
theorem Aia {tm : TypeId} (vof : List Value → Value) (hd : decide (d < c.nt) = true)
  (k : ∀ g, AWL P c ops Q rest ⟨upd t d (.s (.one (.raw (.map (some g))))), m ++ [.obj g (Ni vof []) []]⟩) : AWL P c ops Q (⟨some d, .makeMap tm none, ty, pos, af, none⟩ :: rest) ⟨t, m⟩ := by
 intro a w S H r
 refine wpList_plain rfl fun K hK => ?_
 unfold Oper.wp
 have hrun : (execOp a.eval ⟨some d, .makeMap tm none, ty, pos, af, none⟩).run P w = .ok (.value (.map (some w.heap.size))) (w.alloc (.map #[] 0)) := by
  simp [execOp, Instr.makeMap]
 rw [hrun]
 have r' := r.newObj (o := .map #[] 0) (mk := Ni vof []) (vss := []) (css := []) rfl ⟨#[], 0, rfl, stamped_empty 0, rfl, rfl⟩ ⟨rfl, fun j cs vs h => by simp at h⟩
 exact hK _ _ (k w.heap.size _ _ _ _ (r'.put (d := d) (x := .s (.one (.raw (.map (some w.heap.size))))) (of_decide_eq_true hd) (Fi (.raw _ rfl))))
theorem Yq {st : AS} {a : Act} {w : World} {S : Dd} {H : Nat → Value} (r : Rel c st a w S H) {x : Operand} {g : Nat} (hx : Cf st x = .s (.one (.raw (.map (some g))))) : a.eval x = .map (some g) := by
 have h := Br r x
 rw [hx] at h
 exact Mq h
theorem Ada {st : AS} {a : Act} {w : World} {S : Dd} {H : Nat → Value} (r : Rel c st a w S H) {x : Operand} {s : ByteArray} (hx : Cf st x = .s (.one (.s s))) : a.eval x = .string s := by
 have h := Br r x
 rw [hx] at h
 exact Agl h
theorem Ac3 {es : Array MapEntry} {ss : List ByteArray} (h : es.toList.map (·.key) = ss.map .string) : ∀ x ∈ es.toList, IsKey .string x.key := fun x hx => by
 have : x.key ∈ ss.map Value.string := by rw [← h]; exact List.mem_map.2 ⟨x, hx, rfl⟩
 obtain ⟨s, _, hs⟩ := List.mem_map.1 this
 rw [← hs]; trivial
theorem Uu {α β : Type} (f : α → α) (g : α → β) (h : β → β) (hgh : ∀ x, g (f x) = h (g x)) : ∀ (l : List α) (i : Nat), (l.modify i f).map g = (l.map g).modify i h
 | [], i => by cases i <;> rfl
 | x :: l, 0 => by simp [List.modify, hgh]
 | x :: l, i + 1 => by
  have := Uu f g h hgh l i
  simp [List.modify] at this ⊢
  exact this
theorem Q6 {α : Type} (v : α) : ∀ (l : List α) (i : Nat), l.modify i (fun _ => v) = l.set i v
 | [], i => by cases i <;> rfl
 | x :: l, 0 => rfl
 | x :: l, i + 1 => by
  have := Q6 v l i
  simp [List.modify] at this ⊢
  exact this
theorem Agh {tm kt et : TypeId} {x y z : Operand} {g p : Nat} {ss : List ByteArray} {css : List (List Lf)} {s : ByteArray} {ls : List Lf} (hu : P.underlying tm = some (.map kt et)) (hkt : P.underlying kt = some .string)
  (hx : Cf ⟨t, m⟩ x = .s (.one (.raw (.map (some g))))) (hy : Cf ⟨t, m⟩ y = .s (.one (.s s))) (hz : Cf ⟨t, m⟩ z = .s (.agg ls)) (hpub : ls.all Lf.pubd = true) (hm : m[p]? = some (.obj g (Ni Q5 (ss.map .string)) css))
  (k1 : ∀ j, ss[j]? = some s → AWL P c ops Q rest ⟨t, m.set p (.obj g (Ni Q5 (ss.map .string)) (css.set j ls))⟩)
  (k2 : s ∉ ss → AWL P c ops Q rest ⟨t, m.set p (.obj g (Ni Q5 ((ss ++ [s]).map .string)) (css ++ [ls]))⟩) :
  AWL P c ops Q (⟨none, .mapUpdate tm x y z, ty, pos, af, none⟩ :: rest) ⟨t, m⟩ := by
 intro a w S H r
 obtain ⟨h1, vss, o, h2, h3, ⟨es, clock, rfl, hst, hks, hvs⟩, h5⟩ := r.bl p _ hm
 have ex := Yq r hx
 have ey := Ada r hy
 have hzr := Br r z
 rw [hz] at hzr
 obtain ⟨vz, ez, hzl⟩ := hzr
 have hzl' : LsR (Rep w S) ls vz.toList := ⟨hzl.1, fun j l v e1 e2 => (hzl.2 j l v e1 e2).rep (List.all_eq_true.1 hpub l (List.mem_of_getElem? e1))⟩
 have hkey := Ac3 hks
 have hlen : css.length = vss.length := h5.1
 have hev : es.size = vss.length := by
  have := congrArg List.length hvs
  simpa using this
 have hes : es.size = ss.length := by
  have := congrArg List.length hks
  simpa using this
 refine wpList_plain rfl fun K hK => ?_
 unfold Oper.wp
 rcases findNow_spec (d := .string) (k := .string s) trivial es.toList 0 hkey with ⟨f1, f2⟩ | ⟨j, e, f1, f2, f3⟩
 ·have hns : s ∉ ss := fun hs => by
   have : Value.string s ∈ es.toList.map (·.key) := by rw [hks]; exact List.mem_map.2 ⟨s, hs, rfl⟩
   obtain ⟨e, he, hek⟩ := List.mem_map.1 this
   exact f2 e he hek
  have hrun : (execOp a.eval ⟨none, .mapUpdate tm x y z, ty, pos, af, none⟩).run P w = .ok .skip (setBlock w g (.map (es.push { key := .string s, val := .agg vz, born := clock }) (clock + 1))) := by
   simp [execOp, ex, ey, ez, Instr.mapUpdate, run_underlying hu, MapKept.run_getObj_map h2, run_checkKey (k := .string s) hkt trivial, run_findKey hkt f1, run_setObj_map _ h2, Result.andThen, setBlock]
  rw [hrun]
  have hl2 : Ahg (Rep w S) (css ++ [ls]) (vss ++ [vz.toList]) := ⟨by simp [hlen], fun i cs vs e1 e2 => by
   rcases Nat.lt_or_ge i css.length with hi | hi
   ·rw [List.getElem?_append_left hi] at e1
    rw [List.getElem?_append_left (by omega)] at e2
    exact h5.2 i cs vs e1 e2
   ·rw [List.getElem?_append_right hi] at e1
    rw [List.getElem?_append_right (by omega), ← hlen] at e2
    rcases Nat.eq_zero_or_pos (i - css.length) with h0 | h0
    ·rw [h0] at e1 e2
     obtain rfl := Option.some.inj e1
     obtain rfl := Option.some.inj e2
     exact hzl'
    ·rw [List.getElem?_eq_none (by rw [List.length_singleton]; omega)] at e1; cases e1⟩
  obtain ⟨H', r', _⟩ := r.setObj (mk' := Ni Q5 ((ss ++ [s]).map .string)) (css' := css ++ [ls]) (vss := vss ++ [vz.toList]) (o := .map (es.push { key := .string s, val := .agg vz, born := clock }) (clock + 1)) hm rfl
   ⟨_, _, rfl, stamped_push hst f2, by simp [hks], by simp [hvs, Q5]⟩ hl2
  exact hK _ _ (k2 hns _ _ _ _ r')
 ·rw [Nat.zero_add] at f1
  have hj : j < es.size := by
   have := (List.getElem?_eq_some_iff.1 f2).1
   simpa using this
  have hsj : ss[j]? = some s := by
   have : (es.toList.map (·.key))[j]? = some (.string s) := by rw [List.getElem?_map, f2]; simp [f3]
   rw [hks, List.getElem?_map] at this
   cases hsj : ss[j]? with
   | none => rw [hsj] at this; cases this
   | some s' => rw [hsj] at this; simpa using this
  have hej : es[j]? = some e := by rw [← Array.getElem?_toList]; exact f2
  have hrun : (execOp a.eval ⟨none, .mapUpdate tm x y z, ty, pos, af, none⟩).run P w = .ok .skip (setBlock w g (.map (es.modify j fun e => { e with key := .string s, val := .agg vz }) clock)) := by
   simp [execOp, ex, ey, ez, Instr.mapUpdate, run_underlying hu, MapKept.run_getObj_map h2, run_checkKey (k := .string s) hkt trivial, run_findKey hkt f1, run_setObj_map _ h2, Result.andThen, setBlock, hej, f3, run_keyThatStays (d := .string) (k := .string s) trivial]
  rw [hrun]
  have hmk : (es.modify j fun e => { e with key := .string s, val := .agg vz }).toList.map (·.key) = ss.map .string := by
   rw [Array.toList_modify, Uu (fun e : MapEntry => { e with key := .string s, val := .agg vz }) (fun e : MapEntry => e.key) (fun _ => Value.string s) (fun _ => rfl), Q6, hks, ← List.map_set]
   congr 1
   apply List.ext_getElem?
   intro i
   rw [List.getElem?_set]
   by_cases hij : j = i
   ·subst hij; rw [if_pos rfl, if_pos (by omega), hsj]
   ·rw [if_neg hij]
  have hmv : (es.modify j fun e => { e with key := .string s, val := .agg vz }).toList.map (·.val) = (vss.set j vz.toList).map Q5 := by
   rw [Array.toList_modify, Uu (fun e : MapEntry => { e with key := .string s, val := .agg vz }) (fun e : MapEntry => e.val) (fun _ => Value.agg vz) (fun _ => rfl), Q6, hvs, List.map_set]
   simp [Q5]
  have hl2 : Ahg (Rep w S) (css.set j ls) (vss.set j vz.toList) := ⟨by simp [hlen], fun i cs vs e1 e2 => by
   rw [List.getElem?_set] at e1 e2
   by_cases hij : j = i
   ·subst hij
    rw [if_pos rfl, if_pos (by omega)] at e1 e2
    obtain rfl := Option.some.inj e1
    obtain rfl := Option.some.inj e2
    exact hzl'
   ·rw [if_neg hij] at e1 e2
    exact h5.2 i cs vs e1 e2⟩
  obtain ⟨H', r', _⟩ := r.setObj (mk' := Ni Q5 (ss.map .string)) (css' := css.set j ls) (vss := vss.set j vz.toList) (o := .map (es.modify j fun e => { e with key := .string s, val := .agg vz }) clock) hm rfl
   ⟨_, _, rfl, stamped_modify hst j _ (fun _ _ => rfl) (fun e' _ he' => by rw [hej] at he'; cases he'; exact f3.symm), hmk, hmv⟩ hl2
  exact hK _ _ (k1 j hsj _ _ _ _ r')
theorem Akf {tm kt et : TypeId} {x y : Operand} {g p : Nat} {ss : List ByteArray} {css : List (List Lf)} {s : ByteArray} (hu : P.underlying tm = some (.map kt et)) (hkt : P.underlying kt = some .string)
  (hx : Cf ⟨t, m⟩ x = .s (.one (.raw (.map (some g))))) (hy : Cf ⟨t, m⟩ y = .s (.one (.s s))) (hm : m[p]? = some (.obj g (Ni Q5 (ss.map .string)) css))
  (k1 : ∀ j, ss[j]? = some s → AWL P c ops Q rest ⟨t, m.set p (.obj g (Ni Q5 ((ss.eraseIdx j).map .string)) (css.eraseIdx j))⟩)
  (k2 : s ∉ ss → AWL P c ops Q rest ⟨t, m.set p (.obj g (Ni Q5 (ss.map .string)) css)⟩) {ats : Array TypeId} (hat : ats = #[tm, kt]) :
  AWL P c ops Q (⟨none, .call { callee := .builtin .delete, args := #[x, y], argTypes := ats }, ty, pos, af, none⟩ :: rest) ⟨t, m⟩ := by
 subst hat
 intro a w S H r
 obtain ⟨h1, vss, o, h2, h3, ⟨es, clock, rfl, hst, hks, hvs⟩, h5⟩ := r.bl p _ hm
 have ex := Yq r hx
 have ey := Ada r hy
 have hkey := Ac3 hks
 have hlen : css.length = vss.length := h5.1
 refine wpList_plain rfl fun K hK => ?_
 unfold Oper.wp
 rcases findNow_spec (d := .string) (k := .string s) trivial es.toList 0 hkey with ⟨f1, f2⟩ | ⟨j, e, f1, f2, f3⟩
 ·have hns : s ∉ ss := fun hs => by
   have : Value.string s ∈ es.toList.map (·.key) := by rw [hks]; exact List.mem_map.2 ⟨s, hs, rfl⟩
   obtain ⟨e, he, hek⟩ := List.mem_map.1 this
   exact f2 e he hek
  have hrun : (execOp a.eval ⟨none, .call { callee := .builtin .delete, args := #[x, y], argTypes := #[tm, kt] }, ty, pos, af, none⟩).run P w = .ok (.value (.tuple #[])) (setBlock w g (.map es clock)) := by
   simp [execOp, resolve, invoke, builtin, ex, ey, Builtin.delete_, run_underlying hu, MapKept.run_getObj_map h2, run_checkKey (k := .string s) hkt trivial, run_findKey hkt f1, run_setObj_map _ h2, Result.andThen, setBlock]
  rw [hrun]
  obtain ⟨H', r', _⟩ := r.setObj (mk' := Ni Q5 (ss.map .string)) (css' := css) (vss := vss) (o := .map es clock) hm rfl ⟨_, _, rfl, hst, hks, hvs⟩ h5
  exact hK _ _ (k2 hns _ _ _ _ r')
 ·rw [Nat.zero_add] at f1
  have hj : j < es.size := by
   have := (List.getElem?_eq_some_iff.1 f2).1
   simpa using this
  have hsj : ss[j]? = some s := by
   have : (es.toList.map (·.key))[j]? = some (.string s) := by rw [List.getElem?_map, f2]; simp [f3]
   rw [hks, List.getElem?_map] at this
   cases hsj : ss[j]? with
   | none => rw [hsj] at this; cases this
   | some s' => rw [hsj] at this; simpa using this
  have hrun : (execOp a.eval ⟨none, .call { callee := .builtin .delete, args := #[x, y], argTypes := #[tm, kt] }, ty, pos, af, none⟩).run P w = .ok (.value (.tuple #[])) (setBlock w g (.map (es.eraseIdxIfInBounds j) clock)) := by
   simp [execOp, resolve, invoke, builtin, ex, ey, Builtin.delete_, run_underlying hu, MapKept.run_getObj_map h2, run_checkKey (k := .string s) hkt trivial, run_findKey hkt f1, run_setObj_map _ h2, Result.andThen, setBlock]
  rw [hrun]
  have herase : (es.eraseIdxIfInBounds j).toList = es.toList.eraseIdx j := by
   unfold Array.eraseIdxIfInBounds
   rw [dif_pos hj, Array.toList_eraseIdx]
  obtain ⟨H', r', _⟩ := r.setObj (mk' := Ni Q5 ((ss.eraseIdx j).map .string)) (css' := css.eraseIdx j) (vss := vss.eraseIdx j) (o := .map (es.eraseIdxIfInBounds j) clock) hm rfl
   ⟨_, _, rfl, stamped_erase hst j, by rw [herase, Go.ChangeMaps.map_eraseIdx, hks, Go.ChangeMaps.map_eraseIdx], by rw [herase, Go.ChangeMaps.map_eraseIdx, hvs, Go.ChangeMaps.map_eraseIdx]⟩
   ⟨by rw [List.length_eraseIdx, List.length_eraseIdx, hlen], fun i cs vs e1 e2 => by
    rw [List.getElem?_eraseIdx] at e1 e2
    by_cases hij : i < j
    ·rw [if_pos hij] at e1 e2; exact h5.2 i cs vs e1 e2
    ·rw [if_neg hij] at e1 e2; exact h5.2 (i + 1) cs vs e1 e2⟩
  exact hK _ _ (k1 j hsj _ _ _ _ r')
theorem Aga {tm kt et : TypeId} {x : Operand} {g p : Nat} {ks : List Value} {css : List (List Lf)} {vof : List Value → Value} (hd : decide (d < c.nt) = true) (hu : P.underlying tm = some (.map kt et))
  (hx : Cf ⟨t, m⟩ x = .s (.one (.raw (.map (some g))))) (hm : m[p]? = some (.obj g (Ni vof ks) css))
  (k : ∀ es clock q, Stamped es clock → es.toList.map (·.key) = ks → es.size = css.length →
   AWL P c ops Q rest ⟨upd t d (.s (.one (.raw (.pointer (some ⟨q, 0, none⟩))))), m.set p (.obj g (Yi vof es clock) css) ++ [.obj q (Aeh g clock #[] clock) []]⟩) :
  AWL P c ops Q (⟨some d, .range tm x, ty, pos, af, none⟩ :: rest) ⟨t, m⟩ := by
 intro a w S H r
 obtain ⟨h1, vss, o, h2, h3, ⟨es, clock, rfl, hst, hks, hvs⟩, h5⟩ := r.bl p _ hm
 have ex := Yq r hx
 refine wpList_plain rfl fun K hK => ?_
 unfold Oper.wp
 have hrun : (execOp a.eval ⟨some d, .range tm x, ty, pos, af, none⟩).run P w = .ok (.value (.pointer (some ⟨w.heap.size, 0, none⟩))) (w.alloc (.mapIter (some g) clock #[] clock)) := by
  simp [execOp, ex, run_range_map w tm kt et g es clock hu h2]
 rw [hrun]
 have hb : setBlock w g (.map es clock) = w := by
  unfold setBlock
  have hlt := (Array.getElem?_eq_some_iff.1 h2).1
  have : w.heap.setIfInBounds g (.map es clock) = w.heap := by
   apply Array.ext_getElem?
   intro i
   rw [Array.getElem?_setIfInBounds]
   by_cases e : g = i
   ·subst e; rw [if_pos rfl, if_pos hlt, h2]
   ·rw [if_neg e]
  rw [this]
 obtain ⟨H1, r1, _⟩ := r.setObj (mk' := Yi vof es clock) (css' := css) (vss := vss) (o := .map es clock) hm rfl ⟨rfl, hvs⟩ h5
 rw [hb] at r1
 have r2 := r1.newObj (o := .mapIter (some g) clock #[] clock) (mk := Aeh g clock #[] clock) (vss := []) (css := []) rfl rfl ⟨rfl, fun j cs vs h => by simp at h⟩
 have hsz : es.size = css.length := by
  have := congrArg List.length hvs
  rw [h5.1]; simpa using this
 exact hK _ _ (k es clock w.heap.size hst hks hsz _ _ _ _ (r2.put (d := d) (x := .s (.one (.raw (.pointer (some ⟨w.heap.size, 0, none⟩))))) (of_decide_eq_true hd) (Fi (.raw _ rfl))))
theorem Ajp {w : World} {S : Dd} {es : Array MapEntry} {css : List (List Lf)} {vss : List (List Value)} {ss : List ByteArray} (hks : es.toList.map (·.key) = ss.map .string) (hvs : es.toList.map (·.val) = vss.map Q5) (h5 : Ahg (Rep w S) css vss) {j : Nat} {e : MapEntry} (hj : es[j]? = some e) :
  ∃ s cs vs, ss[j]? = some s ∧ css[j]? = some cs ∧ LsR (Rep w S) cs vs ∧ e.key = .string s ∧ e.val = .agg vs.toArray := by
 have hj' : es.toList[j]? = some e := by rw [Array.getElem?_toList]; exact hj
 have h1 : (ss.map Value.string)[j]? = some e.key := by rw [← hks, List.getElem?_map, hj']; rfl
 have h2 : (vss.map Q5)[j]? = some e.val := by rw [← hvs, List.getElem?_map, hj']; rfl
 rw [List.getElem?_map] at h1 h2
 cases hs : ss[j]? with
 | none => rw [hs] at h1; cases h1
 | some s =>
 cases hv : vss[j]? with
 | none => rw [hv] at h2; cases h2
 | some vs =>
 have hlt : j < css.length := by rw [h5.1]; exact (List.getElem?_eq_some_iff.1 hv).1
 rw [hs] at h1; rw [hv] at h2
 exact ⟨s, _, vs, rfl, List.getElem?_eq_getElem hlt, h5.2 j _ vs (List.getElem?_eq_getElem hlt) hv, (Option.some.inj h1).symm, (Option.some.inj h2).symm⟩
theorem Aif {x : Operand} {g q p pi since c0 : Nat} {es : Array MapEntry} {clock : Nat} {seen : Array Nat} {css : List (List Lf)} {ss : List ByteArray} (hd : decide (d < c.nt) = true)
  (hx : Cf ⟨t, m⟩ x = .s (.one (.raw (.pointer (some ⟨q, 0, none⟩))))) (hm : m[p]? = some (.obj g (Yi Q5 es clock) css)) (hi : m[pi]? = some (.obj q (Aeh g since seen c0) [])) (hold : ∀ x ∈ es.toList, x.born < since) (hsc : since ≤ c0)
  (hks : es.toList.map (·.key) = ss.map .string)
  (k0 : (leftOf es seen).size = 0 → AWL P c ops Q rest ⟨upd t d (.tup [.one (.b false)]), m⟩)
  (k1 : ∀ (j : Nat) e s cs, es[j]? = some e → e ∈ (leftOf es seen).toList → ss[j]? = some s → css[j]? = some cs → AWL P c ops Q rest ⟨upd t d (.tup [.one (.b true), .one (.s s), .agg cs]), m.set pi (.obj q (Aeh g since (seen.push e.born) clock) [])⟩) :
  AWL P c ops Q (⟨some d, .next x false, ty, pos, af, none⟩ :: rest) ⟨t, m⟩ := by
 intro a w S H r
 obtain ⟨g1, vss, o, g2, g3, ⟨rfl, hvs⟩, g5⟩ := r.bl p _ hm
 obtain ⟨i1, vss2, o2, i2, i3, rfl, i5⟩ := r.bl pi _ hi
 have ex : a.eval x = .pointer (some ⟨q, 0, none⟩) := by
  have h := Br r x
  rw [hx] at h
  exact Mq h
 have hrw : (execOp a.eval ⟨some d, .next x false, ty, pos, af, none⟩).run P w = ((Instr.next (.pointer (some ⟨q, 0, none⟩)) false ty).run P w).andThen fun v w' => .ok (.value v) w' := by
  simp [execOp, ex]
 refine wpList_plain rfl fun K hK => ?_
 unfold Oper.wp
 rw [hrw]
 rcases run_next_at (P := P) w ty q g since c0 seen es clock i2 g2 hold hsc with ⟨h0, hr⟩ | ⟨e, he, w1, hw1, hr⟩
 ·rw [hr]
  exact hK _ _ (k0 h0 _ _ _ _ (r.put (d := d) (x := .tup [.one (.b false)]) (of_decide_eq_true hd) ⟨_, rfl, rfl, fun j x u h1 h2 => by
   cases j with
   | zero => obtain rfl := Option.some.inj h1; obtain rfl := Option.some.inj h2; exact Ct.of_rep (m := m) (H := H) (.b _)
   | succ j => simp at h1⟩))
 ·rw [hr]
  have hmem : e ∈ es.toList := by unfold leftOf at he; simp at he ⊢; exact he.1
  obtain ⟨j, hj⟩ := List.mem_iff_getElem?.1 hmem
  have hj' : es[j]? = some e := by rw [← Array.getElem?_toList]; exact hj
  have r1 : Rel c ⟨t, m⟩ a w1 S H := by
   rcases hw1 with rfl | rfl
   ·exact r
   ·exact r.ext (Ext.drew w S) (r.sl.ext (Ext.drew w S))
  obtain ⟨g1', vss', o', g2', g3', ⟨ho', hvs'⟩, g5'⟩ := r1.bl p _ hm
  obtain ⟨s, cs, vs, e1, e2, e3, e4, e5⟩ := Ajp hks hvs' g5' hj'
  obtain ⟨H', r2, hk2⟩ := r1.setObj (mk' := Aeh g since (seen.push e.born) clock) (css' := []) (vss := []) (o := .mapIter (some g) since (seen.push e.born) clock) hi rfl rfl ⟨rfl, fun j cs vs h => by simp at h⟩
  refine hK _ _ (k1 j e s cs hj' he e1 e2 _ _ _ _ (r2.put (d := d) (x := .tup [.one (.b true), .one (.s s), .agg cs]) (of_decide_eq_true hd) ⟨_, rfl, rfl, fun i x u h1 h2 => ?_⟩))
  match i with
  | 0 => obtain rfl := Option.some.inj h1; obtain rfl := Option.some.inj h2; exact Ct.of_rep (m := m.set pi (.obj q (Aeh g since (seen.push e.born) clock) [])) (H := H') (.b _)
  | 1 => obtain rfl := Option.some.inj h1; obtain rfl := Option.some.inj h2; rw [e4]; exact Ct.of_rep (m := m.set pi (.obj q (Aeh g since (seen.push e.born) clock) [])) (H := H') (.s _)
  | 2 => obtain rfl := Option.some.inj h1; obtain rfl := Option.some.inj h2; rw [e5]; exact ⟨_, rfl, show LsR _ _ vs.toArray.toList from by rw [List.toList_toArray]; exact e3.mono fun l v h => Ct.of_rep (Rep.mono hk2 h)⟩
  | i + 3 => simp at h1
theorem Age {x : Operand} {g q p pi since : Nat} {es : Array MapEntry} {clock : Nat} {seen : Array Nat} {css : List (List Lf)} {ss : List ByteArray} {j : Nat} {e : MapEntry} {s : ByteArray} {cs : List Lf} (hd : decide (d < c.nt) = true)
  (hx : Cf ⟨t, m⟩ x = .s (.one (.raw (.pointer (some ⟨q, 0, none⟩))))) (hm : m[p]? = some (.obj g (Yi Q5 es clock) css)) (hi : m[pi]? = some (.obj q (Aeh g since (seen.push e.born) clock) [])) (hn : (es.toList.map (·.born)).Nodup)
  (hks : es.toList.map (·.key) = ss.map .string) (hj : es[j]? = some e) (hs : ss[j]? = some s) (hcs : css[j]? = some cs)
  (k : AWL P c ops Q rest ⟨upd t d (.tup [.one (.s s), .agg cs]), m⟩) :
  AWL P c ops Q (⟨some d, .entry x, ty, pos, af, none⟩ :: rest) ⟨t, m⟩ := by
 intro a w S H r
 obtain ⟨g1, vss, o, g2, g3, ⟨rfl, hvs⟩, g5⟩ := r.bl p _ hm
 obtain ⟨i1, vss2, o2, i2, i3, rfl, i5⟩ := r.bl pi _ hi
 have ex : a.eval x = .pointer (some ⟨q, 0, none⟩) := by
  have h := Br r x
  rw [hx] at h
  exact Mq h
 obtain ⟨s', cs', vs, e1, e2, e3, e4, e5⟩ := Ajp hks hvs g5 hj
 rw [hs] at e1; rw [hcs] at e2
 obtain rfl := Option.some.inj e1
 obtain rfl := Option.some.inj e2
 have hmem : e ∈ es.toList := List.mem_of_getElem? (i := j) (by rw [Array.getElem?_toList]; exact hj)
 have hrw : (execOp a.eval ⟨some d, .entry x, ty, pos, af, none⟩).run P w = .ok (.value (.tuple #[e.key, e.val])) w := by
  simp [execOp, ex, run_entry_at w q g since seen es clock e i2 g2 hmem hn]
 refine wpList_plain rfl fun K hK => ?_
 unfold Oper.wp
 rw [hrw]
 refine hK _ _ (k _ _ _ _ (r.put (d := d) (x := .tup [.one (.s s), .agg cs]) (of_decide_eq_true hd) ⟨_, rfl, rfl, fun i x u h1 h2 => ?_⟩))
 match i with
 | 0 => obtain rfl := Option.some.inj h1; obtain rfl := Option.some.inj h2; rw [e4]; exact Ct.of_rep (m := m) (H := H) (.s _)
 | 1 => obtain rfl := Option.some.inj h1; obtain rfl := Option.some.inj h2; rw [e5]; exact ⟨_, rfl, show LsR _ _ vs.toArray.toList from by rw [List.toList_toArray]; exact e3.mono fun l v h => Ct.of_rep h⟩
 | i + 2 => simp at h1
end
end Go.Proofs.YtphgpfgibpgfiaaGreat.Abs
namespace Go.Proofs.YtphgpfgibpgfiaaGreat.Abs
open Go.RowKit Go.Shelf Go.Sort
open Go.Proofs (sortWorldK)
theorem Aff {R : Lf → Value → Prop} : ∀ {a b : List Lf} {vs : List Value}, LsR R (a ++ b) vs → LsR R a (vs.take a.length) ∧ LsR R b (vs.drop a.length) := fun {a b vs} h => by
 obtain ⟨h1, h2⟩ := h
 rw [List.length_append] at h1
 refine ⟨⟨by rw [List.length_take]; omega, fun j l v e1 e2 => ?_⟩, ⟨by rw [List.length_drop]; omega, fun j l v e1 e2 => ?_⟩⟩
 ·have hj := (List.getElem?_eq_some_iff.1 e1).1
  rw [List.getElem?_take, if_pos hj] at e2
  exact h2 j l v (by rw [List.getElem?_append_left hj]; exact e1) e2
 ·rw [List.getElem?_drop] at e2
  exact h2 (a.length + j) l v (by rw [List.getElem?_append_right (by omega)]; simpa using e1) e2
theorem Ahs {R : Lf → Value → Prop} {a b : List Lf} {va vb : List Value} (ha : LsR R a va) (hb : LsR R b vb) : LsR R (a ++ b) (va ++ vb) := by
 refine ⟨by rw [List.length_append, List.length_append, ha.1, hb.1], fun j l v e1 e2 => ?_⟩
 rcases Nat.lt_or_ge j a.length with hj | hj
 ·rw [List.getElem?_append_left hj] at e1
  rw [List.getElem?_append_left (by rw [← ha.1]; exact hj)] at e2
  exact ha.2 j l v e1 e2
 ·rw [List.getElem?_append_right hj] at e1
  rw [List.getElem?_append_right (by rw [← ha.1]; exact hj), ← ha.1] at e2
  exact hb.2 _ l v e1 e2
theorem Ajq {α : Type} {f : α → List Lf} {R : Lf → Value → Prop} : ∀ {xs : List α} {vals : List Value}, LsR R (xs.flatMap f) vals → ∃ d : List { p : α × List Value // LsR R (f p.1) p.2 }, d.map (fun p => p.1.1) = xs ∧ d.flatMap (fun p => p.1.2) = vals
 | [], vals, h => by
  have : vals = [] := List.eq_nil_of_length_eq_zero h.1.symm
  exact ⟨[], rfl, this.symm⟩
 | x :: xs, vals, h => by
  rw [List.flatMap_cons] at h
  obtain ⟨h1, h2⟩ := Aff h
  obtain ⟨d, e1, e2⟩ := Ajq h2
  refine ⟨⟨(x, vals.take (f x).length), h1⟩ :: d, by rw [List.map_cons, e1], ?_⟩
  rw [List.flatMap_cons, e2]
  exact List.take_append_drop ..
theorem Afl {α : Type} {f : α → List Lf} {R : Lf → Value → Prop} : ∀ d : List { p : α × List Value // LsR R (f p.1) p.2 }, LsR R ((d.map (fun p => p.1.1)).flatMap f) (d.flatMap (fun p => p.1.2))
 | [] => ⟨rfl, fun j l v h => by simp at h⟩
 | p :: d => by
  rw [List.map_cons, List.flatMap_cons, List.flatMap_cons]
  exact Ahs p.2 (Afl d)
theorem Ahr {β γ : Type} {g : β → List γ} {k : Nat} (hk : ∀ x, (g x).length = k) (xs : List β) {j i : Nat} (hi : i < k) (hj : j < xs.length) : (xs.flatMap g)[j * k + i]? = (g xs[j])[i]? := by
 have e : (xs.flatMap g)[j * k + i]? = ((xs.flatMap g).drop (j * k))[i]? := by rw [List.getElem?_drop]
 have h2 : (xs.flatMap g).drop (j * k) = (xs.drop j).flatMap g := by
  clear e hj
  induction xs generalizing j with
  | nil => simp
  | cons a l ih =>
   cases j with
   | zero => simp
   | succ j =>
    rw [List.flatMap_cons, List.drop_append, List.drop_succ_cons, ← ih, hk]
    rw [List.drop_eq_nil_of_le (by rw [hk, Nat.succ_mul]; omega), List.nil_append]
    congr 1
    rw [Nat.succ_mul]; omega
 rw [e, h2, List.drop_eq_getElem_cons hj, List.flatMap_cons, List.getElem?_append_left (by rw [hk]; exact hi)]
theorem Za {β : Type} [Inhabited β] {enc : β → List Value} {k : Nat} (hk : ∀ x, (enc x).length = k) (d : Array β) : (flatK enc k d).toList = d.toList.flatMap enc := by
 have hlen : (d.toList.flatMap enc).length = d.size * k := by
  have : ∀ l : List β, (l.flatMap enc).length = l.length * k := fun l => by
   induction l with
   | nil => simp
   | cons a l ih => rw [List.flatMap_cons, List.length_append, ih, hk, List.length_cons, Nat.succ_mul, Nat.add_comm]
  rw [this]; simp
 apply List.ext_getElem
 ·rw [hlen]; simp
 ·intro t h1 h2
  rw [hlen] at h2
  have k0 : 0 < k := by
   rcases Nat.eq_zero_or_pos k with h | h
   ·rw [h] at h2; simp at h2
   ·exact h
  have hj : t / k < d.size := Nat.div_lt_of_lt_mul (by rw [Nat.mul_comm]; exact h2)
  have hi : t % k < k := Nat.mod_lt _ k0
  have ht : (flatK enc k d)[t]! = (flatK enc k d)[t]'(by simpa using h2) := getElem!_pos _ t _
  have e1 : (flatK enc k d).toList[t] = (enc d[t / k])[t % k]'(by rw [hk]; exact hi) := by
   rw [Array.getElem_toList, ← ht, get_flatK enc k d t h2, getElem!_pos d _ hj, getElem!_pos _ _ (by rw [hk]; exact hi)]
  have e2 := Ahr hk d.toList (j := t / k) hi (by simpa using hj)
  have e3 : t / k * k + t % k = t := by rw [Nat.mul_comm]; exact Nat.div_add_mod t k
  have e4 : d.toList[t / k]'(by simpa using hj) = d[t / k] := Array.getElem_toList ..
  rw [e3, List.getElem?_eq_getElem (by rw [hlen]; exact h2), e4, List.getElem?_eq_getElem (by rw [hk]; exact hi)] at e2
  rw [e1, Option.some.inj e2]
section
variable {β : Type} [Inhabited β] {enc : β → List Value} {k : Nat} {w : World} {b n : Nat} {d : Array β} {os : Array Obj} {cur : Array Value} {e : TypeId}
theorem Alh (hb : w.heap[b]? = some (.cells cur e (0, 0))) (hd : d.size * k ≤ cur.size) : (sortWorldK enc k w b 0 n d os).heap[b]? = some (.cells ((flatK enc k d).toList ++ cur.toList.drop (d.size * k)).toArray e (0, 0)) := by
 have hlt := (Array.getElem?_eq_some_iff.1 hb).1
 have h1 : (sortWorldK enc k w b 0 n d os).heap[b]? = (putRowK enc k (Sort.ahead w n) b 0 d).heap[b]? := by
  show ((putRowK enc k (Sort.ahead w n) b 0 d).heap ++ os)[b]? = _
  rw [Array.getElem?_append_left (by simp [putRowK, Sort.ahead]; exact hlt)]
 rw [h1]
 show ((Sort.ahead w n).heap.modify b _)[b]? = _
 rw [Array.getElem?_modify, if_pos rfl]
 show (w.heap[b]?).map _ = _
 rw [hb]
 show some (Obj.cells (putCells id 0 (flatK enc k d) cur) e (0, 0)) = _
 congr 2
 apply Array.ext_getElem?
 intro i
 rw [putCells, Array.getElem?_mapIdx]
 simp only [size_flatK, Nat.zero_le, true_and, Nat.zero_add, Nat.sub_zero, id]
 have hto : ((flatK enc k d).toList ++ cur.toList.drop (d.size * k)).toArray[i]? = ((flatK enc k d).toList ++ cur.toList.drop (d.size * k))[i]? := List.getElem?_toArray ..
 rw [hto]
 rcases Nat.lt_or_ge i (d.size * k) with hi | hi
 ·rw [List.getElem?_append_left (by simpa using hi), Array.getElem?_toList, Array.getElem?_eq_getElem (show i < cur.size by omega), Array.getElem?_eq_getElem (show i < (flatK enc k d).size by simpa using hi), Option.map_some, if_pos hi, getElem!_pos]
 ·rw [List.getElem?_append_right (by simpa using hi), List.getElem?_drop, Array.getElem?_toList, Array.length_toList, size_flatK, show d.size * k + (i - d.size * k) = i by omega]
  cases cur[i]? with
  | none => rfl
  | some v => rw [Option.map_some, if_neg (by omega)]
theorem Ze {i : Nat} (hi : i < w.heap.size) (hne : i ≠ b) : (sortWorldK enc k w b 0 n d os).heap[i]? = w.heap[i]? := by
 have h1 : (sortWorldK enc k w b 0 n d os).heap[i]? = (putRowK enc k (Sort.ahead w n) b 0 d).heap[i]? := by
  show ((putRowK enc k (Sort.ahead w n) b 0 d).heap ++ os)[i]? = _
  rw [Array.getElem?_append_left (by simp [putRowK, Sort.ahead]; exact hi)]
 rw [h1]
 show ((Sort.ahead w n).heap.modify b _)[i]? = _
 rw [Array.getElem?_modify, if_neg (fun h => hne h.symm)]
 rfl
theorem Yu : w.heap.size ≤ (sortWorldK enc k w b 0 n d os).heap.size := by
 show _ ≤ ((putRowK enc k (Sort.ahead w n) b 0 d).heap ++ os).size
 rw [Array.size_append]
 simp [putRowK, Sort.ahead]
end
theorem Ana {P : Program} {ρ : Ren} (L : Go.Proofs.SlLaysF0.n6 P ρ) {α : Type} {f : α → List Lf} {e sz g : Nat} (cf : α → α → Int) (hf : ∀ x, (f x).length = sz) (hsz : 0 < sz)
  (aE : ∀ w, (isAgg (ρ.t 24)).run P w = .ok true w) (zE : ∀ w, (Go.sizeOf (ρ.t 24)).run P w = .ok sz w) (hO : SWO (Go.Proofs.ltOf cf)) (eg : ∀ args w, (callFunc g args).run P w = .ok (.enter g args) w)
  (hg : ∀ (W : World) (S : Dd) (x y : α) (vx vy : List Value), (∀ b i, S b i → b < W.heap.size) → LsR (Rep W S) (f x) vx → LsR (Rep W S) (f y) vy → Calls P g #[.agg vx.toArray, .agg vy.toArray] W fun e w' => e = .returned (.int .i64 (cf x y)) ∧ ∃ q os', w' = grow (W.drewN q) os')
  {xs ys : List α} (hn : xs.length ≤ 1000000000000000000) (hys : ∀ zs : List α, zs.Perm xs → zs.Pairwise (fun a b => Go.Proofs.ltOf cf b a = false) → zs = ys) :
  C3 P (ρ.f 6) [.arr e sz 0 (xs.flatMap f)] [.one (.ls 0 xs.length), .one (.raw (.func (.func g) #[] #[]))] (fun y m' => y = .tup [] ∧ m' = [.arr e sz 0 (ys.flatMap f)]) := by
 intro w S H vs hin mem hvs
 obtain ⟨hvl, hvr⟩ := hvs
 obtain ⟨v0, v1, rfl⟩ : ∃ v0 v1, vs = #[v0, v1] := by
  obtain ⟨l⟩ := vs
  match l, hvl with
  | [a, b], _ => exact ⟨a, b, rfl⟩
 have hv1 : v1 = .func (.func g) #[] #[] := Mq (hvr 1 _ v1 rfl rfl)
 obtain ⟨_, _, hv0⟩ := (show Gw w S [.arr e sz 0 (xs.flatMap f)] H (.ls 0 xs.length) v0 from hvr 0 _ v0 rfl rfl)
 have hv0 := (hv0 e sz 0 _ rfl).2 (Ay hf xs).symm
 obtain ⟨_, _, n', vals, hown, hls, _⟩ := mem.bl 0 _ rfl
 have hn' : n' = xs.length := Og hown hsz (by rw [← hls.1, Ay hf])
 subst hn'
 have hin' := hin
 subst hv1
 have none0 : xs.length = 0 → (∃ p cap, v0 = .slice p 0 cap) → Calls P (ρ.f 6) #[v0, .func (.func g) #[] #[]] w fun e' w' => ∃ v x m' S' H', e' = .returned v ∧ (x = .tup [] ∧ m' = [.arr e sz 0 (ys.flatMap f)]) ∧ Z9 (Ahh [.arr e sz 0 (xs.flatMap f)] H) w S w' S' ∧ InH w' S' ∧ Mem w' S' m' H' ∧
   (∀ (p : Nat) (b : Blk) (g : Nat), m'[p]? = some b → b.own (H' p) = some g → w.heap.size ≤ g ∨ Ahh [.arr e sz 0 (xs.flatMap f)] H g) ∧ Aqe [.arr e sz 0 (xs.flatMap f)] H m' H' ∧ AVR (Ct w' S' m' H') x v := fun h0 ⟨p, cap, hp⟩ => by
  have hx : xs = [] := List.eq_nil_of_length_eq_zero h0
  have hy : ys = xs := (hys xs (List.Perm.refl _) (by rw [hx]; exact List.Pairwise.nil)).symm
  subst hp
  refine (Go.Proofs.AnyF.slices_SortFunc_none { L with } p cap _ w).mono ?_
  rintro e' w' ⟨rfl, rfl⟩
  rw [hy]
  exact ⟨_, .tup [], _, S, H, rfl, ⟨rfl, rfl⟩, Z9.refl _ _ _, hin, mem, fun p b g hb ho => .inr ⟨p, b, hb, ho⟩, ⟨Nat.le_refl _, fun _ _ _ _ => rfl, fun p e' sz' k cs _ hm => ⟨k, cs, hm, .inl ⟨rfl, rfl⟩⟩, fun _ _ h => h⟩, Mt⟩
 rcases hown.2 with ⟨hH, h0⟩ | ⟨blk, cap, cur, hH, _, hheap, hcap, hmax, hcs, hvals⟩
 ·exact none0 h0 ⟨none, 0, hv0.trans hH⟩
 rcases Nat.eq_zero_or_pos xs.length with h0 | hpos
 ·exact none0 h0 ⟨_, _, by rw [hv0, hH, h0]⟩
 obtain ⟨d, hd1, hd2⟩ := Ajq hls
 have hdl : d.length = xs.length := by rw [← hd1, List.length_map]
 obtain ⟨p0, hp0⟩ : ∃ p0, d[0]? = some p0 := ⟨_, List.getElem?_eq_getElem (by omega)⟩
 let β := { p : α × List Value // LsR (Rep w S) (f p.1) p.2 }
 let _ : Inhabited β := ⟨p0⟩
 let enc : β → List Value := fun p => p.1.2
 have hk : ∀ x : β, (enc x).length = sz := fun x => by rw [← x.2.1, hf]
 have h1 : ∀ x : β, ∀ v ∈ enc x, v.oneCell' = true := fun x v hv => by
  obtain ⟨j, hj⟩ := List.mem_iff_getElem?.1 hv
  have hjl : j < (f x.1.1).length := by rw [x.2.1]; exact (List.getElem?_eq_some_iff.1 hj).1
  exact Rep.oneCell (x.2.2 j _ v (List.getElem?_eq_getElem hjl) hj)
 have hblk : blk < w.heap.size := (Array.getElem?_eq_some_iff.1 hheap).1
 have hnoS : ∀ i, ¬ S blk i := fun i hi => absurd (mem.sb 0 _ blk i rfl (by show Hm (H 0) = _; rw [hH]; rfl) hi) (Nat.not_lt_zero _)
 have hflat : (flatK enc sz d.toArray).toList = vals := by rw [Za hk]; exact hd2
 have hcurlen : d.toArray.size * sz ≤ cur.size := by
  rw [hcs]; simp only [List.size_toArray, hdl]; exact Nat.mul_le_mul_right _ hcap
 have hH' : HoldsK enc sz w blk 0 d.toArray := fun j hj => by
  rw [size_flatK, List.size_toArray] at hj
  have hjv : j < vals.length := by rw [← hls.1, Ay hf, ← hdl]; exact hj
  have hval : (flatK enc sz d.toArray)[j]! = vals[j] := by
   rw [getElem!_pos _ _ (by rw [size_flatK, List.size_toArray]; exact hj), ← Array.getElem_toList]
   simp only [hflat]
  have hcur : cur.toList[j]? = some vals[j] := by
   have : (cur.toList.take (xs.length * sz))[j]? = some vals[j] := by rw [hvals, List.getElem?_eq_getElem hjv]
   rw [List.getElem?_take] at this
   split at this
   ·exact this
   ·cases this
  refine ⟨?_, ?_⟩
  ·rw [Nat.zero_add, cell_of_row w _ _ cur e (0, 0) hheap, hval]
   simpa using hcur
  ·rw [Nat.zero_add]
   unfold World.frozen?
   rw [hheap]
   simp
 have hcmp : Go.Proofs.CmpLays P g #[] enc sz (fun x y : β => cf x.1.1 y.1.1) blk 0 d.toArray.size w := fun m os dk hdk x y => by
  have hkeep : ∀ b i, S b i → S b i ∧ (sortWorldK enc sz w blk 0 m dk os).cell? ⟨b, i, none⟩ = w.cell? ⟨b, i, none⟩ := fun b i hs =>
   ⟨hs, World.cell?_of_block (w := w) (Ze (hin.1 b i hs) fun e => hnoS i (e ▸ hs))⟩
  have := hg (sortWorldK enc sz w blk 0 m dk os) S x.1.1 y.1.1 x.1.2 y.1.2 (fun b i hs => Nat.lt_of_lt_of_le (hin.1 b i hs) Yu) (x.2.mono fun l v => Rep.mono hkeep) (y.2.mono fun l v => Rep.mono hkeep)
  simpa using this
 have hO' : SWO (Go.Proofs.ltOf (fun x y : β => cf x.1.1 y.1.1)) := ⟨fun x => hO.irrefl x.1.1, fun x y z => hO.trans x.1.1 y.1.1 z.1.1, fun x y z => hO.ntrans x.1.1 y.1.1 z.1.1⟩
 have hcon := Go.Proofs.AnyQ.slices_SortFunc L sz aE zE enc hk h1 (fun x y : β => cf x.1.1 y.1.1) hO' g #[] blk 0 cap d.toArray w eg hcmp hH' hblk (by rw [List.size_toArray, hdl]; omega)
 rw [hv0, hH]
 rw [List.size_toArray, hdl] at hcon
 refine hcon.mono ?_
 rintro e' w' ⟨rfl, d', n2, os, hperm, hsort, rfl⟩
 obtain ⟨hps, _, hpp⟩ := hperm
 have hds : d'.size = xs.length := by rw [hps, List.size_toArray, hdl]
 have hpl : d'.toList.Perm d := by
  have e1 : d'.extract 0 xs.length = d' := by rw [← hds]; simp
  have e2 : d.toArray.extract 0 xs.length = d.toArray := by rw [← hdl]; simp
  rw [e1, e2] at hpp
  simpa using hpp
 have hz : d'.toList.map (fun p => p.1.1) = ys := by
  refine hys _ ?_ ?_
  ·rw [← hd1]; exact hpl.map _
  ·rw [List.pairwise_map]
   refine List.pairwise_iff_getElem.2 fun i j hi hj hij => ?_
   rw [Array.length_toList] at hi hj
   have := hsort i j (Nat.zero_le _) hij (by omega)
   rw [getElem!_pos d' j (by omega), getElem!_pos d' i (by omega)] at this
   exact this
 have hyl : ys.length = xs.length := by rw [← hz, List.length_map, Array.length_toList, hds]
 have hsame := Alh (enc := enc) (k := sz) (n := n2) (d := d') (os := os) hheap (by rw [hds]; rw [List.size_toArray, hdl] at hcurlen; exact hcurlen)
 have hkeep : ∀ b i, S b i → S b i ∧ (sortWorldK enc sz w blk 0 n2 d' os).cell? ⟨b, i, none⟩ = w.cell? ⟨b, i, none⟩ := fun b i hs =>
  ⟨hs, World.cell?_of_block (w := w) (Ze (hin.1 b i hs) fun e => hnoS i (e ▸ hs))⟩
 have hin2 : InH (sortWorldK enc sz w blk 0 n2 d' os) S := hin.turn Yu fun b i hs => (hkeep b i hs).2
 have hlenv : (d'.toList.flatMap enc).length = xs.length * sz := by rw [← Za hk, Array.length_toList, size_flatK, hds]
 have hownX : Ahh [.arr e sz 0 (xs.flatMap f)] H blk := ⟨0, _, rfl, by show Hm (H 0) = _; rw [hH]; rfl⟩
 refine ⟨_, .tup [], [.arr e sz 0 (ys.flatMap f)], S, H, rfl, ⟨rfl, rfl⟩, ⟨rfl, rfl, rfl, Yu, fun b hb hx => Ze hb fun e => hx (e ▸ hownX), fun b i hs => hs, fun b i hs => (hkeep b i hs).2, fun b i _ _ hs => hs⟩, hin2, ⟨fun p b hb => ?_, fun p b g' hb ho => ?_, fun p q b b' g' hb hb' _ _ => ?_, fun p b g' i hb ho hs => ?_⟩, fun p b g' hb ho => ?_, ⟨Nat.le_refl _, fun _ _ _ _ => rfl, fun p e' sz' k' cs' hp hm => ?_, fun _ _ h => h⟩, Mt⟩
 ·match p with
  | 0 =>
   obtain rfl := Option.some.inj hb
   refine ⟨hsz, Nat.zero_le _, xs.length, d'.toList.flatMap enc, ⟨hlenv, .inr ⟨blk, cap, _, hH, Nat.zero_le _, hsame, hcap, hmax, ?_, ?_⟩⟩, ?_, fun g' _ i hi => absurd hi (Nat.not_lt_zero _)⟩
   ·rw [List.size_toArray, List.length_append, Array.length_toList, size_flatK, List.length_drop, Array.length_toList, hds, hcs]
    have := Nat.mul_le_mul_right sz hcap
    omega
   ·rw [Za hk, List.toList_toArray, List.take_append_of_le_length (by rw [hlenv]; exact Nat.le_refl _), ← hlenv, List.take_length]
   ·rw [← hz]
    exact (Afl d'.toList).mono fun l v => Rep.mono hkeep
  | p + 1 => simp at hb
 ·match p with
  | 0 =>
   obtain rfl := Option.some.inj hb
   have hg' : Hm (H 0) = some g' := ho
   rw [hH] at hg'
   obtain rfl : blk = g' := by simpa [Hm] using hg'
   exact Nat.lt_of_lt_of_le hblk Yu
  | p + 1 => simp at hb
 ·match p, q with
  | 0, 0 => rfl
  | 0, q + 1 => simp at hb'
  | p + 1, _ => simp at hb
 ·match p with
  | 0 =>
   obtain rfl := Option.some.inj hb
   have hg' : Hm (H 0) = some g' := ho
   rw [hH] at hg'
   obtain rfl : blk = g' := by simpa [Hm] using hg'
   exact absurd hs (hnoS i)
  | p + 1 => simp at hb
 ·match p with
  | 0 =>
   obtain rfl := Option.some.inj hb
   exact .inr ⟨0, _, rfl, ho⟩
  | p + 1 => simp at hb
 ·match p with
  | 0 =>
   obtain ⟨rfl, rfl, rfl, rfl⟩ : e = e' ∧ sz = sz' ∧ 0 = k' ∧ ys.flatMap f = cs' := by simpa using hm
   exact ⟨0, _, rfl, .inl ⟨by rw [Ay hf, Ay hf, hyl], rfl⟩⟩
  | p + 1 => simp at hp
end Go.Proofs.YtphgpfgibpgfiaaGreat.Abs
namespace Go.Proofs.YtphgpfgibpgfiaaGreat.Abs
open Go.RowKit
theorem N3 {ls : List Lf} (h : Xo (.int .i64) ls) : ∃ n : Int, (-9223372036854775808 ≤ n ∧ n ≤ 9223372036854775807) ∧ ls = eI n := by
 obtain ⟨n, hw, rfl⟩ := h
 exact ⟨n, Al4 hw, rfl⟩
theorem Anr {k : IntKind} {n : Int} (h : (Lit.int k n).wf = true) : k.min ≤ n ∧ n ≤ k.max := by
 simp only [Lit.wf, Bool.and_eq_true, decide_eq_true_eq] at h
 exact h
theorem Aet {ls : List Lf} (h : Xo (.int .u8) ls) : ∃ a : UInt8, True ∧ ls = eU8 a := by
 obtain ⟨n, hw, rfl⟩ := h
 obtain ⟨h1, h2⟩ := Anr hw
 simp [IntKind.min, IntKind.max, IntKind.bits, IntKind.signed] at h1 h2
 refine ⟨UInt8.ofNat n.toNat, trivial, ?_⟩
 show _ = [Lf.i .u8 _]
 rw [show ((UInt8.ofNat n.toNat).toNat : Int) = n by rw [UInt8.toNat_ofNat']; omega]
theorem Abp {ls : List Lf} (h : Xo .bool ls) : ∃ b : Bool, True ∧ ls = eB b := by
 obtain ⟨b, rfl⟩ := h
 exact ⟨b, trivial, rfl⟩
theorem Y5 {α : Type} {e : Sh} {f : α → List Lf} {Q : α → Prop} (he : ∀ {r}, Xo e r → ∃ x, Q x ∧ r = f x) {ls : List Lf} (h : Xo (.sl e) ls) : ∃ xs : List α, (xs.length ≤ maxLen ∧ ∀ x ∈ xs, Q x) ∧ ls = eL f xs := by
 obtain ⟨rows, hl, hr, rfl⟩ := h
 have : ∃ xs : List α, (∀ x ∈ xs, Q x) ∧ rows = xs.map f := by
  clear hl
  induction rows with
  | nil => exact ⟨[], fun _ h => by simp at h, rfl⟩
  | cons r rs ih =>
   obtain ⟨x, hq, hx⟩ := he (hr r (List.mem_cons_self ..))
   obtain ⟨xs, hqs, hxs⟩ := ih (fun r h => hr r (List.mem_cons_of_mem _ h))
   exact ⟨x :: xs, fun y hy => by rcases List.mem_cons.1 hy with rfl | hy; exact hq; exact hqs y hy, by rw [hx, hxs]; rfl⟩
 obtain ⟨xs, hq, rfl⟩ := this
 exact ⟨xs, ⟨by simpa using hl, hq⟩, by rw [eL, List.flatMap, List.length_map]⟩
end Go.Proofs.YtphgpfgibpgfiaaGreat.Abs
namespace Go.Proofs.YtphgpfgibpgfiaaGreat.Abs
theorem Ch {n : Int} (h1 : -9223372036854775808 ≤ n) (h2 : n ≤ 9223372036854775807) : wI n = n := by
 unfold wI IntKind.wrap
 simp [IntKind.bits, IntKind.signed]
 omega
theorem Dh {n : Nat} (h : n ≤ 1000000000000000000) : n < fuel := by unfold fuel; omega
theorem Bv {α : Type} (xs : List α) (i : Nat) : idx xs (i : Int) = xs[i]? := by
 unfold idx
 rw [if_pos (Int.natCast_nonneg i), Int.toNat_natCast]
theorem Abh {α : Type} {xs : List α} {j : Int} (h0 : 0 ≤ j) (h1 : j < xs.length) : ∃ x, idx xs j = some x ∧ xs[j.toNat]? = some x := by
 have h : j.toNat < xs.length := by omega
 exact ⟨xs[j.toNat], by unfold idx; rw [if_pos h0, List.getElem?_eq_getElem h], List.getElem?_eq_getElem h⟩
theorem Se {α : Type} {xs : List α} {lo hi : Int} (h0 : 0 ≤ lo) (h1 : lo ≤ hi) (h2 : hi ≤ xs.length) : cut xs lo hi = some ((xs.drop lo.toNat).take (hi.toNat - lo.toNat)) := by
 unfold cut
 rw [if_pos ⟨h0, h1, h2⟩]
theorem Eg {σ β : Type} {f : σ → Option (LB σ β)} {P : σ → Prop} {μ : σ → Nat} {R : β → Prop}
  (h : ∀ s, P s → (∃ s', f s = some (.cont s') ∧ P s' ∧ μ s' < μ s) ∨ ∃ b, f s = some (.brk b) ∧ R b) : ∀ (n : Nat) (s : σ), P s → μ s < n → ∃ b, Cw f n s = some b ∧ R b
 | 0, s, _, hm => by omega
 | n + 1, s, hp, hm => by
  rcases h s hp with ⟨s', hf, hp', hlt⟩ | ⟨b, hf, hr⟩
  ·obtain ⟨b, hb, hr⟩ := Eg h n s' hp' (by omega)
   exact ⟨b, by rw [Cw, hf]; exact hb, hr⟩
  ·exact ⟨b, by rw [Cw, hf], hr⟩
theorem H4 {σ β ρ : Type} {f : σ → Option (LR σ β ρ)} {P : σ → Prop} {μ : σ → Nat} {R : Sum ρ β → Prop}
  (h : ∀ s, P s → (∃ s', f s = some (.cont s') ∧ P s' ∧ μ s' < μ s) ∨ (∃ b, f s = some (.brk b) ∧ R (.inr b)) ∨ ∃ r, f s = some (.ret r) ∧ R (.inl r)) : ∀ (n : Nat) (s : σ), P s → μ s < n → ∃ b, Fc f n s = some b ∧ R b
 | 0, s, _, hm => by omega
 | n + 1, s, hp, hm => by
  rcases h s hp with ⟨s', hf, hp', hlt⟩ | ⟨b, hf, hr⟩ | ⟨b, hf, hr⟩
  ·obtain ⟨b, hb, hr⟩ := H4 h n s' hp' (by omega)
   exact ⟨b, by rw [Fc, hf]; exact hb, hr⟩
  ·exact ⟨.inr b, by rw [Fc, hf], hr⟩
  ·exact ⟨.inl b, by rw [Fc, hf], hr⟩
theorem X9 {α σ β τ : Type} {f : τ → Option (LB τ β)} (st : σ → Nat → τ) (xs : List α) (g : σ → α → σ) (out : σ → β) (hl : xs.length < 1000000000000000000000000)
  (h1 : ∀ acc i x, xs[i]? = some x → f (st acc i) = some (.cont (st (g acc x) (i + 1)))) (h2 : ∀ acc, f (st acc xs.length) = some (.brk (out acc))) (a0 : σ) : Cw f fuel (st a0 0) = some (out (xs.foldl g a0)) := by
 have key : ∀ (k i : Nat) (acc : σ) (n : Nat), k + i = xs.length → k < n → Cw f n (st acc i) = some (out ((xs.drop i).foldl g acc)) := by
  intro k
  induction k with
  | zero =>
   intro i acc n hi hn
   obtain ⟨m, rfl⟩ : ∃ m, n = m + 1 := ⟨n - 1, by omega⟩
   have : i = xs.length := by omega
   subst this
   rw [Cw, h2, List.drop_length]
   rfl
  | succ k ih =>
   intro i acc n hi hn
   obtain ⟨m, rfl⟩ : ∃ m, n = m + 1 := ⟨n - 1, by omega⟩
   have hlt : i < xs.length := by omega
   rw [Cw, h1 acc i xs[i] (List.getElem?_eq_getElem hlt), List.drop_eq_getElem_cons hlt, List.foldl_cons]
   exact ih (i + 1) _ m (by omega) (by omega)
 have := key xs.length 0 a0 fuel (by omega) hl
 rwa [List.drop_zero] at this
end Go.Proofs.YtphgpfgibpgfiaaGreat.Abs
namespace Go.Proofs.YtphgpfgibpgfiaaGreat.Abs
theorem Aa2 (x y : UInt8) : x < y ∨ x = y ∨ y < x := by
 rcases Nat.lt_trichotomy x.toNat y.toNat with h | h | h
 ·exact .inl (UInt8.lt_iff_toNat_lt.2 h)
 ·exact .inr (.inl (UInt8.toNat_inj.1 h))
 ·exact .inr (.inr (UInt8.lt_iff_toNat_lt.2 h))
theorem Rj {x y : UInt8} (h : x < y) : ¬ y < x := fun h' => by
 have := UInt8.lt_iff_toNat_lt.1 h
 have := UInt8.lt_iff_toNat_lt.1 h'
 omega
theorem Ahu {x y z : UInt8} (h : x < y) (h' : y < z) : x < z := by
 have h1 := UInt8.lt_iff_toNat_lt.1 h
 have h2 := UInt8.lt_iff_toNat_lt.1 h'
 exact UInt8.lt_iff_toNat_lt.2 (by omega)
theorem Kk : ∀ a : List UInt8, Dq a a = 0
 | [] => rfl
 | x :: xs => by unfold Dq; rw [if_neg (UInt8.lt_irrefl x), if_neg (UInt8.lt_irrefl x)]; exact Kk xs
theorem N1 : ∀ a b : List UInt8, Dq a b = -Dq b a
 | [], [] => rfl
 | [], _ :: _ => rfl
 | _ :: _, [] => rfl
 | x :: xs, y :: ys => by
  unfold Dq
  rcases Aa2 x y with h | h | h
  ·rw [if_pos h, if_neg (Rj h), if_pos h]
  ·subst h
   rw [if_neg (UInt8.lt_irrefl x), if_neg (UInt8.lt_irrefl x), if_neg (UInt8.lt_irrefl x), if_neg (UInt8.lt_irrefl x)]; exact N1 xs ys
  ·rw [if_neg (Rj h), if_pos h, if_pos h]; rfl
theorem N8 : ∀ {a b : List UInt8}, Dq a b = 0 → a = b
 | [], [], _ => rfl
 | [], _ :: _, h => by cases h
 | _ :: _, [], h => by cases h
 | x :: xs, y :: ys, h => by
  unfold Dq at h
  rcases Aa2 x y with h1 | h1 | h1
  ·rw [if_pos h1] at h; cases h
  ·subst h1
   rw [if_neg (UInt8.lt_irrefl x), if_neg (UInt8.lt_irrefl x)] at h
   rw [N8 h]
  ·rw [if_neg (Rj h1), if_pos h1] at h; cases h
theorem Jq : ∀ {a b c : List UInt8}, Dq a b ≤ 0 → Dq b c ≤ 0 → Dq a c ≤ 0 ∧ (Dq a b < 0 ∨ Dq b c < 0 → Dq a c < 0)
 | [], b, [], h1, h2 => ⟨Int.le_refl _, fun h => by
   cases b with
   | nil => rcases h with h | h <;> simp [Dq] at h
   | cons y ys => simp [Dq] at h2⟩
 | [], _, _ :: _, _, _ => ⟨by simp [Dq], fun _ => by simp [Dq]⟩
 | _ :: _, [], _, h1, _ => by simp [Dq] at h1
 | _ :: _, _ :: _, [], _, h2 => by simp [Dq] at h2
 | x :: xs, y :: ys, z :: zs, h1, h2 => by
  unfold Dq at h1 h2 ⊢
  rcases Aa2 x y with e1 | e1 | e1
  ·rcases Aa2 y z with e2 | e2 | e2
   ·rw [if_pos (Ahu e1 e2)]; exact ⟨by decide, fun _ => by decide⟩
   ·subst e2; rw [if_pos e1]; exact ⟨by decide, fun _ => by decide⟩
   ·rw [if_neg (Rj e2), if_pos e2] at h2; exact absurd h2 (by decide)
  ·subst e1
   rw [if_neg (UInt8.lt_irrefl x), if_neg (UInt8.lt_irrefl x)] at h1 ⊢
   rcases Aa2 x z with e2 | e2 | e2
   ·rw [if_pos e2]; exact ⟨by decide, fun _ => by decide⟩
   ·subst e2
    simp only [UInt8.lt_irrefl, if_false] at h2 ⊢
    exact Jq h1 h2
   ·rw [if_neg (Rj e2), if_pos e2] at h2; exact absurd h2 (by decide)
  ·rw [if_neg (Rj e1), if_pos e1] at h1; exact absurd h1 (by decide)
theorem Aac : ∀ a : List UInt8, Dq a (a ++ [0]) = -1
 | [] => rfl
 | x :: xs => by
  show (if x < x then (-1 : Int) else if x < x then 1 else Dq xs (xs ++ [0])) = -1
  rw [if_neg (UInt8.lt_irrefl x), if_neg (UInt8.lt_irrefl x)]
  exact Aac xs
theorem Uj {a b : List UInt8} : 0 ≤ Dq a b ↔ Dq b a ≤ 0 := by rw [N1 a b]; omega
theorem Ahk {a : List UInt8} (h : Dq a [0] < 0) : a = [] := by
 cases a with
 | nil => rfl
 | cons x xs =>
  unfold Dq at h
  have h0 : ¬ x < 0 := fun h => by have := UInt8.lt_iff_toNat_lt.1 h; rw [show (0 : UInt8).toNat = 0 from rfl] at this; omega
  rw [if_neg h0] at h
  split at h
  ·exact absurd h (by decide)
  ·cases xs <;> simp [Dq] at h
open Go.Sort
def Al8 {α : Type} (kf : α → List UInt8) (x : α) : List α → List α
 | [] => [x]
 | y :: l => if Dq (kf x) (kf y) < 0 then x :: y :: l else y :: Al8 kf x l
def Yx {α : Type} (kf : α → List UInt8) : List α → List α
 | [] => []
 | x :: l => Al8 kf x (Yx kf l)
def Fq {α : Type} (kf : α → List UInt8) (l : List α) : Prop := l.Pairwise (fun a b => Dq (kf a) (kf b) < 0)
def I2 {α : Type} (kf : α → List UInt8) (l : List α) : Prop := l.Pairwise (fun a b => kf a ≠ kf b)
section
variable {α : Type} {kf : α → List UInt8}
theorem V8 (x : α) : ∀ l : List α, (Al8 kf x l).Perm (x :: l)
 | [] => List.Perm.refl _
 | y :: l => by
  unfold Al8
  split
  ·exact List.Perm.refl _
  ·exact ((V8 x l).cons y).trans (List.Perm.swap x y l)
theorem Ko : ∀ l : List α, (Yx kf l).Perm l
 | [] => List.Perm.refl _
 | x :: l => (V8 x (Yx kf l)).trans ((Ko l).cons x)
theorem Aan {x : α} : ∀ {l : List α}, Fq kf l → (∀ y ∈ l, kf x ≠ kf y) → Fq kf (Al8 kf x l)
 | [], _, _ => List.pairwise_singleton _ _
 | y :: l, h, hd => by
  obtain ⟨h1, h2⟩ := List.pairwise_cons.1 h
  unfold Al8
  split
  ·rename_i hlt
   refine List.pairwise_cons.2 ⟨fun z hz => ?_, h⟩
   rcases List.mem_cons.1 hz with rfl | hz
   ·exact hlt
   ·exact (Jq (by omega) (Int.le_of_lt (h1 z hz))).2 (.inl hlt)
  ·rename_i hge
   refine List.pairwise_cons.2 ⟨fun z hz => ?_, Aan h2 fun z hz => hd z (List.mem_cons_of_mem _ hz)⟩
   rcases List.mem_cons.1 ((V8 x l).mem_iff.1 hz) with rfl | hz
   ·have h3 := Uj.1 (show 0 ≤ Dq (kf z) (kf y) by omega)
    rcases Int.lt_or_eq_of_le h3 with h | h
    ·exact h
    ·exact absurd (N8 h).symm (hd y (List.mem_cons_self ..))
   ·exact h1 z hz
theorem I2.perm {a b : List α} (h : a.Perm b) : I2 kf a ↔ I2 kf b := h.pairwise_iff fun h => Ne.symm h
theorem O7 : ∀ {l : List α}, I2 kf l → Fq kf (Yx kf l)
 | [], _ => List.Pairwise.nil
 | x :: l, h => by
  obtain ⟨h1, h2⟩ := List.pairwise_cons.1 h
  exact Aan (O7 h2) fun y hy => h1 y ((Ko l).mem_iff.1 hy)
theorem Fq.dist {l : List α} (h : Fq kf l) : I2 kf l := h.imp fun h e => by rw [e, Kk] at h; exact absurd h (by decide)
theorem We {a b : List α} (ha : Fq kf a) (hb : Fq kf b) (h : a.Perm b) : a = b :=
 List.Perm.eq_of_pairwise (le := fun a b => Dq (kf a) (kf b) < 0) (fun a b _ _ h1 h2 => by rw [N1] at h2; omega) ha hb h
theorem Tl {l : List α} (h : I2 kf l) : l.Nodup := h.imp fun h e => h (by rw [e])
theorem Vp {a b : List α} (ha : Fq kf a) (hb : Fq kf b) (h : ∀ x, x ∈ a ↔ x ∈ b) : a = b :=
 We ha hb ((List.perm_ext_iff_of_nodup (Tl ha.dist) (Tl hb.dist)).2 h)
theorem Adn {l : List α} {x : α} : x ∈ Yx kf l ↔ x ∈ l := (Ko l).mem_iff
theorem Ad4 {a b : List α} (h : a.Perm b) (hd : I2 kf a) : Yx kf a = Yx kf b := We (O7 hd) (O7 ((I2.perm h).1 hd)) (((Ko a).trans h).trans (Ko b).symm)
theorem Ato : SWO (Go.Proofs.ltOf fun a b : α => Dq (kf a) (kf b)) := by
 refine ⟨fun x => ?_, fun x y z h1 h2 => ?_, fun x y z h1 h2 => ?_⟩
 ·unfold Go.Proofs.ltOf; rw [decide_eq_false_iff_not]; dsimp only; rw [Kk]; decide
 ·unfold Go.Proofs.ltOf at *
  dsimp only at *
  rw [decide_eq_true_eq] at *
  exact (Jq (Int.le_of_lt h1) (Int.le_of_lt h2)).2 (.inl h1)
 ·unfold Go.Proofs.ltOf at *
  dsimp only at *
  rw [decide_eq_false_iff_not] at *
  have h3 := Uj.1 (show 0 ≤ Dq (kf x) (kf y) by omega)
  have h4 := Uj.1 (show 0 ≤ Dq (kf y) (kf z) by omega)
  have := Uj.2 (Jq h4 h3).1
  omega
theorem Aeg {xs : List α} (hd : I2 kf xs) (zs : List α) (hp : zs.Perm xs) (hs : zs.Pairwise (fun a b => Go.Proofs.ltOf (fun a b : α => Dq (kf a) (kf b)) b a = false)) : zs = Yx kf xs := by
 have hdz : I2 kf zs := (I2.perm hp).2 hd
 refine We ?_ (O7 hd) (hp.trans (Ko xs).symm)
 refine (List.Pairwise.and hs hdz).imp fun ⟨h1, h2⟩ => ?_
 unfold Go.Proofs.ltOf at h1
 rw [decide_eq_false_iff_not] at h1
 have h3 := Uj.1 (Int.not_lt.1 h1)
 rcases Int.lt_or_eq_of_le h3 with h | h
 ·exact h
 ·exact absurd (N8 h) h2
def Po (kf : α → List UInt8) (t : List α) (x : α) : List α := x :: t.filter (fun y => !(kf y == kf x))
def Vj (kf : α → List UInt8) (t : List α) (k : List UInt8) : List α := t.filter (fun y => !(kf y == k))
theorem Af7 {t : List α} (hd : I2 kf t) {j : Nat} {k : List UInt8} (hj : (t.map kf)[j]? = some k) : t.filter (fun y => !(kf y == k)) = t.eraseIdx j := by
 induction t generalizing j with
 | nil => simp at hj
 | cons y l ih =>
  obtain ⟨h1, h2⟩ := List.pairwise_cons.1 hd
  cases j with
  | zero =>
   have hk : kf y = k := by simpa using hj
   rw [List.filter_cons, if_neg (by simp [hk]), List.eraseIdx_cons_zero, List.filter_eq_self]
   intro z hz
   have := h1 z hz
   rw [hk] at this
   simp [Ne.symm this]
  | succ j =>
   rw [List.map_cons, List.getElem?_cons_succ] at hj
   have hm : k ∈ l.map kf := List.mem_of_getElem? hj
   obtain ⟨z, hz, hzk⟩ := List.mem_map.1 hm
   have hne : kf y ≠ k := by rw [← hzk]; exact h1 z hz
   rw [List.filter_cons, if_pos (by simp [hne]), ih h2 hj, List.eraseIdx_cons_succ]
theorem Wg {t : List α} {k : List UInt8} (hk : k ∉ t.map kf) : t.filter (fun y => !(kf y == k)) = t := by
 rw [List.filter_eq_self]
 intro y hy
 have : kf y ≠ k := fun e => hk (List.mem_map.2 ⟨y, hy, e⟩)
 simp [this]
theorem Ah4 {t : List α} {j : Nat} (x : α) (hj : j < t.length) : (t.set j x).Perm (x :: t.eraseIdx j) := by
 rw [List.set_eq_take_append_cons_drop, if_pos hj, List.eraseIdx_eq_take_drop_succ]
 exact List.perm_middle
theorem Y4 {t t' : List α} (hp : t'.Perm t) (hd : I2 kf t') {j : Nat} {x : α} (hj : (t'.map kf)[j]? = some (kf x)) : (t'.set j x).Perm (Po kf t x) ∧ (t'.set j x).map kf = t'.map kf ∧ I2 kf (t'.set j x) := by
 have hlt : j < t'.length := by simpa using (List.getElem?_eq_some_iff.1 hj).1
 have e : (t'.set j x).map kf = t'.map kf := by
  rw [List.map_set]
  apply List.ext_getElem?
  intro i
  rw [List.getElem?_set]
  by_cases h : j = i
  ·subst h; rw [if_pos rfl, if_pos (by simpa using hlt), hj]
  ·rw [if_neg h]
 refine ⟨(Ah4 x hlt).trans ?_, e, ?_⟩
 ·unfold Po
  rw [← Af7 hd hj]
  exact (hp.filter _).cons x
 ·unfold I2 at *
  have := (List.pairwise_map (f := kf) (R := (· ≠ ·)) (l := t')).2 hd
  rw [← e] at this
  exact List.pairwise_map.1 this
theorem Adg {t t' : List α} (hp : t'.Perm t) (hd : I2 kf t') {x : α} (hx : kf x ∉ t'.map kf) : (t' ++ [x]).Perm (Po kf t x) ∧ I2 kf (t' ++ [x]) := by
 have hx' : kf x ∉ t.map kf := fun h => hx ((hp.map kf).mem_iff.2 h)
 refine ⟨?_, ?_⟩
 ·unfold Po
  rw [Wg hx']
  exact (List.perm_append_comm.trans (List.Perm.refl _)).trans (hp.cons x)
 ·refine List.pairwise_append.2 ⟨hd, List.pairwise_singleton _ _, fun a ha b hb => ?_⟩
  rw [List.mem_singleton.1 hb]
  exact fun e => hx (List.mem_map.2 ⟨a, ha, e⟩)
theorem Aku {t t' : List α} (hp : t'.Perm t) (hd : I2 kf t') {j : Nat} {k : List UInt8} (hj : (t'.map kf)[j]? = some k) : (t'.eraseIdx j).Perm (Vj kf t k) ∧ I2 kf (t'.eraseIdx j) := by
 refine ⟨?_, hd.sublist (List.eraseIdx_sublist ..)⟩
 unfold Vj
 rw [← Af7 hd hj]
 exact hp.filter _
theorem Ag4 {t t' : List α} (hp : t'.Perm t) {k : List UInt8} (hk : k ∉ t'.map kf) : t'.Perm (Vj kf t k) := by
 unfold Vj
 rw [Wg fun h => hk ((hp.map kf).mem_iff.2 h)]
 exact hp
end
end Go.Proofs.YtphgpfgibpgfiaaGreat.Abs
namespace Go.Proofs.YtphgpfgibpgfiaaGreat.Abs
theorem Aih {α : Type} (l : List α) : (List.range l.length).filterMap (l[·]?) = l := by
 have key : ∀ n, n ≤ l.length → (List.range n).filterMap (l[·]?) = l.take n := fun n => by
  induction n with
  | zero => intro _; simp
  | succ n ih =>
   intro h
   rw [List.range_succ, List.filterMap_append, ih (by omega), List.take_succ_eq_append_getElem (by omega)]
   simp [List.getElem?_eq_getElem (show n < l.length by omega)]
 rw [key _ (Nat.le_refl _), List.take_length]
theorem Ad2 {α : Type} {l : List α} {ps : List Nat} (hn : ps.Nodup) (hl : ∀ j ∈ ps, j < l.length) (ha : ∀ j, j < l.length → j ∈ ps) : (ps.filterMap (l[·]?)).Perm l := by
 have hp : ps.Perm (List.range l.length) := (List.perm_ext_iff_of_nodup hn List.nodup_range).2 fun j => ⟨fun h => List.mem_range.2 (hl j h), fun h => ha j (List.mem_range.1 h)⟩
 have := hp.filterMap (l[·]?)
 rwa [Aih] at this
theorem Alm {es : Array MapEntry} (hn : (es.toList.map (·.born)).Nodup) {i j : Nat} {e e' : MapEntry} (hi : es[i]? = some e') (hj : es[j]? = some e) : (e'.born = e.born ∨ i ∈ ([] : List Nat)) ↔ i = j := by
 have hi' : es.toList[i]? = some e' := by rw [Array.getElem?_toList]; exact hi
 have hj' : es.toList[j]? = some e := by rw [Array.getElem?_toList]; exact hj
 constructor
 ·rintro (h | h)
  ·have h1 := (List.getElem?_eq_some_iff.1 hi').1
   have h2 := (List.getElem?_eq_some_iff.1 hj').1
   rcases Nat.lt_trichotomy i j with hlt | heq | hgt
   ·exact absurd (by rw [List.getElem_map, List.getElem_map, (List.getElem?_eq_some_iff.1 hi').2, (List.getElem?_eq_some_iff.1 hj').2]; exact h) ((List.pairwise_iff_getElem.1 hn) i j (by simpa using h1) (by simpa using h2) hlt)
   ·exact heq
   ·exact absurd (by rw [List.getElem_map, List.getElem_map, (List.getElem?_eq_some_iff.1 hi').2, (List.getElem?_eq_some_iff.1 hj').2]; exact h.symm) ((List.pairwise_iff_getElem.1 hn) j i (by simpa using h2) (by simpa using h1) hgt)
  ·simp at h
 ·rintro rfl
  rw [hi'] at hj'
  cases hj'
  exact .inl rfl
end Go.Proofs.YtphgpfgibpgfiaaGreat.Abs
namespace Go.Proofs.YtphgpfgibpgfiaaGreat.Abs
open Go.RowKit Go.MapKept
open Go.ChangeMaps (setBlock)
section
variable {P : Program} {kt : TypeId} {n : List Nat}
structure Aty (κ : Type) [DecidableEq κ] (P : Program) (kt : TypeId) (e : κ → List Lf) (n : List Nat) : Prop where
 et : EqT P kt n
 tag : ∀ k, (e k).map Lf.tag = n
 low : ∀ x ∈ n, x < 3
 eq : ∀ k k', Zh (e k) (e k') = some (decide (k = k'))
variable {κ : Type} [DecidableEq κ] {e : κ → List Lf}
end
section
variable {P : Program} {c : Ctx} {ops : Array Oper} {Q : Exit → AS → Prop} {rest : List Oper} {ty : TypeId} {pos : String} {af : Array Edge} {d : Tmp} {t : Nat → AV} {m : List Blk}
variable {κ : Type} [DecidableEq κ] {e : κ → List Lf} {n : List Nat} {kt : TypeId}
omit [DecidableEq κ] in
omit [DecidableEq κ] in
end
end Go.Proofs.YtphgpfgibpgfiaaGreat.Abs
namespace Go.Proofs.YtphgpfgibpgfiaaGreat.Abs
open Go.RowKit Go.Shelf Go.Sort
def As6 : Int → Value := Value.int .i64
structure Atx (P : Program) (e : TypeId) (w : World) (S : Dd) (H : Nat → Value) (xs : List Int) (blk cap : Nat) (cur : Array Value) : Prop where
 h : H 0 = .slice (some ⟨blk, 0, none⟩) xs.length cap
 heap : w.heap[blk]? = some (.cells cur e (0, 0))
 fits : xs.length ≤ cap
 most : cap ≤ maxLen
 cs : cur.size = cap * 1
 vals : cur.toList.take xs.length = xs.map As6
 lt : blk < w.heap.size
 noS : ∀ i, ¬ S blk i
end Go.Proofs.YtphgpfgibpgfiaaGreat.Abs
namespace Go.Proofs.YtphgpfgibpgfiaaGreat.Abs
theorem nn {b : Bool} (h : b = false) : ¬ b = true := fun h' => by rw [h] at h'; cases h'
theorem W8 {α : Type} {xs : List α} {p : α → Bool} (h : ∀ x ∈ xs, p x = false) : xs.find? p = none := List.find?_eq_none.2 fun x hx => by rw [h x hx]; decide
theorem Al3 {α ρ : Type} (xs : List α) (p : α → Bool) (g : α → ρ) (f : Int → Option (LR Int Unit ρ)) (hl : xs.length ≤ 1000000000000000000)
  (h : ∀ (i : Nat) x, xs[i]? = some x → f (i : Int) = some (if p x then .ret (g x) else .cont ((i + 1 : Nat) : Int))) (hend : f (xs.length : Int) = some (.brk ())) :
  Fc f fuel 0 = some (match xs.find? p with | some x => .inl (g x) | none => .inr ()) := by
 obtain ⟨v, hv, hr⟩ := H4 (f := f) (P := fun s => ∃ i : Nat, i ≤ xs.length ∧ s = (i : Int) ∧ xs.find? p = (xs.drop i).find? p) (μ := fun s => xs.length - s.toNat)
  (R := fun r => r = (match xs.find? p with | some x => Sum.inl (g x) | none => Sum.inr ())) (by
   rintro _ ⟨i, hi, rfl, hp⟩
   rcases Nat.lt_or_ge i xs.length with hlt | hge
   ·have hx := List.getElem?_eq_getElem hlt
    have hf := h i _ hx
    have hd : xs.drop i = xs[i] :: xs.drop (i + 1) := List.drop_eq_getElem_cons hlt
    cases hpx : p xs[i] with
    | true =>
     rw [hpx, if_pos rfl] at hf
     refine .inr (.inr ⟨_, hf, ?_⟩)
     rw [hp, hd, List.find?_cons, hpx]
    | false =>
     rw [hpx, if_neg (by decide)] at hf
     refine .inl ⟨_, hf, ⟨i + 1, hlt, rfl, ?_⟩, by simp only [Int.toNat_natCast]; omega⟩
     rw [hp, hd, List.find?_cons, hpx]
   ·have e : i = xs.length := by omega
    subst e
    refine .inr (.inl ⟨(), hend, ?_⟩)
    rw [hp, List.drop_length]; rfl) fuel 0 ⟨0, Nat.zero_le _, rfl, rfl⟩ (Dh (by show xs.length - 0 ≤ _; omega))
 rw [hv, hr]
theorem Arj {α ρ : Type} (xs : List α) (p : α → Bool) (no : ρ) (f : Int → Option (LR Int Unit ρ)) (hl : xs.length ≤ 1000000000000000000)
  (h : ∀ (i : Nat) x, xs[i]? = some x → f (i : Int) = some (if p x then .cont ((i + 1 : Nat) : Int) else .ret no)) (hend : f (xs.length : Int) = some (.brk ())) :
  Fc f fuel 0 = some (if xs.all p then .inr () else .inl no) := by
 rw [Al3 xs (fun x => !p x) (fun _ => no) f hl (fun i x hx => by
  rw [h i x hx]
  cases p x <;> rfl) hend]
 cases ha : xs.all p with
 | true =>
  rw [W8 fun x hx => by rw [List.all_eq_true.1 ha x hx]; rfl]; rfl
 | false =>
  obtain ⟨x, hx, hp⟩ := List.all_eq_false.1 ha
  cases hf : xs.find? (fun x => !p x) with
  | none => exact absurd (List.find?_eq_none.1 hf x hx) (by simpa using hp)
  | some y => rfl
end Go.Proofs.YtphgpfgibpgfiaaGreat.Abs
namespace Go.Proofs.YtphgpfgibpgfiaaGreat.Abs
open Go.RowKit Go.MapKept Go.Conc
open Go.ChangeMaps (setBlock)
end Go.Proofs.YtphgpfgibpgfiaaGreat.Abs
namespace Go.Proofs.YtphgpfgibpgfiaaGreat.Abs
open Go.RowKit
def Ao6 (P : Program) (n : Nat) (e : TypeId) : List Field := (List.range n).map fun i => { name := "", type := e, offset := i * P.cellsOf e, embedded := false, tag := "", pkgPath := "", byteOffset := 0 }
def okZ (P : Program) : Sh → TypeId ⊕ (List Field × Nat) → Bool
 | .int k, .inl t => match P.underlying t with | some (.int k') => k' == k | _ => false
 | .bool, .inl t => match P.underlying t with | some .bool => true | _ => false
 | .str, .inl t => match P.underlying t with | some .string => true | _ => false
 | .sl e, .inl t => match P.underlying t with | some (.slice t') => okZ P e (.inl t') && (P.cellsOf t' == e.cells && decide (0 < e.cells)) | _ => false
 | .st r, .inl t => match P.underlying t with
  | some (.struct fs) => okZ P r (.inr (fs.toList, 0)) && P.cellsOf t == r.cells
  | some (.array n e) => okZ P r (.inr (Ao6 P n e, 0)) && P.cellsOf t == r.cells
  | _ => false
 | .unit, .inr ([], _) => true
 | .pair a r, .inr (f :: fs, off) => f.offset == off && (P.cellsOf f.type == a.cells && (okZ P a (.inl f.type) && okZ P r (.inr (fs, off + a.cells))))
 | _, _ => false
def Ld (P : Program) : List Sh → List TypeId → Bool
 | [], [] => true
 | sh :: shs, t :: ts => okZ P sh (.inl t) && (P.readableRec t && (decide (t < P.types.size) && Ld P shs ts))
 | _, _ => false
def Fz (P : Program) : Sh → TypeId ⊕ List Field → List Lf → Prop
 | .int k, _, ls => Xo (.int k) ls
 | .bool, _, ls => Xo .bool ls
 | .str, _, ls => Xo .str ls
 | .sl e, .inl t, ls => ∃ (t' : TypeId) (rows : List (List Lf)), P.underlying t = some (.slice t') ∧ rows.length ≤ maxLen ∧ rows.length * P.bytesOf t' ≤ reachBytes ∧ (∀ r ∈ rows, Fz P e (.inl t') r) ∧ ls = [.sl rows.length rows.flatten]
 | .st r, .inl t, ls => (∃ fs, P.underlying t = some (.struct fs) ∧ Fz P r (.inr fs.toList) ls) ∨ ∃ n e, P.underlying t = some (.array n e) ∧ Fz P r (.inr (Ao6 P n e)) ls
 | .unit, _, ls => ls = []
 | .pair a r, .inr (f :: fs), ls => ∃ x y, Fz P a (.inl f.type) x ∧ Fz P r (.inr fs) y ∧ ls = x ++ y
 | _, _, _ => False
theorem Ak3 {P : Program} : ∀ {sh : Sh} {m : TypeId ⊕ List Field} {ls : List Lf}, Fz P sh m ls → Xo sh ls := by
 intro sh
 induction sh with
 | int k => intro m ls h; exact h
 | bool => intro m ls h; exact h
 | str => intro m ls h; exact h
 | sl e ih =>
  intro m ls h
  cases m with
  | inr _ => exact h.elim
  | inl t =>
   obtain ⟨t', rows, _, h1, _, h2, rfl⟩ := h
   exact ⟨rows, h1, fun r hr => ih (h2 r hr), rfl⟩
 | st r ih =>
  intro m ls h
  cases m with
  | inr _ => exact h.elim
  | inl t =>
   rcases h with ⟨fs, _, h⟩ | ⟨n, e, _, h⟩ <;> exact ih h
 | unit => intro m ls h; exact h
 | pair a r iha ihr =>
  intro m ls h
  cases m with
  | inl t => exact h.elim
  | inr fs =>
   cases fs with
   | nil => exact h.elim
   | cons f fs =>
    obtain ⟨x, y, h1, h2, rfl⟩ := h
    exact ⟨x, y, iha h1, ihr h2, rfl⟩
section
variable {H : Type} {enc : TypeId × Value → H} {P : Program} {w : World} {spare : Nat → Bool} {held : Bool} {base : Nat}
theorem Oj {e : TypeId} : ∀ {l : List (DataW H)} {d : DataW H}, d ∈ l → ∀ n ∈ d.weights P e, n ∈ DataW.weightsAll P e l
 | x :: l, d, h, n, hn => by
  simp only [DataW.weightsAll, List.mem_append]
  rcases List.mem_cons.1 h with rfl | h
  ·exact .inl hn
  ·exact .inr (Oj h n hn)
theorem Akp (sh : Sh) :
  (∀ (t : TypeId) (fuel : Nat) (cs : List Value) (x : DataW H × List MemPlace), okZ P sh (.inl t) = true → DataW.trod enc P w base spare held fuel t cs = some x → (∀ n ∈ x.1.weights P t, n ≤ reachBytes) →
   ∃ ls, Fz P sh (.inl t) ls ∧ ls.length = sh.cells ∧ LsR (Rep w (Adc w)) ls cs) ∧
  (∀ (fs : List Field) (off fuel : Nat) (cs : List Value), okZ P sh (.inr (fs, off)) = true → off + sh.cells = cs.length →
   (∀ f ∈ fs, ∃ x, DataW.trod enc P w base spare held fuel f.type ((cs.drop f.offset).take (P.cellsOf f.type)) = some x ∧ ∀ n ∈ x.1.weights P f.type, n ≤ reachBytes) →
   ∃ ls, Fz P sh (.inr fs) ls ∧ ls.length = sh.cells ∧ LsR (Rep w (Adc w)) ls (cs.drop off)) := by
 have lsone : ∀ {l : Lf} {v : Value}, Rep w (Adc w) l v → LsR (Rep w (Adc w)) [l] [v] := fun {l v} h => ⟨rfl, fun j a b h1 h2 => by
  cases j with
  | zero => simp at h1 h2; subst h1; subst h2; exact h
  | succ j => simp at h1⟩
 induction sh with
 | int k =>
  refine ⟨fun t fuel cs x ht h hz => ?_, fun fs off fuel cs ht => by simp [okZ] at ht⟩
  simp only [okZ] at ht
  split at ht
  ·rename_i k' hu
   have hk : k' = k := by simpa using ht
   subst hk
   obtain ⟨n, hcs, hx, hw⟩ := DataW.trod_int hu h
   subst hcs
   exact ⟨_, ⟨n, hw, rfl⟩, rfl, lsone (.i _ _)⟩
  ·cases ht
 | bool =>
  refine ⟨fun t fuel cs x ht h hz => ?_, fun fs off fuel cs ht => by simp [okZ] at ht⟩
  simp only [okZ] at ht
  split at ht
  ·rename_i hu
   obtain ⟨b, hcs, _⟩ := DataW.trod_bool hu h
   subst hcs
   exact ⟨_, ⟨b, rfl⟩, rfl, lsone (.b _)⟩
  ·cases ht
 | str =>
  refine ⟨fun t fuel cs x ht h hz => ?_, fun fs off fuel cs ht => by simp [okZ] at ht⟩
  simp only [okZ] at ht
  split at ht
  ·rename_i hu
   obtain ⟨b, hcs, _, hs⟩ := DataW.trod_string hu h
   subst hcs
   exact ⟨_, ⟨b, hs, rfl⟩, rfl, lsone (.s _)⟩
  ·cases ht
 | sl e ih =>
  refine ⟨fun t fuel cs x ht h hz => ?_, fun fs off fuel cs ht => by simp [okZ] at ht⟩
  simp only [okZ] at ht
  split at ht
  ·rename_i t' hu
   simp only [Bool.and_eq_true, beq_iff_eq, decide_eq_true_eq] at ht
   obtain ⟨hok, hcell, hpos⟩ := ht
   rcases DataW.trod_slice hu h with ⟨hcs, _⟩ | ⟨a, len, cap, elems, rest, fuel, rfl, hcs, hxe, _, hlc, hcm, hl, hi, _⟩
   ·subst hcs
    exact ⟨[.sl 0 []], ⟨t', [], hu, by simp, by simp, fun r hr => by simp at hr, rfl⟩, rfl, lsone (.sl0 _ _)⟩
   ·subst hcs
    by_cases h0 : len = 0
    ·subst h0
     exact ⟨[.sl 0 []], ⟨t', [], hu, by simp, by simp, fun r hr => by simp at hr, rfl⟩, rfl, lsone (.sl0 _ _)⟩
    ·have helem : ∀ i, i < len → ∃ ys, w.cells? base (a.add (i * P.cellsOf t')) (P.cellsOf t') = some ys ∧ ∃ x, DataW.trod enc P w base spare held fuel t' ys = some x ∧ ∀ n ∈ x.1.weights P t', n ≤ reachBytes := by
      intro i hlt
      have hx := hi i hlt
      have : elems[i]? = some (elems[i]'(by omega)) := List.getElem?_eq_getElem _
      rw [this] at hx
      cases hc : w.cells? base (a.add (i * P.cellsOf t')) (P.cellsOf t') with
      | none => rw [hc] at hx; simp at hx
      | some ys =>
       rw [hc] at hx
       refine ⟨ys, rfl, _, hx, fun m hm => hz m ?_⟩
       rw [hxe]
       simp only [DataW.weights, hu]
       exact List.mem_cons_of_mem _ (List.mem_append_left _ (Oj (List.mem_map.2 ⟨_, List.getElem_mem _, rfl⟩) m hm))
     have hspot : a.spot = none := by
      obtain ⟨ys, hc, _⟩ := helem 0 (by omega)
      obtain ⟨hyl, hyc⟩ := Z7 hc
      have hy := hyc 0 (by omega)
      rw [List.getElem?_eq_getElem (by omega)] at hy
      have := (Agc hy).2
      simpa [Addr.add] using this
     have hadd : ∀ n m, (a.add n).add m = ⟨a.block, a.off + (n + m), none⟩ := by
      intro n m
      obtain ⟨ab, ao, asp⟩ := a
      simp only at hspot
      subst hspot
      unfold Addr.add
      by_cases hn : n = 0 <;> by_cases hm : m = 0 <;> simp [hn, hm] <;> omega
     obtain ⟨rows, r1, r2, r3, r4⟩ := X8 (w := w) (bk := a.block) (off := a.off) (sz := e.cells) (Q := Fz P e (.inl t')) len (fun i hlt => by
      obtain ⟨ys, hc, x, hx, hw⟩ := helem i hlt
      obtain ⟨ls, f1, f2, f3⟩ := ih.1 t' fuel ys x hok hx hw
      obtain ⟨hyl, hyc⟩ := Z7 hc
      refine ⟨ls, f1, f2, fun j l hj => ?_⟩
      obtain ⟨v, hv, hr⟩ := f3.get hj
      have hjl : j < ys.length := (List.getElem?_eq_some_iff.1 hv).1
      have := hyc j (by omega)
      rw [hadd, hv, hcell] at this
      exact ⟨v, this, hr⟩)
     have hb : rows.length * P.bytesOf t' ≤ reachBytes := by
      have := hz ((elems.length + rest.length) * P.bytesOf t') (by rw [hxe]; simp [DataW.weights, hu])
      rw [r1, ← hl]
      exact Nat.le_trans (Nat.mul_le_mul_right _ (Nat.le_add_right _ _)) this
     refine ⟨[.sl rows.length rows.flatten], ⟨t', rows, hu, by omega, hb, r2, rfl⟩, rfl, lsone ?_⟩
     have ea : a = ⟨a.block, a.off, none⟩ := by
      obtain ⟨ab, ao, asp⟩ := a
      simp only at hspot
      subst hspot
      rfl
     rw [ea, r1]
     refine Rep.sl len rows.flatten a.block a.off cap (fun j => (w.cell? ⟨a.block, a.off + j, none⟩).getD undef) hlc hcm (fun j l hj => ?_) (fun j l hj => ?_)
     ·obtain ⟨v, hv, _⟩ := r4 j l hj
      exact ⟨(Agc hv).1, by rw [hv]; rfl⟩
     ·obtain ⟨v, hv, hr⟩ := r4 j l hj
      show Rep w (Adc w) l ((w.cell? ⟨a.block, a.off + j, none⟩).getD undef)
      rw [hv]; exact hr
  ·cases ht
 | st r ih =>
  refine ⟨fun t fuel cs x ht h hz => ?_, fun fs off fuel cs ht => by simp [okZ] at ht⟩
  simp only [okZ] at ht
  split at ht
  ·rename_i fs hu
   simp only [Bool.and_eq_true, beq_iff_eq] at ht
   obtain ⟨xs, n, rfl, hxe, hlen, hxl, hi⟩ := DataW.trod_struct hu h
   obtain ⟨ls, f1, f2, f3⟩ := ih.2 fs.toList 0 n cs ht.1 (by omega) (fun f hf => by
    obtain ⟨i, hlt, rfl⟩ := List.mem_iff_getElem.1 hf
    have := hi i fs[i] (by simp)
    simp only [Array.getElem_toList] at this ⊢
    rw [this]
    refine ⟨xs[i]'(by simp at hlt; omega), List.getElem?_eq_getElem _, fun m hm => hz m ?_⟩
    rw [hxe]
    simp only [DataW.weights, hu]
    have hlt' : i < fs.size := by simpa using hlt
    exact DataW.weights_mem_each (j := i) (t := fs[i].type) (d := (xs[i]'(by omega)).1) (by rw [List.getElem?_map, List.getElem?_eq_getElem hlt]; simp) (by rw [List.getElem?_map, List.getElem?_eq_getElem (by omega)]; rfl) m hm)
   exact ⟨ls, .inl ⟨fs, hu, f1⟩, f2, by simpa using f3⟩
  ·rename_i n e hu
   simp only [Bool.and_eq_true, beq_iff_eq] at ht
   obtain ⟨xs, m, rfl, hxe, hlen, hxl, hi⟩ := DataW.trod_array hu h
   obtain ⟨ls, f1, f2, f3⟩ := ih.2 (Ao6 P n e) 0 m cs ht.1 (by omega) (fun f hf => by
    obtain ⟨i, hlt, rfl⟩ := List.mem_map.1 hf
    have hlt := List.mem_range.1 hlt
    have := hi i hlt
    refine ⟨xs[i]'(by omega), by rw [this]; exact List.getElem?_eq_getElem _, fun k hk => hz k ?_⟩
    rw [hxe]
    simp only [DataW.weights, hu]
    exact Oj (List.mem_map.2 ⟨xs[i]'(by omega), List.getElem_mem _, rfl⟩) k hk)
   exact ⟨ls, .inr ⟨n, e, hu, f1⟩, f2, by simpa using f3⟩
  ·cases ht
 | unit =>
  refine ⟨fun t fuel cs x ht => by simp [okZ] at ht, fun fs off fuel cs ht hl h => ?_⟩
  refine ⟨[], rfl, rfl, ?_⟩
  rw [List.drop_of_length_le (by simp only [Sh.cells] at hl; omega)]
  exact ⟨rfl, fun j l v h1 => by simp at h1⟩
 | pair a r iha ihr =>
  refine ⟨fun t fuel cs x ht => by simp [okZ] at ht, fun fs off fuel cs ht hl h => ?_⟩
  cases fs with
  | nil => simp [okZ] at ht
  | cons f fs =>
   simp only [okZ, Bool.and_eq_true, beq_iff_eq] at ht
   obtain ⟨h1, h2, h3, h4⟩ := ht
   simp only [Sh.cells] at hl
   obtain ⟨x, hx, hz⟩ := h f (List.mem_cons_self ..)
   obtain ⟨l1, a1, a2, a3⟩ := iha.1 f.type fuel _ x h3 hx hz
   obtain ⟨l2, b1, b2, b3⟩ := ihr.2 fs (off + a.cells) fuel cs h4 (by omega) (fun g hg => h g (List.mem_cons_of_mem _ hg))
   rw [h1, h2] at a3
   refine ⟨l1 ++ l2, ⟨l1, l2, a1, b1, rfl⟩, by simp [Sh.cells, a2, b2], ?_⟩
   refine ⟨by rw [List.length_append, a2, b2, List.length_drop]; omega, fun j l v hj hv => ?_⟩
   by_cases hlt : j < l1.length
   ·rw [List.getElem?_append_left hlt] at hj
    refine a3.2 j l v hj ?_
    rw [List.getElem?_take, if_pos (by omega)]
    exact hv
   ·rw [List.getElem?_append_right (by omega)] at hj
    refine b3.2 (j - l1.length) l v hj ?_
    rw [← hv, List.getElem?_drop, List.getElem?_drop, a2]
    congr 1
    omega
theorem Abc {sh : Sh} {t : TypeId} {v : Value} {d : DataW H} {ps : List MemPlace} {r : Reach} {b0 : Nat} (ht : okZ P sh (.inl t) = true) (hval : Value.okWide P w r b0 t v) (h : DataW.Trod enc P w base spare held t v d ps) (hz : ∀ n ∈ d.weights P t, n ≤ reachBytes) :
  ∃ ls, Fz P sh (.inl t) ls ∧ SVR (Rep w (Adc w)) (Aqk sh ls) v := by
 obtain ⟨fuel, h⟩ := h
 obtain ⟨ls, f1, f2, f3⟩ := (Akp sh).1 t fuel _ _ ht h hz
 refine ⟨ls, f1, ?_⟩
 have one : ∀ {l : Lf}, ls = [l] → (∀ cs, v ≠ .agg cs) → SVR (Rep w (Adc w)) (.one l) v := by
  intro l hl hne
  subst hl
  have hc : v.cells = #[v] := by
   cases v <;> first | rfl | exact absurd rfl (hne _)
  rw [hc] at f3
  exact f3.2 0 l v rfl rfl
 cases sh with
 | int k =>
  simp only [okZ] at ht
  split at ht
  ·rename_i k' hu
   obtain ⟨n, rfl⟩ := WideShapes.okWide_int hu hval
   obtain ⟨m, _, rfl⟩ := f1
   exact one rfl (fun _ h => by cases h)
  ·cases ht
 | bool =>
  simp only [okZ] at ht
  split at ht
  ·rename_i hu
   obtain ⟨n, rfl⟩ := WideShapes.okWide_bool hu hval
   obtain ⟨m, rfl⟩ := f1
   exact one rfl (fun _ h => by cases h)
  ·cases ht
 | str =>
  simp only [okZ] at ht
  split at ht
  ·rename_i hu
   obtain ⟨n, rfl⟩ := WideShapes.okWide_string hu hval
   obtain ⟨m, _, rfl⟩ := f1
   exact one rfl (fun _ h => by cases h)
  ·cases ht
 | sl e =>
  simp only [okZ] at ht
  split at ht
  ·rename_i t' hu
   obtain ⟨a, n, c, rfl⟩ := WideShapes.okWide_slice hu hval
   obtain ⟨_, rows, _, _, _, _, rfl⟩ := f1
   exact one rfl (fun _ h => by cases h)
  ·cases ht
 | st r =>
  simp only [okZ] at ht
  split at ht
  ·rename_i fs hu
   obtain ⟨cs, rfl, _⟩ := WideShapes.okWide_struct hu hval
   exact ⟨cs, rfl, f3⟩
  ·rename_i n e hu
   obtain ⟨cs, rfl, _⟩ : ∃ cs, v = .agg cs ∧ cs.size = P.cellsOf t := by
    simp only [Value.okWide, hu] at hval
    obtain ⟨cs, h1, h2, _⟩ := hval
    exact ⟨cs, h1, h2⟩
   exact ⟨cs, rfl, f3⟩
  ·cases ht
 | unit => simp [okZ] at ht
 | pair a r => simp [okZ] at ht
end
def Aiz (P : Program) : List Sh → List TypeId → List SV → Prop
 | [], [], [] => True
 | sh :: shs, t :: ts, x :: xs => (∃ ls, Fz P sh (.inl t) ls ∧ x = Aqk sh ls) ∧ Aiz P shs ts xs
 | _, _, _ => False
section
variable {H : Type} {enc : TypeId × Value → H} {P : Program} {W W' : World}
theorem Z5 : ∀ {shs : List Sh} {ts us : List TypeId} {vs : List Value} {ds gs : List (DataW H)} {ps : List MemPlace} {base : Nat}, Ld P shs ts = true → DataW.TrodAll enc P W 0 (fun _ => true) true ts vs ds ps →
  (∀ (j : Nat) t v, ts[j]? = some t → vs[j]? = some v → Value.okWide P W .any base t v) → (∀ n ∈ DataW.weightsEach P (ts ++ us) (ds ++ gs), n ≤ reachBytes) → ∃ xs, Aiz P shs ts xs ∧ Xe (Rep W (Adc W)) xs vs
 | [], [], _, [], [], _, _, _, _, _, _, _ => ⟨[], trivial, rfl, fun j x v h => by simp at h⟩
 | [], _ :: _, _, _, _, _, _, _, h, _, _, _ => by simp [Ld] at h
 | _ :: _, [], _, _, _, _, _, _, h, _, _, _ => by simp [Ld] at h
 | sh :: shs, t :: ts, us, v :: vs, d :: ds, gs, ps, base, h, hd, hv, hz => by
  simp only [Ld, Bool.and_eq_true] at h
  obtain ⟨p, q, h1, h2, _⟩ := hd
  obtain ⟨ls, f1, f2⟩ := Abc h.1 (hv 0 t v rfl rfl) h1 (fun n hn => hz n (by simp only [List.cons_append, DataW.weightsEach, List.mem_append]; exact .inl hn))
  obtain ⟨xs, g1, g2⟩ := Z5 (us := us) (gs := gs) h.2.2.2 h2 (fun j t' v' e1 e2 => hv (j + 1) t' v' e1 e2) (fun n hn => hz n (by simp only [List.cons_append, DataW.weightsEach, List.mem_append]; exact .inr hn))
  refine ⟨Aqk sh ls :: xs, ⟨⟨ls, f1, rfl⟩, g1⟩, by simp [g2.1], fun j x u e1 e2 => ?_⟩
  cases j with
  | zero => simp at e1 e2; subst e1; subst e2; exact f2
  | succ j => exact g2.2 j x u e1 e2
theorem X3 (hl : laidOutB P = true) (hb : Below W.heap.size W W') : ∀ {shs : List Sh} {ts : List TypeId} {vs : List Value} {ds : List (DataW H)} {ps : List MemPlace}, Ld P shs ts = true → DataW.TrodAll enc P W 0 (fun _ => true) true ts vs ds ps → (∀ x ∈ ps, x.block < W.heap.size) →
  DataW.TrodAll enc P W' 0 (fun b => decide (b < W.heap.size)) true ts vs ds ps
 | [], [], [], [], _, _, h, _ => h
 | [], _ :: _, _, _, _, h, _, _ => by simp [Ld] at h
 | _ :: _, [], _, _, _, h, _, _ => by simp [Ld] at h
 | sh :: shs, t :: ts, v :: vs, d :: ds, ps, h, hd, hlt => by
  simp only [Ld, Bool.and_eq_true, decide_eq_true_eq] at h
  obtain ⟨p, q, h1, h2, rfl⟩ := hd
  exact ⟨p, q, Below.trod hl h.2.1 h.2.2.1 h1 hb (fun x hx => hlt x (List.mem_append_left _ hx)), X3 hl hb h.2.2.2 h2 (fun x hx => hlt x (List.mem_append_right _ hx)), rfl⟩
theorem Ai9 {f : FuncId} {fn : Func} {s : ChangeSpec} {apart fresh handsOn : Bool} {tb : TypeId} (hl : laidOutB P = true) (shs : List Sh) (hp : Ld P shs fn.params.toList = true) (hres : fn.resultTypes = #[tb]) (htb : P.underlying tb = some .bool)
  (hvars : s.vars = []) (hs : ∀ ds : List (DataW H), ds.length = fn.params.toList.length → s.fn H ds = { results := [.lit (.bool true)], args := ds })
  (hf : ∀ xs, Aiz P shs fn.params.toList xs → Bz P f xs (· = .s (.one (.b true)))) (hG : GLR W (Adc W))
  (base : Nat) (args : Array Value) (ds gs : List (DataW H)) (before : List MemPlace)
  (hval : ∀ (j : Nat) t v, fn.params[j]? = some t → args[j]? = some v → Value.okWide P W .any base t v) (hW : DataW.Whole enc P fn.params.toList s.vars apart W args.toList ds gs before)
  {us : List TypeId} (hz : (DataW.weightsEach P (fn.params.toList ++ us) (ds ++ gs)).all (· ≤ reachBytes) = true) :
  Calls P f args W fun e W' => ∃ v, e = .returned v ∧ s.post enc P fn apart fresh handsOn false W args v W' := by
 have hlt := hW.lt
 have hW' := hW
 obtain ⟨p, q, hA, hV, hpq, _, _⟩ := hW'
 obtain ⟨xs, h1, h2⟩ := Z5 (us := us) (gs := gs) hp hA (fun j t v e1 e2 => hval j t v (by simpa using e1) (by simpa using e2)) (fun n hn => by simpa using List.all_eq_true.1 hz n hn)
 refine (hf xs h1 W (Adc W) args (Akr W hG) h2).mono ?_
 rintro e W' ⟨v, x, S', rfl, rfl, hext, _, hv⟩
 have hv : v = .bool true := T2 hv
 subst hv
 have hlen : ds.length = fn.params.toList.length := by
  have : ∀ {ts : List TypeId} {vs : List Value} {ds : List (DataW H)} {ps : List MemPlace}, DataW.TrodAll enc P W 0 (fun _ => true) true ts vs ds ps → ds.length = ts.length := by
   intro ts
   induction ts with
   | nil => intro vs ds ps h; cases vs <;> cases ds <;> simp_all [DataW.TrodAll]
   | cons t ts ih =>
    intro vs ds ps h
    cases vs <;> cases ds <;> simp only [DataW.TrodAll] at h
    obtain ⟨p, q, _, h2, _⟩ := h
    simp [ih h2]
  exact this hA
 rw [hvars] at hV
 have hgs : gs = [] ∧ q = [] := by
  cases gs with
  | nil => exact ⟨rfl, hV⟩
  | cons g gs => exact hV.elim
 obtain ⟨rfl, rfl⟩ := hgs
 refine ⟨_, rfl, ds, [], before, [], p, [], hW, ?_, ?_, ?_, hext.below.frame _, fun h => by cases h⟩
 ·rw [List.append_nil, hs ds hlen, hres]
  exact ⟨[], [], ⟨1, by simp [DataW.trod, Value.cells, htb]⟩, rfl, rfl⟩
 ·rw [List.append_nil, hs ds hlen]
  exact X3 hl hext.below hp hA (fun x hx => hlt x (by rw [hpq]; exact List.mem_append_left _ hx))
 ·rw [List.append_nil, hs ds hlen, hvars]
  rfl
end
end Go.Proofs.YtphgpfgibpgfiaaGreat.Abs
namespace Go.Proofs.YtphgpfgibpgfiaaGreat.Abs
open Go.RowKit
section
variable {P : Program} {c : Ctx} {st : AS} {ty : TypeId}
theorem Ahw {t n e sz o p q : Nat} {x y : Operand} {k : IntKind} {j : Int} (ai : AI P t n e sz) (hx : Cf st x = .s (.one (.lp p q))) (hy : Cf st y = .s (.one (.i k j))) (h : (0 ≤ j ∧ j < n) ∧ j.toNat * sz = o) :
  OpV P c st (.indexAddr t x y) ty (.s (.one (.lp p (q + o)))) := by
 have := Pe (P := P) (c := c) (ty := ty) ai hx rfl hy (fun _ _ _ h => by cases h) h.1.1 h.1.2
 rwa [h.2] at this
end
end Go.Proofs.YtphgpfgibpgfiaaGreat.Abs
namespace Go.Proofs.YtphgpfgibpgfiaaGreat.Abs
open Go.RowKit
def Su (P : Program) (r : TypeId → Option (List Nat)) : Nat → List Field → Option (List Nat)
 | _, [] => some []
 | off, f :: fs => if f.name != "_" && f.offset == off then
   match r f.type with
   | some g => if (P.info? f.type).map (·.size) == some g.length then (Su P r (off + g.length) fs).map (g ++ ·) else none
   | none => none
  else none
def Yo (P : Program) : Nat → TypeId → Option (List Nat)
 | 0, _ => none
 | d + 1, t => match P.underlying t with
  | some (.int _) => some [0]
  | some .bool => some [1]
  | some .string => some [2]
  | some (.struct fs) => if P.stoodInHeld t then none else Su P (Yo P d) 0 fs.toList
  | some (.array n e) => match Yo P d e with
   | some g => if (P.info? e).map (·.size) == some g.length then some ((List.replicate n g).flatten) else none
   | none => none
  | _ => none
theorem Yc : ∀ (k : Nat) (ls ls' : List Lf) (b : Bool), Zh ls ls' = some b → ∃ x y, Zh (ls.take k) (ls'.take k) = some x ∧ Zh (ls.drop k) (ls'.drop k) = some y ∧ b = (x && y)
 | 0, ls, ls', b, h => ⟨true, b, rfl, h, rfl⟩
 | k + 1, [], [], b, h => ⟨true, true, rfl, rfl, by cases h; rfl⟩
 | k + 1, [], _ :: _, b, h => by cases h
 | k + 1, _ :: _, [], b, h => by cases h
 | k + 1, l :: ls, l' :: ls', b, h => by
  unfold Zh at h
  cases e1 : Aoa l l' with
  | none => rw [e1] at h; cases h
  | some p =>
  cases e2 : Zh ls ls' with
  | none => rw [e1, e2] at h; cases h
  | some q =>
  rw [e1, e2] at h
  obtain rfl : (p && q) = b := Option.some.inj h
  obtain ⟨x, y, h1, h2, rfl⟩ := Yc k ls ls' q e2
  refine ⟨p && x, y, ?_, h2, by rw [Bool.and_assoc]⟩
  show Zh (l :: ls.take k) (l' :: ls'.take k) = _
  unfold Zh
  rw [e1, h1]
def At (w : World) (S : Dd) (m : List Blk) (H : Nat → Value) (xs : Array Value) (off : Nat) (ls : List Lf) : Prop := ∀ j l, ls[j]? = some l → ∃ v, xs[off + j]? = some v ∧ Ct w S m H l v
theorem At.take {w : World} {S : Dd} {m : List Blk} {H : Nat → Value} {xs : Array Value} {off : Nat} {ls : List Lf} (h : At w S m H xs off ls) (k : Nat) : At w S m H xs off (ls.take k) := fun j l hj => by
 rw [List.getElem?_take] at hj
 split at hj
 ·exact h j l hj
 ·cases hj
theorem At.drop {w : World} {S : Dd} {m : List Blk} {H : Nat → Value} {xs : Array Value} {off : Nat} {ls : List Lf} (h : At w S m H xs off ls) (k : Nat) : At w S m H xs (off + k) (ls.drop k) := fun j l hj => by
 rw [List.getElem?_drop] at hj
 obtain ⟨v, hv, hr⟩ := h _ l hj
 exact ⟨v, by rw [← hv, Nat.add_assoc], hr⟩
theorem At.part {w : World} {S : Dd} {m : List Blk} {H : Nat → Value} {xs : Array Value} {off n : Nat} {ls : List Lf} (h : At w S m H xs off ls) (hl : ls.length = n) : At w S m H (xs.extract off (off + n)) 0 ls := fun j l hj => by
 obtain ⟨v, hv, hr⟩ := h j l hj
 have hjl := (List.getElem?_eq_some_iff.1 hj).1
 have hx := (Array.getElem?_eq_some_iff.1 hv).1
 refine ⟨v, ?_, hr⟩
 rw [Array.getElem?_extract, if_pos (by omega), Nat.zero_add, hv]
def EqG (P : Program) (dd : Nat) (t : TypeId) (g : List Nat) : Prop :=
 ∀ (w : World) (S : Dd) (m : List Blk) (H : Nat → Value) (xs ys : Array Value) (off : Nat) (ls ls' : List Lf) (b : Bool), ls.map Lf.tag = g → ls'.map Lf.tag = g → Zh ls ls' = some b → At w S m H xs off ls → At w S m H ys off ls' →
  ∃ u v, (part t xs off).run P w = .ok u w ∧ (part t ys off).run P w = .ok v w ∧ (Op.equalIn dd t u v).run P w = .ok b w
theorem Xu {P : Program} {dd : Nat} {r : TypeId → Option (List Nat)} (hr : ∀ t g, r t = some g → EqG P dd t g) {w : World} {S : Dd} {m : List Blk} {H : Nat → Value} {xs ys : Array Value} : ∀ (fs : List Field) (off : Nat) (g : List Nat) (ls ls' : List Lf) (b : Bool),
  Su P r off fs = some g → ls.map Lf.tag = g → ls'.map Lf.tag = g → Zh ls ls' = some b → At w S m H xs off ls → At w S m H ys off ls' → (Op.eqFields dd xs ys fs).run P w = .ok b w
 | [], off, g, ls, ls', b, hf, hl, hl', he, _, _ => by
  cases hf
  rw [List.map_eq_nil_iff] at hl hl'
  subst hl hl'
  cases he
  rfl
 | f :: fs, off, g, ls, ls', b, hf, hl, hl', he, hx, hy => by
  unfold Su at hf
  split at hf
  rotate_left
  ·cases hf
  rename_i hnm
  simp only [Bool.and_eq_true, bne_iff_ne, ne_eq, beq_iff_eq] at hnm
  split at hf
  rotate_left
  ·cases hf
  rename_i g1 hg1
  split at hf
  rotate_left
  ·cases hf
  rw [Option.map_eq_some_iff] at hf
  obtain ⟨g2, hg2, rfl⟩ := hf
  obtain ⟨x, y, h1, h2, rfl⟩ := Yc g1.length ls ls' b he
  have t1 : (ls.take g1.length).map Lf.tag = g1 := by rw [List.map_take, hl, List.take_left]
  have t1' : (ls'.take g1.length).map Lf.tag = g1 := by rw [List.map_take, hl', List.take_left]
  have t2 : (ls.drop g1.length).map Lf.tag = g2 := by rw [List.map_drop, hl, List.drop_left]
  have t2' : (ls'.drop g1.length).map Lf.tag = g2 := by rw [List.map_drop, hl', List.drop_left]
  obtain ⟨u, v, p1, p2, p3⟩ := hr _ _ hg1 w S m H xs ys off _ _ x t1 t1' h1 (hx.take _) (hy.take _)
  have ih := Xu hr fs (off + g1.length) g2 _ _ y hg2 t2 t2' h2 (hx.drop _) (hy.drop _)
  unfold Op.eqFields
  rw [if_pos hnm.1, hnm.2]
  simp only [Sem.run_bind, p1, p2, p3, Result.andThen_ok]
  cases x
  ·simp
  ·simp [ih]
theorem Aap {P : Program} {dd : Nat} {e : TypeId} {g : List Nat} (hr : EqG P dd e g) {w : World} {S : Dd} {m : List Blk} {H : Nat → Value} {xs ys : Array Value} : ∀ (n i : Nat) (ls ls' : List Lf) (b : Bool),
  ls.map Lf.tag = (List.replicate n g).flatten → ls'.map Lf.tag = (List.replicate n g).flatten → Zh ls ls' = some b → At w S m H xs (i * g.length) ls → At w S m H ys (i * g.length) ls' → (Op.eqItems dd e g.length xs ys (List.range' i n)).run P w = .ok b w
 | 0, i, ls, ls', b, hl, hl', he, _, _ => by
  simp at hl hl'
  subst hl hl'
  cases he
  rfl
 | n + 1, i, ls, ls', b, hl, hl', he, hx, hy => by
  rw [List.replicate_succ, List.flatten_cons] at hl hl'
  obtain ⟨x, y, h1, h2, rfl⟩ := Yc g.length ls ls' b he
  have t1 : (ls.take g.length).map Lf.tag = g := by rw [List.map_take, hl, List.take_left]
  have t1' : (ls'.take g.length).map Lf.tag = g := by rw [List.map_take, hl', List.take_left]
  have t2 : (ls.drop g.length).map Lf.tag = (List.replicate n g).flatten := by rw [List.map_drop, hl, List.drop_left]
  have t2' : (ls'.drop g.length).map Lf.tag = (List.replicate n g).flatten := by rw [List.map_drop, hl', List.drop_left]
  obtain ⟨u, v, p1, p2, p3⟩ := hr w S m H xs ys _ _ _ x t1 t1' h1 (hx.take _) (hy.take _)
  have ih := Aap hr n (i + 1) _ _ y t2 t2' h2 (by rw [Nat.succ_mul]; exact hx.drop _) (by rw [Nat.succ_mul]; exact hy.drop _)
  rw [List.range'_succ]
  simp only [Op.eqItems, Sem.run_bind, p1, p2, p3, Result.andThen_ok]
  cases x
  ·simp
  ·simp [ih]
theorem Td {P : Program} {w : World} {t : TypeId} {n : Nat} {xs : Array Value} {off : Nat} (hu : (∃ fs, P.underlying t = some (.struct fs)) ∨ ∃ k e, P.underlying t = some (.array k e)) (hi : (P.info? t).map (·.size) = some n) : (part t xs off).run P w = .ok (.agg (xs.extract off (off + n))) w := by
 rcases hu with ⟨fs, hu⟩ | ⟨k, e, hu⟩ <;> simp [part, isAgg, run_underlying hu, C0 hi]
theorem Aql {P : Program} (d : Nat) : ∀ (k : Nat) (t : TypeId) (g : List Nat), Yo P k t = some g → (P.info? t).map (·.size) = some g.length → EqG P (d + k) t g
 | 0, _, _, h, _ => by cases h
 | k + 1, t, g, h, hsz => by
  intro w S m H xs ys off ls ls' b hl hl' he hx hy
  have hlen : ls.length = g.length := by rw [← hl, List.length_map]
  have hlen' : ls'.length = g.length := by rw [← hl', List.length_map]
  cases hu : P.underlying t with
  | none => unfold Yo at h; rw [hu] at h; cases h
  | some dd =>
  have scal : ∀ c : Nat, g = [c] → c < 3 → W5 (some dd) = c → ∃ u v, (part t xs off).run P w = .ok u w ∧ (part t ys off).run P w = .ok v w ∧ (Op.equalIn (d + (k + 1)) t u v).run P w = .ok b w := by
   intro c hg hc htag
   subst hg
   obtain ⟨l, rfl⟩ := List.length_eq_one_iff.1 (hlen.trans rfl)
   obtain ⟨l', rfl⟩ := List.length_eq_one_iff.1 (hlen'.trans rfl)
   simp only [List.map_cons, List.map_nil, List.cons.injEq, and_true] at hl hl'
   have hf := Tn (P := P) (S := S) (m := m) (H := H) (w := w) (d := d + k) (xs := xs) (ys := ys) [{ name := "x", type := t, offset := off, embedded := false, tag := "", pkgPath := "", byteOffset := 0 }] off [l] [l'] b (by
    simp [Agq, hu, htag, hl]) (by simp [hl, hl']) he hx hy
   obtain ⟨v, hv, -⟩ := hx 0 l rfl
   obtain ⟨v', hv', -⟩ := hy 0 l' rfl
   have ht4 : W5 (P.underlying t) < 4 := by rw [hu, htag]; omega
   refine ⟨v, v', Ph ht4 hv, Ph ht4 hv', ?_⟩
   unfold Op.eqFields at hf
   rw [if_pos (show ("x" : String) ≠ "_" by decide)] at hf
   simp only [Nat.add_zero] at hv hv'
   simp only [Sem.run_bind, Ph ht4 hv, Ph ht4 hv', Result.andThen_ok] at hf
   rw [show d + (k + 1) = d + k + 1 from rfl]
   cases hq : (Op.equalIn (d + k + 1) t v v').run P w with
   | ok q w' =>
    rw [hq] at hf
    simp only [Result.andThen_ok] at hf
    cases q
    ·simpa [Op.eqFields] using hf
    ·simpa [Op.eqFields] using hf
   | _ => rw [hq] at hf; simp [Result.andThen] at hf
  unfold Yo at h
  rw [hu] at h
  cases dd with
  | int q => exact scal 0 (Option.some.inj h).symm (by decide) rfl
  | bool => exact scal 1 (Option.some.inj h).symm (by decide) rfl
  | string => exact scal 2 (Option.some.inj h).symm (by decide) rfl
  | struct fs =>
   dsimp only at h
   split at h
   ·cases h
   rename_i hst
   refine ⟨_, _, Td (.inl ⟨fs, hu⟩) hsz, Td (.inl ⟨fs, hu⟩) hsz, ?_⟩
   have hfs : P.fieldsOf t = fs := by simp [Program.fieldsOf, hu]
   rw [show d + (k + 1) = d + k + 1 from rfl, run_equalIn_struct w (d + k) t _ _ (by rw [hfs]; exact hu) (by simpa using hst), hfs]
   exact Xu (r := fun t => match Yo P k t with | some g => if (P.info? t).map (·.size) == some g.length then some g else none | none => none) (fun t g hg => by
    split at hg
    ·split at hg
     ·rename_i g' h1 h2
      cases hg
      exact Aql d k t g h1 (by simpa using h2)
     ·cases hg
    ·cases hg) _ 0 g ls ls' b (by
     have key : ∀ (fs : List Field) (off : Nat) (g : List Nat), Su P (Yo P k) off fs = some g → Su P (fun t => match Yo P k t with | some g => if (P.info? t).map (·.size) == some g.length then some g else none | none => none) off fs = some g := by
      intro fs
      induction fs with
      | nil => intro off g h; exact h
      | cons f fs ih =>
       intro off g h
       unfold Su at h ⊢
       split at h
       rotate_left
       ·cases h
       rename_i hnm
       rw [if_pos hnm]
       split at h
       rotate_left
       ·cases h
       rename_i g1 hg1
       split at h
       rotate_left
       ·cases h
       rename_i hsz1
       rw [Option.map_eq_some_iff] at h
       obtain ⟨g2, hg2, rfl⟩ := h
       rw [if_pos hsz1]
       dsimp only
       rw [if_pos hsz1, ih _ _ hg2]
       rfl
     exact key _ _ _ h) hl hl' he (hx.part hlen) (hy.part hlen')
  | array n e =>
   dsimp only at h
   split at h
   rotate_left
   ·cases h
   rename_i g1 hg1
   split at h
   rotate_left
   ·cases h
   rename_i hsz1
   have hsz1 : (P.info? e).map (·.size) = some g1.length := by simpa using hsz1
   cases h
   obtain ⟨i, hi, hi2⟩ := Option.map_eq_some_iff.1 hsz1
   refine ⟨_, _, Td (.inr ⟨n, e, hu⟩) hsz, Td (.inr ⟨n, e, hu⟩) hsz, ?_⟩
   rw [show d + (k + 1) = d + k + 1 from rfl, run_equalIn_array w (d + k) _ _ hu hi, show P.cellsOf e = g1.length by simp [Program.cellsOf, hi, hi2], List.range_eq_range']
   exact Aap (Aql d k e g1 hg1 hsz1) n 0 ls ls' b hl hl' he (by rw [Nat.zero_mul]; exact hx.part hlen) (by rw [Nat.zero_mul]; exact hy.part hlen')
  | _ => cases h
end Go.Proofs.YtphgpfgibpgfiaaGreat.Abs
namespace Go.Proofs.YtphgpfgibpgfiaaGreat.Abs
open Go.RowKit
section
variable {P : Program} {c : Ctx} {st : AS} {ty : TypeId} {xt yt : TypeId} {x y : Operand}
structure EqD (P : Program) (t : TypeId) (g : List Nat) : Prop where
 u : Yo P 8 t = some g
 s : (P.info? t).map (·.size) = some g.length
 g : P.eqGuardType P.depth t = false
 a : (match P.underlying t with | some (.struct _) => true | some (.array _ _) => true | _ => false) = true
theorem Aez {n : List Nat} (et : EqD P xt n) {ls ls' : List Lf} {b : Bool} (hx : Cf st x = .s (.agg ls)) (hy : Cf st y = .s (.agg ls')) (hn : ls.map Lf.tag = n) (hn' : ls'.map Lf.tag = n) (he : Zh ls ls' = some b) {a : Act} {w : World} {S : Dd} {H : Nat → Value} (r : Rel c st a w S H) :
  ∃ cs cs' : Array Value, a.eval x = .agg cs ∧ a.eval y = .agg cs' ∧ (Op.equalIn 10000 xt (.agg cs) (.agg cs')).run P w = .ok b w := by
 have h1 := Br r x
 rw [hx] at h1
 have h2 := Br r y
 rw [hy] at h2
 obtain ⟨cs, e1, g1⟩ := h1
 obtain ⟨cs', e2, g2⟩ := h2
 refine ⟨cs, cs', e1, e2, ?_⟩
 have l1 : cs.size = n.length := by rw [← hn, List.length_map]; have := g1.1; simpa using this.symm
 have l2 : cs'.size = n.length := by rw [← hn', List.length_map]; have := g2.1; simpa using this.symm
 have hag : (∃ fs, P.underlying xt = some (.struct fs)) ∨ ∃ k e, P.underlying xt = some (.array k e) := by
  have := et.a
  split at this
  ·exact .inl ⟨_, by assumption⟩
  ·exact .inr ⟨_, _, by assumption⟩
  ·cases this
 obtain ⟨u, v, p1, p2, p3⟩ := Aql (P := P) 9992 8 xt n et.u et.s w S st.m H cs cs' 0 ls ls' b hn hn' he (fun j l h => by
  obtain ⟨v, hv, hr⟩ := g1.get h
  exact ⟨v, by simpa using hv, hr⟩) (fun j l h => by
  obtain ⟨v, hv, hr⟩ := g2.get h
  exact ⟨v, by simpa using hv, hr⟩)
 rw [Td hag et.s] at p1 p2
 have q1 : u = .agg cs := by
  cases p1
  rw [Nat.zero_add, ← l1, Array.extract_size]
 have q2 : v = .agg cs' := by
  cases p2
  rw [Nat.zero_add, ← l2, Array.extract_size]
 subst q1 q2
 exact p3
theorem Adi {n : List Nat} (et : EqD P xt n) {ls ls' : List Lf} {b : Bool} (hx : Cf st x = .s (.agg ls)) (hy : Cf st y = .s (.agg ls')) (hn : ls.map Lf.tag = n) (hn' : ls'.map Lf.tag = n) (he : Zh ls ls' = some b) : OpV P c st (.binOp .eql xt x y yt) ty (.s (.one (.b b))) := by
 intro a w S H r
 obtain ⟨cs, cs', e1, e2, h⟩ := Aez et hx hy hn hn' he r
 refine ⟨.bool b, Fi (.b _), fun _ _ _ _ => ?_⟩
 simp only [execOp, e1, e2, Sem.run_bind, run_eqGuard_agg w _ xt x y cs cs' et.g, Result.andThen_ok, run_eql_struct, h]
 rfl
theorem Adb {n : List Nat} (et : EqD P xt n) {ls ls' : List Lf} {b : Bool} (hx : Cf st x = .s (.agg ls)) (hy : Cf st y = .s (.agg ls')) (hn : ls.map Lf.tag = n) (hn' : ls'.map Lf.tag = n) (he : Zh ls ls' = some b) : OpV P c st (.binOp .neq xt x y yt) ty (.s (.one (.b (!b)))) := by
 intro a w S H r
 obtain ⟨cs, cs', e1, e2, h⟩ := Aez et hx hy hn hn' he r
 refine ⟨.bool (!b), Fi (.b _), fun _ _ _ _ => ?_⟩
 simp only [execOp, e1, e2, Sem.run_bind, run_eqGuard_agg w _ xt x y cs cs' et.g, Result.andThen_ok, run_neq_struct, h]
 rfl
theorem Nu {t n e sz : Nat} {zl out : List Lf} {parts : Array (Nat × Operand)} {xs : List (Nat × SV)} (zi : ZI P t zl) (ai : AI P t n e sz) (hp : Ww st parts.toList xs) (hb : T5 (fun i : Nat => some (i * sz, sz)) zl xs out) :
  OpV P c st (.build t parts) ty (.s (.agg out)) := by
 intro a w S H r
 obtain ⟨i, z, hi, hz, hl, ho⟩ := zi.h
 have hpr := Tu r hp
 have hz0 : LsR (Ct w S st.m H) zl z.cells.toList := by rw [← hl]; exact Vq ho
 obtain ⟨cells', hf, hr⟩ := W9 (fun l v => Ct.oneCell) hb z.cells _ hz0 hpr.1 hpr.2
 refine ⟨.agg cells', ⟨cells', rfl, hr⟩, fun _ _ _ _ => ?_⟩
 have hfill : Instr.fill (fun j : Nat => some (j * sz, sz)) z.cells ((parts.map fun x => (x.1, a.eval x.2)).toList) = some cells' := by
  rw [Array.toList_map]
  exact hf
 simp only [execOp, Instr.build, Sem.run_bind, zeroValue, typeInfo, run_program, Result.andThen_ok, hi, hz, Sem.run_pure, run_underlying ai.u, C0 ai.i]
 rw [show (fun x : Nat × Operand => (x.1, a.eval x.2)) = (fun x => match x with | (i, x) => (i, a.eval x)) from rfl] at hfill
 simp only [hfill, Sem.run_pure, Result.andThen_ok]
theorem Eh {t n e p q : Nat} {k : IntKind} {j : Int} (ai : AI P t n e 1) (hx : Cf st x = .s (.one (.lp p q))) (hy : Cf st y = .s (.one (.i k j))) (h : 0 ≤ j ∧ j < n) :
  OpV P c st (.indexAddr t x y) ty (.s (.one (.lp p (q + j.toNat)))) := by
 have := Pe (P := P) (c := c) (ty := ty) ai hx rfl hy (fun _ _ _ h => by cases h) h.1 h.2
 rwa [Nat.mul_one] at this
theorem Ou {α : Type} {t p o : Nat} {cs : List Lf} {xs : List α} {j : Int} {u : α} (g : α → Lf) (post : List Lf) (ti : TI P t false 1) (hx : Cf st x = .s (.one (.lp p (o + j.toNat)))) (hm : st.m[p]? = some (.box cs)) (hcs : cs.drop o = xs.map g ++ post) (hu : idx xs j = some u) :
  OpV P c st (.load t x) ty (.s (.one (g u))) := by
 refine Ae ti hx (.lp _ _ _ hm) ?_
 have hu := (Sf hu).2
 have hlt := (List.getElem?_eq_some_iff.1 hu).1
 rw [← List.drop_drop, hcs, List.getElem?_drop, Nat.add_zero, List.getElem?_append_left (by rw [List.length_map]; exact hlt), List.getElem?_map, hu]
 rfl
end
theorem Ro {j : Int} {n : Nat} {o : Nat} {cs : List Lf} (h : 0 ≤ j ∧ j < n) (hn : o + n ≤ cs.length) : o + j.toNat + 1 ≤ cs.length := by omega
theorem Ago (pre xs : List Lf) (k : Nat) (ls : List Lf) : Kb (pre ++ xs) (pre.length + k) ls = pre ++ Kb xs k ls := by
 unfold Kb
 rw [List.take_length_add_append, Nat.add_assoc, List.drop_length_add_append, List.append_assoc, List.append_assoc, List.append_assoc]
theorem K0 {M : List Blk} {p : Nat} {a b : List Lf} (h : a = b) : M.set p (.box a) = M.set p (.box b) := by rw [h]
end Go.Proofs.YtphgpfgibpgfiaaGreat.Abs
namespace Go.Proofs.YtphgpfgibpgfiaaGreat.Abs
theorem ccI {P : Program} {c : Ctx} {x y : Code} {o : Operand} {t : Nat → AV} {m : List Blk} {Q : Exit → AS → Prop} {b : Bool} {α : Type} {u v : Option α} {r : α} (h : (if b then u else v) = some r) (ho : Cf ⟨t, m⟩ o = .s (.one (.b b)))
  (h1 : u = some r → AWC P c x Q ⟨t, m⟩) (h0 : v = some r → AWC P c y Q ⟨t, m⟩) : AWC P c (.cond o x y) Q ⟨t, m⟩ := Cm ho (fun hc => h1 (Bt hc h)) (fun hc => h0 (Bu hc h))
end Go.Proofs.YtphgpfgibpgfiaaGreat.Abs
namespace Go.Proofs.YtphgpfgibpgfiaaGreat.Abs
open Go.RowKit
def Aok (st : AS) : Op → Option SV
  | .move x => match Cf st x with
    | .s v => some v
    | _ => none
  | .assign x => match Cf st x with
    | .s v => some v
    | _ => none
  | .pick b x y => match Cf st b with
    | .s (.one (.b true)) => match Cf st x with
      | .s v => some v
      | _ => none
    | .s (.one (.b false)) => match Cf st y with
      | .s v => some v
      | _ => none
    | _ => none
  | _ => none
theorem Afy {P : Program} {c : Ctx} {st : AS} {op : Op} {ty : TypeId} {v : SV} (h : Aok st op = some v) : OpV P c st op ty (.s v) := by
  unfold Aok at h
  split at h
  · split at h
    · rename_i hx; cases h; exact A3 hx
    · cases h
  · split at h
    · rename_i hx; cases h; exact E8 hx
    · cases h
  · split at h
    · rename_i hb
      split at h
      · rename_i hx; cases h; exact Cs hb hx
      · cases h
    · rename_i hb
      split at h
      · rename_i hx; cases h; exact Cj hb hx
      · cases h
    · cases h
  · cases h
def Agj (nt : Nat) (m : List Blk) (ops : Array Oper) : Nat → List Oper → (Nat → AV) → Option (List Oper × (Nat → AV))
  | 0, l, t => some (l, t)
  | n + 1, l, t => match l with
    | [] => none
    | o :: rest => match o with
      | ⟨some d, op, _, _, _, g⟩ => match decide (d < nt) with
        | true => match g with
          | none => match Aok ⟨t, m⟩ op with
            | some v => Agj nt m ops n rest (upd t d (.s v))
            | none => none
          | some (j, want) => match (ops[j]?).bind (·.dst) with
            | some dj => match t dj with
              | .s (.one (.b b)) => match b == want with
                | false => Agj nt m ops n rest (upd t d (.tup []))
                | true => match decide (dj < nt) with
                  | true => match Aok ⟨t, m⟩ op with
                    | some v => Agj nt m ops n rest (upd t d (.s v))
                    | none => none
                  | false => none
              | _ => none
            | none => none
        | false => none
      | _ => none
theorem rm {P : Program} {c : Ctx} {m : List Blk} {ops : Array Oper} {Q : Exit → AS → Prop} (n : Nat) {l l' : List Oper} {t t' : Nat → AV} (h : Agj c.nt m ops n l t = some (l', t')) (k : AWL P c ops Q l' ⟨t', m⟩) : AWL P c ops Q l ⟨t, m⟩ := by
  induction n generalizing l t with
  | zero => cases h; exact k
  | succ n ih =>
    unfold Agj at h
    split at h
    · cases h
    split at h
    · rename_i rest d op ty pos af g
      split at h
      · rename_i hd
        split at h
        · split at h
          · rename_i v hv
            exact sv hd (Afy hv) (ih h)
          · cases h
        · rename_i j want
          split at h
          · rename_i dj hj
            split at h
            · rename_i b ht
              split at h
              · rename_i hb
                exact Asw hd hj ht hb (ih h)
              · rename_i hb
                split at h
                · rename_i hn
                  split at h
                  · rename_i v hv
                    have hb : b = want := by simpa using hb
                    subst hb
                    exact son hn hj ht (sv hd (Afy hv) (ih h))
                  · cases h
                · cases h
            · cases h
          · cases h
      · cases h
    · cases h
theorem dnT {P : Program} {fn : Func} {R : AV → Prop} {st : AS} {t : Tmp} {x : SV} (hr : fn.results.toList = [.tmp t]) (hx : st.t t = .s x) (hp : x.cells.all Lf.pubd = true) (hR : R (.s x)) : Aqh P fn R .ret st :=
  ⟨Or.inr rfl, [x], [x], st.m, by rw [hr]; exact Ai (.tmp _ _ hx) Au, A4 (by simpa using hp), hR⟩
theorem dnA {P : Program} {fn : Func} {R : AV → Prop} {st : AS} {t : Tmp} {ty : TypeId} {sz : Nat} {l : Lf} {cs : List Lf} (hr : fn.results.toList = [.cell t ty]) (ti : TI P ty true sz) (ht : st.t t = .s (.one l)) (hp : Xg st l cs) (hy : sz ≤ cs.length) (hb : (cs.take sz).all Lf.pubd = true) (hR : R (.s (.agg (cs.take sz)))) : Aqh P fn R .ret st :=
  ⟨Or.inr rfl, [.agg (cs.take sz)], [.agg (cs.take sz)], st.m, by rw [hr]; exact Ai (.agg _ _ _ _ _ ti ht hp hy) Au, A4 (by simpa [SV.cells] using hb), hR⟩
theorem evs {α : Prop} {md : List Blk} {all : List (List Blk)} (k : Wo md all → α) (h : Wo md all) : α := k h
section
variable {P : Program} {c : Ctx} {t : Nat → AV} {m : List Blk} {ops : Array Oper} {Q : Exit → AS → Prop} {rest : List Oper} {ty ty' : TypeId} {pos pos' : String} {af af' : Array Edge} {d e : Tmp}
theorem csr {id : Nat} {l : List Oper} {y : Code} (h : AWL P c l.toArray (Qz (AWC P c y Q) Q) l ⟨t, m⟩) : AWC P c (.seq (.region id l.toArray false) y) Q ⟨t, m⟩ := Bp (Ax h)
theorem fl {s f off : Nat} {x y : Operand} {p o q : Nat} {T : TypeId} {cs : List Lf} {z : Lf} (fi : FI P s f off) (ti : TI P T false 1) (h1 : decide (d < c.nt) = true) (hx : Cf ⟨t, m⟩ x = .s (.one (.lp p o))) (h2 : decide (e < c.nt) = true) (hy : Cf ⟨upd t d (.s (.one (.lp p (o + off)))), m⟩ y = .s (.one (.lp p q))) (hm : m[p]? = some (.box cs)) (hz : (cs.drop q)[0]? = some z)
    (k : AWL P c ops Q rest ⟨upd (upd t d (.s (.one (.lp p (o + off))))) e (.s (.one z)), m⟩) : AWL P c ops Q (⟨some d, .fieldAddr s x f, ty, pos, af, none⟩ :: ⟨some e, .load T y, ty', pos', af', none⟩ :: rest) ⟨t, m⟩ :=
  sv h1 (Aa fi hx) (sv h2 (Ae ti hy (.lp _ _ _ hm) hz) k)
end
end Go.Proofs.YtphgpfgibpgfiaaGreat.Abs
