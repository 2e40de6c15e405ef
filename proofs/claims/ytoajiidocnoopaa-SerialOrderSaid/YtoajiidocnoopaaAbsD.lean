/-
  A walk over abstract states: its rules, part D.
-/
import Derived.WalkKit
import Derived.Lib.Walk
import Derived.Lib.SliceRun
import Derived.Lib.JoinLaws
import Derived.Lib.AppendZeros
import Derived.Lib.AppendZerosOnto
import Derived.Lib.Overlaps
import Derived.Laws.Externs
import Derived.Laws.IdiomCopy
import Derived.Laws.NewBlocks
import Derived.Shelf.RegionOpenPlain
import Derived.Shelf.Spec.SlicesInsert
import Derived.Test.YtoajiidocnoopaaAbsC
import Derived.Lib.ConvBytes
import Derived.Test.YtoajiidocnoopaaAbsB
/-
  What the library's Insert leans on: copies of elements of any size.
-/
namespace Go.Proofs.Ytoajiidocnoopaa.Abs
open Go.RowKit Go.Proofs Go.Lib

theorem run_copy_k {P : Program} (w : World) (dT sT ty elem : TypeId) (b o dLen dCap : Nat) (a : Addr) (sLen sCap sz q : Nat) (cs : List Value)
    (hu : P.underlying dT = some (.slice elem)) (hs : (P.info? elem).map (·.size) = some sz) (hq : Nat.min sLen dLen = q) (hn : cs.length = q * sz)
    (hsrc : ∀ j v, cs[j]? = some v → w.cell? (a.add j) = some v) (hc : ∀ j, j < cs.length → (w.cell? ⟨b, o + j, none⟩).isSome = true) (hf : ∀ j, j < cs.length → w.frozen? ⟨b, o + j, none⟩ = false) (h1 : ∀ v ∈ cs, v.oneCell' = true) :
    (Builtin.copy_ #[dT, sT] ty #[.slice (some ⟨b, o, none⟩) dLen dCap, .slice (some a) sLen sCap]).run P w = .ok (goInt q) (w.setCells b o cs) := by
  have ld := run_loadCells_list (P := P) w a cs hsrc
  have sd := run_storeCells_cells (P := P) b o cs 0 w (by simpa using hc) (by simpa using hf) h1
  rw [hn] at ld
  cases hi : P.info? elem with
  | none => simp [hi] at hs
  | some i =>
    have e : i.size = sz := by simpa [hi] using hs
    simp [Builtin.copy_, run_underlying hu, Builtin.lenOf, Builtin.firstCells, sizeOf, typeInfo, hi, e, hq, ld, sd]

/-- A list with others laid over it from o on. -/
def putL {α : Type} (o : Nat) (vs L : List α) : List α := L.take o ++ vs ++ L.drop (o + vs.length)
theorem putL_len {α : Type} {o : Nat} {vs L : List α} (h : o + vs.length ≤ L.length) : (putL o vs L).length = L.length := by
  simp only [putL, List.length_append, List.length_take, List.length_drop]; omega

theorem setL_one {α : Type} (L : List α) (o : Nat) (v : α) (h : o < L.length) : L.set o v = L.take o ++ v :: L.drop (o + 1) := by
  rw [List.set_eq_take_append_cons_drop, if_pos h]

/-- What cells written one behind the other make of the heap. -/
theorem heap_setCells (b : Nat) (t : TypeId) : ∀ (vs : List Value) (o : Nat) (w : World) (cur : Array Value), w.heap[b]? = some (.cells cur t (0, 0)) → o + vs.length ≤ cur.size →
    (w.setCells b o vs).heap[b]? = some (.cells (putL o vs cur.toList).toArray t (0, 0)) ∧ (w.setCells b o vs).heap.size = w.heap.size ∧ (∀ g, g ≠ b → (w.setCells b o vs).heap[g]? = w.heap[g]?) ∧
      (w.setCells b o vs).os = w.os ∧ (w.setCells b o vs).tape = w.tape ∧ (w.setCells b o vs).output = w.output
  | [], o, w, cur, h, hl => by
    refine ⟨?_, rfl, fun _ _ => rfl, rfl, rfl, rfl⟩
    show w.heap[b]? = _
    rw [h]
    simp [putL, List.take_append_drop]
  | v :: vs, o, w, cur, h, hl => by
    rw [List.length_cons] at hl
    have hb := Array.getElem?_eq_some_iff.1 h
    have h1 : (w.setCell ⟨b, o, none⟩ v).heap[b]? = some (.cells (cur.setIfInBounds o v) t (0, 0)) := by
      simp only [World.setCell, Array.getElem?_modify, if_true, h, Option.map_some]
      rfl
    obtain ⟨h2, h3, h4, h5, h6, h7⟩ := heap_setCells b t vs (o + 1) (w.setCell ⟨b, o, none⟩ v) (cur.setIfInBounds o v) h1 (by rw [Array.size_setIfInBounds]; omega)
    have e0 : w.setCells b o (v :: vs) = (w.setCell ⟨b, o, none⟩ v).setCells b (o + 1) vs := rfl
    rw [e0]
    refine ⟨?_, by rw [h3]; simp [World.setCell], fun g hg => by rw [h4 g hg]; simp only [World.setCell, Array.getElem?_modify]; rw [if_neg (fun e => hg e.symm)], h5, h6, h7⟩
    rw [h2]
    congr 3
    have ho : o < cur.toList.length := by rw [Array.length_toList]; omega
    have es : (cur.setIfInBounds o v).toList = cur.toList.take o ++ v :: cur.toList.drop (o + 1) := by
      rw [Array.toList_setIfInBounds, setL_one _ _ _ ho]
    unfold putL
    rw [es, List.length_cons]
    have hto : (cur.toList.take o).length = o := by rw [List.length_take]; omega
    have e1 : (cur.toList.take o ++ v :: cur.toList.drop (o + 1)).take (o + 1) = cur.toList.take o ++ [v] := by
      rw [List.take_append, List.take_of_length_le (by omega), hto, show o + 1 - o = 1 by omega]; rfl
    have e2 : (cur.toList.take o ++ v :: cur.toList.drop (o + 1)).drop (o + 1 + vs.length) = cur.toList.drop (o + (vs.length + 1)) := by
      rw [List.drop_append, List.drop_of_length_le (by omega), hto, show o + 1 + vs.length - o = vs.length + 1 by omega, List.drop_succ_cons, List.drop_drop, List.nil_append]
      congr 1; omega
    rw [e1, e2]
    simp

theorem putL_two {α : Type} (L vs D : List α) (a s m : Nat) (hv : vs.length = s) (hD : D.length = m) (hL : a + s + m ≤ L.length) :
    (putL a vs (putL (a + s) D L)).take (a + s + m) = L.take a ++ vs ++ D := by
  unfold putL
  have h1 : (L.take (a + s) ++ D ++ L.drop (a + s + D.length)).take a = L.take a := by
    rw [List.append_assoc, List.take_append_of_le_length (by rw [List.length_take]; omega), List.take_take, Nat.min_eq_left (by omega)]
  have h2 : (L.take (a + s) ++ D ++ L.drop (a + s + D.length)).drop (a + vs.length) = D ++ L.drop (a + s + D.length) := by
    rw [List.append_assoc, hv, List.drop_left' (by rw [List.length_take]; omega)]
  rw [h1, h2, ← List.append_assoc, List.take_left' (by simp only [List.length_append, List.length_take]; omega)]

theorem putL_end {α : Type} (L vs : List α) (a s : Nat) (hv : vs.length = s) (hL : a + s ≤ L.length) : (putL a vs L).take (a + s) = L.take a ++ vs := by
  unfold putL
  rw [List.take_left' (by simp only [List.length_append, List.length_take]; omega)]

/-- What a call leaves that gives an own row: in the block of the one that it was handed, or in a new one. -/
structure RowLeft (E sz b n : Nat) (w w' : World) (v : Value) (vals : List Value) : Prop where
  os : w'.os = w.os
  tape : w'.tape = w.tape
  output : w'.output = w.output
  size : w.heap.size ≤ w'.heap.size
  blk : ∀ g, g < w.heap.size → g ≠ b → w'.heap[g]? = w.heap[g]?
  row : ∃ G cap cur, (G = b ∨ w.heap.size ≤ G) ∧ v = .slice (some ⟨G, 0, none⟩) n cap ∧ w'.heap[G]? = some (.cells cur E (0, 0)) ∧ n ≤ cap ∧ cap ≤ maxLen ∧ cur.size = cap * sz ∧ cur.toList.take (n * sz) = vals

theorem rowLeft_end {E sz b n c : Nat} {w : World} {cur : Array Value} {vs : List Value} (hg : w.heap[b]? = some (.cells cur E (0, 0))) (hc : n + 1 ≤ c) (hm : c ≤ maxLen) (hs : cur.size = c * sz) (hv : vs.length = sz) :
    RowLeft E sz b (n + 1) w (w.setCells b (n * sz) vs) (.slice (some ⟨b, 0, none⟩) (n + 1) c) (cur.toList.take (n * sz) ++ vs) := by
  have hfit : n * sz + vs.length ≤ cur.size := by
    rw [hs, hv]
    have := Nat.mul_le_mul_right sz hc
    rw [Nat.add_mul, Nat.one_mul] at this
    exact this
  obtain ⟨h1, h2, h3, h4, h5, h6⟩ := heap_setCells b E vs (n * sz) w cur hg hfit
  refine ⟨h4, h5, h6, by rw [h2]; exact Nat.le_refl _, fun g _ hne => h3 g hne, b, c, _, .inl rfl, rfl, h1, hc, hm, ?_, ?_⟩
  · rw [List.size_toArray, putL_len (by rw [Array.length_toList]; exact hfit), Array.length_toList, hs]
  · rw [List.toList_toArray, Nat.add_mul, Nat.one_mul]
    exact putL_end _ _ _ _ hv (by rw [Array.length_toList]; omega)

theorem rowLeft_shift {E sz b n c i : Nat} {w : World} {cur : Array Value} {vs : List Value} (hg : w.heap[b]? = some (.cells cur E (0, 0))) (hi : i < n) (hc : n + 1 ≤ c) (hm : c ≤ maxLen) (hs : cur.size = c * sz) (hv : vs.length = sz) :
    RowLeft E sz b (n + 1) w ((w.drew.setCells b ((i + 1) * sz) ((cur.toList.take (n * sz)).drop (i * sz))).setCells b (i * sz) vs) (.slice (some ⟨b, 0, none⟩) (n + 1) c)
      ((cur.toList.take (n * sz)).take (i * sz) ++ vs ++ (cur.toList.take (n * sz)).drop (i * sz)) := by
  have hle : (n + 1) * sz ≤ cur.size := by rw [hs]; exact Nat.mul_le_mul_right sz hc
  have hin : i * sz ≤ n * sz := Nat.mul_le_mul_right sz (Nat.le_of_lt hi)
  have ei : (i + 1) * sz = i * sz + sz := by rw [Nat.add_mul, Nat.one_mul]
  have en : (n + 1) * sz = n * sz + sz := by rw [Nat.add_mul, Nat.one_mul]
  have hdl : ((cur.toList.take (n * sz)).drop (i * sz)).length = n * sz - i * sz := by rw [List.length_drop, List.length_take, Array.length_toList]; omega
  have hl0 : cur.toList.length = cur.size := Array.length_toList
  obtain ⟨h1, h2, h3, h4, h5, h6⟩ := heap_setCells b E ((cur.toList.take (n * sz)).drop (i * sz)) ((i + 1) * sz) w.drew cur hg (by omega)
  have hp1 := putL_len (o := (i + 1) * sz) (vs := (cur.toList.take (n * sz)).drop (i * sz)) (L := cur.toList) (by omega)
  obtain ⟨k1, k2, k3, k4, k5, k6⟩ := heap_setCells b E vs (i * sz) _ _ h1 (by rw [List.size_toArray, hp1]; omega)
  rw [List.toList_toArray] at k1
  have hp2 := putL_len (o := i * sz) (vs := vs) (L := putL ((i + 1) * sz) ((cur.toList.take (n * sz)).drop (i * sz)) cur.toList) (by rw [hp1]; omega)
  refine ⟨k4.trans h4, k5.trans h5, k6.trans h6, by rw [k2, h2]; exact Nat.le_refl _, fun g _ hne => (k3 g hne).trans (h3 g hne), b, c, _, .inl rfl, rfl, k1, hc, hm, ?_, ?_⟩
  · rw [List.size_toArray, hp2, hp1, hl0, hs]
  · rw [List.toList_toArray, List.take_take, Nat.min_eq_left hin]
    have := putL_two cur.toList vs ((cur.toList.take (n * sz)).drop (i * sz)) (i * sz) sz (n * sz - i * sz) hv hdl (by omega)
    rw [← ei, show (i + 1) * sz + (n * sz - i * sz) = (n + 1) * sz by omega] at this
    exact this

theorem rowLeft_new {E sz b n c : Nat} {w : World} {row : Array Value} {vals : List Value} (hc : n ≤ c) (hm : c ≤ maxLen) (hs : row.size = c * sz) (hv : row.toList.take (n * sz) = vals) :
    RowLeft E sz b n w (w.drew.alloc (.cells row E)) (.slice (some ⟨w.heap.size, 0, none⟩) n c) vals := by
  refine ⟨rfl, rfl, rfl, by simp, fun g hg _ => Below.heap_alloc w.drew _ g hg, w.heap.size, c, row, .inr (Nat.le_refl _), rfl, ?_, hc, hm, hs, hv⟩
  show (w.heap.push (.cells row E))[w.heap.size]? = _
  simp

theorem putL_grow {α : Type} (L vs D : List α) (a s m : Nat) (hv : vs.length = s) (hD : D.length = m) (hL : a + s + m ≤ L.length) :
    (putL (a + s) D (putL a vs L)).take (a + s + m) = L.take a ++ vs ++ D := by
  have h1 : (putL a vs L).take (a + s) = L.take a ++ vs := putL_end _ _ _ _ hv (by omega)
  show ((putL a vs L).take (a + s) ++ D ++ _).take (a + s + m) = _
  rw [h1, List.take_left' (by simp only [List.length_append, List.length_take]; omega)]

theorem rowLeft_grow {E sz n c i : Nat} {w : World} {row : Array Value} {xs vs D : List Value} (hi : i < n) (hc : n + 1 ≤ c) (hm : c ≤ maxLen) (hs : row.size = c * sz) (hv : vs.length = sz) (hD : D.length = (n - i) * sz) (ht : row.toList.take (i * sz) = xs) :
    RowLeft E sz w.heap.size (n + 1) w ((((w.alloc (.cells row E)).drew.setCells w.heap.size (i * sz) vs).drew).setCells w.heap.size ((i + 1) * sz) D) (.slice (some ⟨w.heap.size, 0, none⟩) (n + 1) c) (xs ++ vs ++ D) := by
  have hle : (n + 1) * sz ≤ row.size := by rw [hs]; exact Nat.mul_le_mul_right sz hc
  have ei : (i + 1) * sz = i * sz + sz := by rw [Nat.add_mul, Nat.one_mul]
  have e3 : (i + 1) * sz + (n - i) * sz = (n + 1) * sz := by rw [← Nat.add_mul]; congr 1; omega
  have hl0 : row.toList.length = row.size := Array.length_toList
  have hg : (w.alloc (.cells row E)).drew.heap[w.heap.size]? = some (.cells row E (0, 0)) := by
    show (w.heap.push (.cells row E))[w.heap.size]? = _
    simp
  obtain ⟨h1, h2, h3, h4, h5, h6⟩ := heap_setCells w.heap.size E vs (i * sz) _ row hg (by omega)
  have hp1 := putL_len (o := i * sz) (vs := vs) (L := row.toList) (by omega)
  obtain ⟨k1, k2, k3, k4, k5, k6⟩ := heap_setCells w.heap.size E D ((i + 1) * sz) (((w.alloc (.cells row E)).drew.setCells w.heap.size (i * sz) vs).drew) _ h1 (by rw [List.size_toArray, hp1]; omega)
  rw [List.toList_toArray] at k1
  have hp2 := putL_len (o := (i + 1) * sz) (vs := D) (L := putL (i * sz) vs row.toList) (by rw [hp1]; omega)
  refine ⟨k4.trans h4, k5.trans h5, k6.trans h6, ?_, fun g hg2 hne => ((k3 g hne).trans (h3 g hne)).trans (Below.heap_alloc w _ g hg2), w.heap.size, c, _, .inl rfl, rfl, k1, hc, hm, ?_, ?_⟩
  · rw [k2]
    show w.heap.size ≤ ((w.alloc (.cells row E)).drew.setCells w.heap.size (i * sz) vs).heap.size
    rw [h2]
    show w.heap.size ≤ (w.heap.push _).size
    rw [Array.size_push]; omega
  · rw [List.size_toArray, hp2, hp1, hl0, hs]
  · rw [List.toList_toArray, ← ht, ← e3, ei]
    exact putL_grow row.toList vs D (i * sz) sz ((n - i) * sz) hv hD (by omega)

theorem callsB_ins {P : Program} {F E sz : Nat} {cs vs : List Lf} {n i : Nat} (hsz : 0 < sz) (hcl : cs.length = n * sz) (hvl : vs.length = sz)
    (hmain : ∀ (w : World) (v1 : Value) (vb vc : Nat) (cur2 : Array Value) (xs ys : List Value), w.ownsRow 0 E sz v1 n xs → w.heap[vb]? = some (.cells cur2 E (0, 0)) → (∀ j y, ys[j]? = some y → w.cell? ⟨vb, j, none⟩ = some y) → ys.length = sz → ownOf v1 ≠ some vb →
      (∀ x ∈ xs, x.oneCell' = true) → (∀ y ∈ ys, y.oneCell' = true) →
      Calls P F #[v1, .int .i64 i, .slice (some ⟨vb, 0, none⟩) 1 vc] w fun e w' => ∃ v b, e = .returned v ∧ RowLeft E sz b (n + 1) w w' v (xs.take (i * sz) ++ ys ++ xs.drop (i * sz)) ∧ (ownOf v1 = some b ∨ w.heap.size ≤ b)) :
    CallsB P F [.arr E sz 0 cs, .arr E sz 0 vs] [.one (.ls 0 n), .one (.i .i64 (i : Int)), .one (.ls 1 1)] (fun y m' => y = .s (.one (.ls 0 (n + 1))) ∧ m' = [.arr E sz 0 (cs.take (i * sz) ++ vs ++ cs.drop (i * sz)), .dead]) := by
  intro w S H args hS hm hv
  obtain ⟨hl, hv⟩ := hv
  obtain ⟨v1, v2, v3, rfl⟩ : ∃ a b c, args = #[a, b, c] := by
    obtain ⟨l⟩ := args
    have h3 : l.length = 3 := hl.symm
    match l, h3 with
    | [a, b, c], _ => exact ⟨a, b, c, rfl⟩
  have g0 := hv 0 _ v1 rfl rfl
  have g1 := hv 1 _ v2 rfl rfl
  have g2 := hv 2 _ v3 rfl rfl
  obtain ⟨_, _, h0⟩ := (show GRep w S _ H (.ls 0 n) v1 from g0)
  have hv1 : v1 = H 0 := (h0 E sz 0 cs rfl).2 hcl.symm
  obtain ⟨_, _, h2⟩ := (show GRep w S _ H (.ls 1 1) v3 from g2)
  have hv3 : v3 = H 1 := (h2 E sz 0 vs rfl).2 (by rw [Nat.one_mul]; exact hvl.symm)
  have hv2 : v2 = .int .i64 i := by
    cases (show Rep w S (.i .i64 i) v2 from g1)
    rfl
  subst hv1 hv3 hv2
  obtain ⟨_, _, n0, xs, hown, hxs, _⟩ := hm.bl 0 _ rfl
  obtain ⟨_, _, m0, ys, hown2, hys, _⟩ := hm.bl 1 _ rfl
  have hn0 : n0 = n := ownsRow_n hown hsz (by rw [← hxs.1]; exact hcl.symm)
  have hm0 : m0 = 1 := ownsRow_n hown2 hsz (by rw [← hys.1, Nat.one_mul]; exact hvl.symm)
  subst hn0 hm0
  rcases hown2.2 with ⟨_, h⟩ | ⟨vb, vc, cur2, e2, _, hg2, hc2, _, hs2, ht2⟩
  · omega
  have hyl : ys.length = sz := by rw [← hys.1]; exact hvl
  have hlsO : ∀ {ls : List Lf} {us : List Value}, LsR (Rep w S) ls us → ∀ u ∈ us, u.oneCell' = true := fun {ls us} h u hu => by
    obtain ⟨j, hj⟩ := List.mem_iff_getElem?.1 hu
    have hjl : j < ls.length := by rw [h.1]; exact (List.getElem?_eq_some_iff.1 hj).1
    exact (h.2 j _ u (List.getElem?_eq_getElem hjl) hj).oneCell
  have hcell : ∀ j y, ys[j]? = some y → w.cell? ⟨vb, j, none⟩ = some y := fun j y hj => by
    unfold World.cell?
    rw [hg2]
    have hjl := (List.getElem?_eq_some_iff.1 hj).1
    rw [← ht2, List.getElem?_take] at hj
    split at hj
    · simpa using hj
    · cases hj
  have hown0 : ownOf (H 0) ≠ some vb := fun h => by
    have h1 : Blk.own (.arr E sz 0 vs) (H 1) = some vb := by rw [e2]; rfl
    have := hm.inj 0 1 _ _ vb rfl rfl h h1
    cases this
  have hpk : ∀ p g, p < 2 → H p ≠ .pointer (some ⟨g, 0, none⟩) := fun p g hp e => by
    match p, hp with
    | 0, _ => rcases hown.2 with ⟨h, _⟩ | ⟨_, _, _, h, _⟩ <;> (rw [h] at e; cases e)
    | 1, _ => rw [e2] at e; cases e
  rw [e2] at hown2 ⊢
  refine (hmain w (H 0) vb vc cur2 xs ys hown hg2 hcell hyl hown0 (hlsO hxs) (hlsO hys)).mono ?_
  rintro e w' ⟨v, b, rfl, r, hb⟩
  obtain ⟨G, cap, cur, hG, hve, hrow, hcn, hcm, hcs, hct⟩ := r.row
  have hSb : ∀ g j, S g j → g < w.heap.size ∧ g ≠ b := fun g j hs => by
    refine ⟨hS.1 g j hs, fun e => ?_⟩
    subst e
    rcases hb with h | h
    · have := hm.sb 0 _ g j rfl h hs
      exact Nat.not_lt_zero _ this
    · have := hS.1 g j hs; omega
  have hkeep : ∀ g j, S g j → S g j ∧ w'.cell? ⟨g, j, none⟩ = w.cell? ⟨g, j, none⟩ := fun g j hs => ⟨hs, World.cell?_of_block (w := w) (r.blk g (hSb g j hs).1 (hSb g j hs).2)⟩
  have hGS : ∀ j, ¬ S G j := fun j hs => by
    rcases hG with rfl | h
    · exact (hSb _ j hs).2 rfl
    · have := hS.1 G j hs; omega
  have hbX : ∀ g, g = b → g < w.heap.size → ownX [.arr E sz 0 cs, .arr E sz 0 vs] H g := fun g e hlt => by
    subst e
    rcases hb with h | h
    · exact ⟨0, _, rfl, h⟩
    · omega
  have hexists : ∃ o, w'.heap[G]? = some o := ⟨_, hrow⟩
  have hnl : (cs.take (i * sz) ++ vs ++ cs.drop (i * sz)).length = (n0 + 1) * sz := by
    simp only [List.length_append, List.length_take, List.length_drop, hvl, hcl, Nat.add_mul, Nat.one_mul]
    omega
  refine ⟨v, _, _, S, fun p => if p = 0 then v else H p, rfl, ⟨rfl, rfl⟩, ⟨r.os, r.tape, r.output, r.size, fun g hlt hx => r.blk g hlt (fun e => hx (hbX g e hlt)), fun _ _ h => h, fun g j hs => (hkeep g j hs).2, fun _ _ _ _ h => h⟩,
    hS.turn r.size (fun g j hs => (hkeep g j hs).2), ⟨?_, ?_, ?_, ?_⟩, ?_, ⟨show 2 ≤ 2 by decide, fun p g hp h => absurd h (hpk p g hp), fun p e' sz' k cs' hp h => ?_, fun p hp hne => ?_⟩, ?_⟩
  · intro p bb hbb
    match p, hbb with
    | 1, hbb => cases hbb; trivial
    | 0, hbb =>
      cases hbb
      refine ⟨hsz, Nat.zero_le _, n0 + 1, xs.take (i * sz) ++ ys ++ xs.drop (i * sz), ⟨?_, .inr ⟨G, cap, cur, hve, Nat.zero_le _, hrow, hcn, hcm, hcs, hct⟩⟩, ?_, fun _ _ _ h => absurd h (Nat.not_lt_zero _)⟩
      · have : xs.length = n0 * sz := by rw [← hxs.1]; exact hcl
        simp only [List.length_append, List.length_take, List.length_drop, hyl, this, Nat.add_mul, Nat.one_mul]
        omega
      · have key : ∀ {l1 l2 : List Lf} {u1 u2 : List Value}, LsR (Rep w' S) l1 u1 → LsR (Rep w' S) l2 u2 → LsR (Rep w' S) (l1 ++ l2) (u1 ++ u2) := fun {l1 l2 u1 u2} h1 h2 => by
          refine ⟨by rw [List.length_append, List.length_append, h1.1, h2.1], fun j l u hl hu => ?_⟩
          rw [List.getElem?_append] at hl hu
          rw [h1.1] at hl
          split at hl
          · next hj => rw [if_pos hj] at hu; exact h1.2 j l u hl hu
          · next hj => rw [if_neg hj] at hu; exact h2.2 _ l u hl hu
        have hx' : LsR (Rep w' S) cs xs := hxs.mono fun _ _ => Rep.mono hkeep
        have hy' : LsR (Rep w' S) vs ys := hys.mono fun _ _ => Rep.mono hkeep
        refine key (key ⟨by rw [List.length_take, List.length_take, hx'.1], fun j l u hl hu => ?_⟩ hy') ⟨by rw [List.length_drop, List.length_drop, hx'.1], fun j l u hl hu => ?_⟩
        · rw [List.getElem?_take] at hl hu
          split at hl
          · next hj => rw [if_pos hj] at hu; exact hx'.2 j l u hl hu
          · cases hl
        · rw [List.getElem?_drop] at hl hu
          exact hx'.2 _ l u hl hu
    | p + 2, hbb => cases hbb
  · intro p bb g hbb ho
    match p, hbb with
    | 1, hbb => cases hbb; cases ho
    | 0, hbb =>
      cases hbb
      have : some G = some g := by rw [← ho]; show _ = ownOf v; rw [hve]; rfl
      cases this
      exact (Array.getElem?_eq_some_iff.1 hrow).1
    | p + 2, hbb => cases hbb
  · intro p q b1 b2 g h1 h2 o1 o2
    match p, q, h1, h2 with
    | 1, _, h1, _ => cases h1; cases o1
    | 0, 1, _, h2 => cases h2; cases o2
    | 0, 0, _, _ => rfl
    | 0, q + 2, _, h2 => cases h2
    | p + 2, _, h1, _ => cases h1
  · intro p bb g j hbb ho hs
    match p, hbb with
    | 1, hbb => cases hbb; cases ho
    | 0, hbb =>
      cases hbb
      have : some G = some g := by rw [← ho]; show _ = ownOf v; rw [hve]; rfl
      cases this
      exact absurd hs (hGS j)
    | p + 2, hbb => cases hbb
  · intro p bb g hbb ho
    match p, hbb with
    | 1, hbb => cases hbb; cases ho
    | 0, hbb =>
      cases hbb
      have : some G = some g := by rw [← ho]; show _ = ownOf v; rw [hve]; rfl
      cases this
      rcases hG with h | h
      · by_cases hlt : G < w.heap.size
        · exact .inr (hbX G h hlt)
        · exact .inl (by omega)
      · exact .inl h
    | p + 2, hbb => cases hbb
  · match p, hp, h with
    | 0, _, h =>
      cases h
      exact ⟨0, cs, rfl, .inr (by rw [hnl, hcl]; exact Nat.mul_lt_mul_of_pos_right (Nat.lt_succ_self _) hsz)⟩
    | 1, _, h => cases h
  · match p, hp, hne with
    | 0, _, _ => show v ≠ undef; rw [hve]; exact fun h => by cases h
    | 1, _, hne => exact hne
  · show GRep0 w' S [.arr E sz 0 (cs.take (i * sz) ++ vs ++ cs.drop (i * sz)), .dead] (fun p => if p = 0 then v else H p) (.ls 0 (n0 + 1)) v
    refine ⟨show 0 < 2 by decide, ⟨by rw [hve]; rfl, by show v ≠ undef; rw [hve]; exact fun h => by cases h⟩, fun e' sz' k cs' h => ?_⟩
    cases h
    exact ⟨Nat.le_of_eq hnl.symm, fun _ => rfl⟩

section
variable {P : Program} {c : Ctx} {Q : Exit → AS → Prop} {t : Nat → AV} {m : List Blk}
theorem clabel {l : Nat} (h : Q .normal ⟨t, m⟩) : AWC P c (.label l) Q ⟨t, m⟩ := fun _ _ S H r => wp_label ⟨⟨t, m⟩, S, H, r, h⟩
theorem cscope {x : Code} (hg : ∀ l st, ¬ Q (.goto l) st) (h : AWC P c x Q ⟨t, m⟩) : AWC P c (.scope x) Q ⟨t, m⟩ := fun a w S H r =>
  wp_scope_straight (wp_mono (h a w S H r) fun e a' w' hq => by
    cases e with
    | goto l =>
      obtain ⟨st, S', H', hr, hq⟩ := hq
      exact absurd hq (hg l _)
    | _ => exact hq)
end

/-- What Insert makes of one value more. -/
def insM {α : Type} (by_ : Nat) (xs : List α) (i : Int) (vs : List α) : Option (List α) := match vs with
  | [x] => if (0 ≤ i ∧ i ≤ (xs.length : Int)) ∧ (xs.length + 1) * by_ ≤ 140737488355328 then some (xs.take i.toNat ++ x :: xs.drop i.toNat) else none
  | _ => none
theorem insM_c {P : Program} {F E sz by_ : Nat} {α : Type} {f : α → List Lf} (hf : ∀ x, (f x).length = sz) (hB : ∀ {cs vs : List Lf} {n i : Nat}, cs.length = n * sz → vs.length = sz → i ≤ n → (n + 1) * by_ ≤ 140737488355328 →
      CallsB P F [.arr E sz 0 cs, .arr E sz 0 vs] [.one (.ls 0 n), .one (.i .i64 (i : Int)), .one (.ls 1 1)] (fun y m' => y = .s (.one (.ls 0 (n + 1))) ∧ m' = [.arr E sz 0 (cs.take (i * sz) ++ vs ++ cs.drop (i * sz)), .dead]))
    {xs : List α} {i : Int} {vs r : List α} (h : insM by_ xs i vs = some r) :
    CallsB P F [.arr E sz 0 (xs.flatMap f), .arr E sz 0 (vs.flatMap f)] [.one (.ls 0 xs.length), .one (.i .i64 i), .one (.ls 1 vs.length)] (fun y m' => y = .s (.one (.ls 0 r.length)) ∧ m' = [.arr E sz 0 (r.flatMap f), .dead]) := by
  unfold insM at h
  match vs, h with
  | [x], h =>
    obtain ⟨⟨⟨h0, h1⟩, h2⟩, h⟩ := chk_eq h
    obtain rfl := Option.some.inj h
    have hb := hB (cs := xs.flatMap f) (vs := [x].flatMap f) (n := xs.length) (i := i.toNat) (flat_len hf xs) (by rw [flat_len hf, List.length_singleton, Nat.one_mul]) (by omega) h2
    rw [Int.toNat_of_nonneg h0] at hb
    refine hb.mono ?_
    rintro y m' ⟨rfl, rfl⟩
    have e1 : (xs.take i.toNat ++ x :: xs.drop i.toNat).length = xs.length + 1 := by
      rw [List.length_append, List.length_cons, List.length_take, List.length_drop]; omega
    rw [e1]
    refine ⟨rfl, ?_⟩
    rw [List.flatMap_append, flat_take hf, List.flatMap_cons, flat_drop hf, ← List.append_assoc]
    simp

/-- A call that gives an own row, to the place kept free for it. -/
theorem Rel.fillRow {c : Ctx} {t : Nat → AV} {m : List Blk} {a : Act} {w w' : World} {S S' : Stab} {H H' : Nat → Value} (r : Rel c ⟨t, m⟩ a w S H) {p : Nat} (hm : m[p]? = some .hole) (hp0 : c.m0.length ≤ p) {e sz : Nat} {cs : List Lf}
    (hx : Ext w S w' S') (hin : InH w' S') (mem : Mem w' S' [.arr e sz 0 cs] H') (hown : ∀ g, ownOf (H' 0) = some g → w.heap.size ≤ g) :
    Rel c ⟨t, m.set p (.arr e sz 0 cs)⟩ a w' S' (setH H p (H' 0)) := by
  have hp : p < m.length := (List.getElem?_eq_some_iff.1 hm).1
  have hH : H p = undef := r.bl p _ hm
  obtain ⟨hsz, hk, n, vals, h1, h2, h3⟩ := mem.bl 0 _ rfl
  refine r.changeH (p := p) (b' := .arr e sz 0 cs) (v := H' 0) (by simp) (List.getElem?_set_self hp) (fun q hq => List.getElem?_set_ne (fun e => hq e.symm)) (hx.keeps r.sl) (fun g _ h => (undef_ne (hH.symm.trans h)).elim)
    (fun e sz k cs _ h _ => by rcases h with h | h; exact absurd hH h; omega) (fun g hg _ => hx.blk g hg) ⟨hsz, Nat.zero_le _, n, vals, h1, h2, fun _ _ _ h => absurd h (Nat.not_lt_zero _)⟩ (fun g hg => ?_)
    (fun q b g i _ hb ho hs => hx.back g i (r.lo q b g hb ho).2 hs) (fun g i hg _ hs => hx.back g i (Nat.lt_of_lt_of_le hg r.ex.size) hs) hin hx.size hx.os hx.tape hx.output
  have hge := hown g hg
  refine ⟨.inl (Nat.le_trans r.ex.size hge), mem.hp 0 _ g rfl hg, fun q b _ hb ho => ?_, fun i hs => mem.sb 0 _ g i rfl hg hs⟩
  have := (r.lo q b g hb ho).2
  omega

section
variable {P : Program} {c : Ctx} {t : Nat → AV} {M : List Blk} {ops : Array Oper} {Q : Exit → AS → Prop} {rest : List Oper} {ty : TypeId} {pos : String} {af : Array Edge} {d : Tmp}
theorem scallB_at {callee : Operand} {f : FuncId} {args : Array Operand} {ats : Array TypeId} {xs : List SV} {e sz n : Nat} {cs : List Lf} {α : Type} {g : α → List Lf} {ys : List α} (p : Nat) (hd : decide (d < c.nt) = true) (hf : FnI P f) (hcal : Cal ⟨t, M⟩ callee f [] []) (ho : Opnds ⟨t, M⟩ args.toList xs)
    (hc : CallsB P f [] xs (fun y m' => y = .s (.one (.ls 0 n)) ∧ m' = [.arr e sz 0 cs])) (hpub : xs.all (fun x => x.inbB 0) = true) (hg : ∀ x, (g x).length = sz) (hcs : cs = ys.flatMap g) (hn : n = ys.length) (hm : M[p]? = some .hole) (hp0 : Nat.ble c.m0.length p = true)
    (k : AWL P c ops Q rest ⟨upd t d (.s (.one (.ls p n))), M.set p (.arr e sz 0 cs)⟩) : AWL P c ops Q (⟨some d, .call { callee := .value callee, args := args, argTypes := ats }, ty, pos, af, none⟩ :: rest) ⟨t, M⟩ := by
  subst hcs hn
  intro a w S H r
  obtain ⟨vs, hvs, hrun⟩ := callB_run (pos := pos) (af := af) (ty := ty) (ats := ats) r hf hcal ho (some d)
  refine wpList_plain rfl fun K hK => ?_
  unfold Oper.wp
  rw [hrun]
  have hvs' : SvsR (GRep w S [] H) xs vs.toList := by
    have tie : Tie [] M H H (fun j => j) := ⟨fun p h => absurd h (Nat.not_lt_zero _), fun _ _ => rfl, fun p b h => by cases h⟩
    have e : xs.map (SV.ren (fun j => j)) = xs := by
      have hl : ∀ l : Lf, l.ren0 (fun j => j) = l := fun l => by cases l <;> rfl
      have hl2 : ∀ l : Lf, l.ren (fun j => j) = l := fun l => by
        cases l with
        | fn f a b =>
          show Lf.fn f (a.map _) (b.map _) = _
          rw [show (Lf.ren0 fun j => j) = id from funext hl, List.map_id, List.map_id]
        | _ => rfl
      have hs : ∀ x : SV, x.ren (fun j => j) = x := fun x => by
        cases x with
        | one l => show SV.one _ = _; rw [hl2]
        | agg ls => show SV.agg _ = _; rw [show (Lf.ren fun j => j) = id from funext hl2, List.map_id]
      rw [show (SV.ren fun j => j) = id from funext hs, List.map_id]
    exact tie.svsDown hpub (by rw [e]; simpa using hvs)
  refine (hc w S H vs r.sl ⟨fun p b h => by simp at h, fun p b g h => by simp at h, fun p q b b' g h => by simp at h, fun p b g i h => by simp at h⟩ hvs').mono ?_
  rintro e' w' ⟨v, y, m', S', H', rfl, ⟨rfl, rfl⟩, ext, hin, mem', hown', _, hav⟩
  have hx : Ext w S w' S' := ext.toExt (fun b ⟨q, bb, h, _⟩ => by simp at h)
  have r' := r.fillRow hm (Nat.le_of_ble_eq_true hp0) hx hin mem' (fun g hg => by
    rcases hown' 0 _ g rfl hg with h | ⟨q, bb, h, _⟩
    · exact h
    · simp at h)
  have hp : p < M.length := (List.getElem?_eq_some_iff.1 hm).1
  obtain ⟨_, ho1, hv⟩ := (show GRep0 w' S' [.arr e sz 0 (ys.flatMap g)] H' (.ls 0 ys.length) v from hav)
  have hvH := (hv e sz 0 _ rfl).2 (flat_len hg ys).symm
  refine hK _ _ (k _ _ _ _ (r'.put (of_decide_eq_true hd) ?_))
  show GRep0 w' S' (M.set p (.arr e sz 0 (ys.flatMap g))) (setH H p (H' 0)) (.ls p ys.length) v
  refine ⟨by simpa using hp, ⟨ho1.1, by rw [setH_same]; exact ho1.2⟩, fun e2 sz2 k2 cs2 h2 => ?_⟩
  rw [List.getElem?_set_self hp] at h2
  cases h2
  exact ⟨Nat.le_of_eq (flat_len hg ys).symm, fun _ => by rw [setH_same]; exact hvH⟩
end
end Go.Proofs.Ytoajiidocnoopaa.Abs

/-
  A string's bytes as a row.
-/
namespace Go.Proofs.Ytoajiidocnoopaa.Abs
open Go.RowKit Go.Lib

theorem flat_eU8 (l : List UInt8) : l.flatMap eU8 = l.map (fun b => Lf.i .u8 (b.toNat : Int)) := by
  induction l with
  | nil => rfl
  | cons b l ih => rw [List.flatMap_cons, ih]; rfl

theorem opD_sb {P : Program} {c : Ctx} {st : AS} {ty : TypeId} {src dst e : TypeId} {x : Operand} {l : List UInt8} (hs : P.underlying src = some .string) (hd : P.underlying dst = some (.slice e)) (he : P.underlying e = some (.int .u8)) (hx : opnd st x = .s (.one (.s ⟨l.toArray⟩))) (hl : l.length ≤ 140737488355328) :
    OpD P c st (.convert src dst x) ty (.s (.one (.sl l.length (l.flatMap eU8)))) := by
  intro a w S H r dt pos af g K Q hK
  have h1 := opnd_rel r x
  rw [hx] at h1
  have hv : a.eval x = .string ⟨l.toArray⟩ := by
    have hr' : Rep w S (.s ⟨l.toArray⟩) (a.eval x) := h1
    generalize a.eval x = u at hr'
    cases hr'
    rfl
  have hrun := Go.Lib.run_convert_string_bytes (P := P) w src dst e ⟨l.toArray⟩ hs hd he
  have hexec : (execOp a.eval ⟨dt, .convert src dst x, ty, pos, af, g⟩).run P w = .ok (.value (.slice (some ⟨w.heap.size, 0, none⟩) l.length (grownCap w l.length 0 e))) (bytesWorld w e ⟨l.toArray⟩) := by
    have hsz : (⟨l.toArray⟩ : ByteArray).size = l.length := rfl
    rw [hsz] at hrun
    simp [execOp, hv]
    rw [hrun]
    rfl
  unfold Oper.wp
  rw [hexec]
  have hsize := bytesWorld_size w e ⟨l.toArray⟩
  obtain ⟨ho1, ho2, ho3⟩ := freeze_os (w.drew.alloc (.cells (bytesCells w e ⟨l.toArray⟩) e)) ⟨w.heap.size, (bytesCells w e ⟨l.toArray⟩).size, none⟩ 1
  have hext : Ext w S (bytesWorld w e ⟨l.toArray⟩) (fun b i => S b i ∨ (b = w.heap.size ∧ i < l.length)) :=
    ⟨ho1, ho2, ho3, by rw [hsize]; exact Nat.le_succ _, fun b hb => bytesWorld_at_old w e _ b hb, fun b i h => .inl h, fun b i hb h => by
      rcases h with h | ⟨h, _⟩
      · exact h
      · omega⟩
  have hin : InH (bytesWorld w e ⟨l.toArray⟩) (fun b i => S b i ∨ (b = w.heap.size ∧ i < l.length)) :=
    ⟨fun b i h => by
      rw [hsize]
      rcases h with h | ⟨h, _⟩
      · have := r.sl.1 b i h; omega
      · omega, r.sl.2.mono (hext.keeps r.sl)⟩
  refine hK _ _ _ hext hin (avr_rep ?_)
  refine Rep.sl l.length _ w.heap.size 0 _ (fun j => .int .u8 ((l.getD j 0).toNat : Int)) (grownCap_ge w _ 0 e) (grownCap_le_maxLen w _ 0 e (by simp only [maxLen]; omega)) (fun j lf h => ?_) (fun j lf h => ?_)
  · rw [flat_eU8, List.getElem?_map] at h
    have hj : j < l.length := by
      rcases Nat.lt_or_ge j l.length with h' | h'
      · exact h'
      · rw [List.getElem?_eq_none h'] at h; cases h
    exact ⟨.inr ⟨rfl, by omega⟩, by rw [Nat.zero_add]; exact bytesWorld_cell w e ⟨l.toArray⟩ j hj⟩
  · rw [flat_eU8, List.getElem?_map] at h
    have hj : j < l.length := by
      rcases Nat.lt_or_ge j l.length with h' | h'
      · exact h'
      · rw [List.getElem?_eq_none h'] at h; cases h
    rw [List.getElem?_eq_getElem hj] at h
    cases h
    have : l.getD j 0 = l[j] := by rw [List.getD_eq_getElem?_getD, List.getElem?_eq_getElem hj]; rfl
    dsimp only
    rw [this]
    exact .i _ _
end Go.Proofs.Ytoajiidocnoopaa.Abs

/-
  What arguments of each kind are.
-/
namespace Go.Proofs.Ytoajiidocnoopaa.Abs
open Go.RowKit

theorem ft_i64 {ls : List Lf} (h : Fits (.int .i64) ls) : ∃ n : Int, (-9223372036854775808 ≤ n ∧ n ≤ 9223372036854775807) ∧ ls = eI n := by
  obtain ⟨n, hw, rfl⟩ := h
  exact ⟨n, lit_i64 hw, rfl⟩
theorem lit_un {k : IntKind} {n : Int} (h : (Lit.int k n).wf = true) : k.min ≤ n ∧ n ≤ k.max := by
  simp only [Lit.wf, Bool.and_eq_true, decide_eq_true_eq] at h
  exact h
theorem ft_u8 {ls : List Lf} (h : Fits (.int .u8) ls) : ∃ a : UInt8, True ∧ ls = eU8 a := by
  obtain ⟨n, hw, rfl⟩ := h
  obtain ⟨h1, h2⟩ := lit_un hw
  simp [IntKind.min, IntKind.max, IntKind.bits, IntKind.signed] at h1 h2
  refine ⟨UInt8.ofNat n.toNat, trivial, ?_⟩
  show _ = [Lf.i .u8 _]
  rw [show ((UInt8.ofNat n.toNat).toNat : Int) = n by rw [UInt8.toNat_ofNat']; omega]
theorem ft_b8 {ls : List Lf} (h : Fits (.int .u8) ls) : ∃ a : BitVec 8, True ∧ ls = [.i .u8 (a.toNat : Int)] := by
  obtain ⟨a, _, rfl⟩ := ft_u8 h
  exact ⟨a.toBitVec, trivial, rfl⟩
theorem ft_u16 {ls : List Lf} (h : Fits (.int .u16) ls) : ∃ a : BitVec 16, True ∧ ls = eU16 a := by
  obtain ⟨n, hw, rfl⟩ := h
  obtain ⟨h1, h2⟩ := lit_un hw
  simp [IntKind.min, IntKind.max, IntKind.bits, IntKind.signed] at h1 h2
  refine ⟨BitVec.ofNat 16 n.toNat, trivial, ?_⟩
  show _ = [Lf.i .u16 _]
  rw [show ((BitVec.ofNat 16 n.toNat).toNat : Int) = n by rw [BitVec.toNat_ofNat]; omega]
theorem ft_u32 {ls : List Lf} (h : Fits (.int .u32) ls) : ∃ a : BitVec 32, True ∧ ls = eU32 a := by
  obtain ⟨n, hw, rfl⟩ := h
  obtain ⟨h1, h2⟩ := lit_un hw
  simp [IntKind.min, IntKind.max, IntKind.bits, IntKind.signed] at h1 h2
  refine ⟨BitVec.ofNat 32 n.toNat, trivial, ?_⟩
  show _ = [Lf.i .u32 _]
  rw [show ((BitVec.ofNat 32 n.toNat).toNat : Int) = n by rw [BitVec.toNat_ofNat]; omega]
theorem ft_u64 {ls : List Lf} (h : Fits (.int .u64) ls) : ∃ a : BitVec 64, True ∧ ls = eU64 a := by
  obtain ⟨n, hw, rfl⟩ := h
  obtain ⟨h1, h2⟩ := lit_un hw
  simp [IntKind.min, IntKind.max, IntKind.bits, IntKind.signed] at h1 h2
  refine ⟨BitVec.ofNat 64 n.toNat, trivial, ?_⟩
  show _ = [Lf.i .u64 _]
  rw [show ((BitVec.ofNat 64 n.toNat).toNat : Int) = n by rw [BitVec.toNat_ofNat]; omega]
theorem ft_bool {ls : List Lf} (h : Fits .bool ls) : ∃ b : Bool, True ∧ ls = eB b := by
  obtain ⟨b, rfl⟩ := h
  exact ⟨b, trivial, rfl⟩
theorem ft_str {ls : List Lf} (h : Fits .str ls) : ∃ s : List UInt8, s.length ≤ maxLen ∧ ls = eS s := by
  obtain ⟨s, hs, rfl⟩ := h
  exact ⟨s.data.toList, by simpa using hs, by simp [eS]⟩
theorem ft_sl {α : Type} {e : Sh} {f : α → List Lf} {Q : α → Prop} (he : ∀ {r}, Fits e r → ∃ x, Q x ∧ r = f x) {ls : List Lf} (h : Fits (.sl e) ls) : ∃ xs : List α, (xs.length ≤ maxLen ∧ ∀ x ∈ xs, Q x) ∧ ls = eL f xs := by
  obtain ⟨rows, hl, hr, rfl⟩ := h
  have : ∃ xs : List α, (∀ x ∈ xs, Q x) ∧ rows = xs.map f := by
    clear hl
    induction rows with
    | nil => exact ⟨[], fun _ h => by simp at h, rfl⟩
    | cons r rs ih =>
      obtain ⟨x, hq, hx⟩ := he (hr r (List.mem_cons_self ..))
      obtain ⟨xs, hqs, hxs⟩ := ih (fun r h => hr r (List.mem_cons_of_mem _ h))
      exact ⟨x :: xs, fun y hy => by rcases List.mem_cons.1 hy with rfl | hy; exact hq; exact hqs y hy, by rw [hx, hxs]; rfl⟩
  obtain ⟨xs, hq, rfl⟩ := this
  exact ⟨xs, ⟨by simpa using hl, hq⟩, by rw [eL, List.flatMap, List.length_map]⟩
end Go.Proofs.Ytoajiidocnoopaa.Abs

/-
  How rounds are reckoned with.
-/
namespace Go.Proofs.Ytoajiidocnoopaa.Abs

theorem wI_id {n : Int} (h1 : -9223372036854775808 ≤ n) (h2 : n ≤ 9223372036854775807) : wI n = n := by
  unfold wI IntKind.wrap
  simp [IntKind.bits, IntKind.signed]
  omega
theorem lt_fuel {n : Nat} (h : n ≤ 1000000000000000000) : n < fuel := by unfold fuel; omega
theorem idx_nat {α : Type} (xs : List α) (i : Nat) : idx xs (i : Int) = xs[i]? := by
  unfold idx
  rw [if_pos (Int.natCast_nonneg i), Int.toNat_natCast]
theorem idx_get {α : Type} {xs : List α} {j : Int} (h0 : 0 ≤ j) (h1 : j < xs.length) : ∃ x, idx xs j = some x ∧ xs[j.toNat]? = some x := by
  have h : j.toNat < xs.length := by omega
  exact ⟨xs[j.toNat], by unfold idx; rw [if_pos h0, List.getElem?_eq_getElem h], List.getElem?_eq_getElem h⟩
theorem idx_of {α : Type} {xs : List α} {j : Int} {x : α} (h0 : 0 ≤ j) (h : xs[j.toNat]? = some x) : idx xs j = some x := by
  unfold idx
  rw [if_pos h0, h]
theorem cut_of {α : Type} {xs : List α} {lo hi : Int} (h0 : 0 ≤ lo) (h1 : lo ≤ hi) (h2 : hi ≤ xs.length) : cut xs lo hi = some ((xs.drop lo.toNat).take (hi.toNat - lo.toNat)) := by
  unfold cut
  rw [if_pos ⟨h0, h1, h2⟩]

theorem iterB_inv {σ β : Type} {f : σ → Option (LB σ β)} {P : σ → Prop} {μ : σ → Nat} {R : β → Prop}
    (h : ∀ s, P s → (∃ s', f s = some (.cont s') ∧ P s' ∧ μ s' < μ s) ∨ ∃ b, f s = some (.brk b) ∧ R b) : ∀ (n : Nat) (s : σ), P s → μ s < n → ∃ b, iterB f n s = some b ∧ R b
  | 0, s, _, hm => by omega
  | n + 1, s, hp, hm => by
    rcases h s hp with ⟨s', hf, hp', hlt⟩ | ⟨b, hf, hr⟩
    · obtain ⟨b, hb, hr⟩ := iterB_inv h n s' hp' (by omega)
      exact ⟨b, by rw [iterB, hf]; exact hb, hr⟩
    · exact ⟨b, by rw [iterB, hf], hr⟩
theorem iter_inv {σ β ρ : Type} {f : σ → Option (LR σ β ρ)} {P : σ → Prop} {μ : σ → Nat} {R : Sum ρ β → Prop}
    (h : ∀ s, P s → (∃ s', f s = some (.cont s') ∧ P s' ∧ μ s' < μ s) ∨ (∃ b, f s = some (.brk b) ∧ R (.inr b)) ∨ ∃ r, f s = some (.ret r) ∧ R (.inl r)) : ∀ (n : Nat) (s : σ), P s → μ s < n → ∃ b, iter f n s = some b ∧ R b
  | 0, s, _, hm => by omega
  | n + 1, s, hp, hm => by
    rcases h s hp with ⟨s', hf, hp', hlt⟩ | ⟨b, hf, hr⟩ | ⟨b, hf, hr⟩
    · obtain ⟨b, hb, hr⟩ := iter_inv h n s' hp' (by omega)
      exact ⟨b, by rw [iter, hf]; exact hb, hr⟩
    · exact ⟨.inr b, by rw [iter, hf], hr⟩
    · exact ⟨.inl b, by rw [iter, hf], hr⟩

/-- A loop over a row, told as a fold. -/
theorem iterB_fold {α σ β τ : Type} {f : τ → Option (LB τ β)} (st : σ → Nat → τ) (xs : List α) (g : σ → α → σ) (out : σ → β) (hl : xs.length < 1000000000000000000000000)
    (h1 : ∀ acc i x, xs[i]? = some x → f (st acc i) = some (.cont (st (g acc x) (i + 1)))) (h2 : ∀ acc, f (st acc xs.length) = some (.brk (out acc))) (a0 : σ) : iterB f fuel (st a0 0) = some (out (xs.foldl g a0)) := by
  have key : ∀ (k i : Nat) (acc : σ) (n : Nat), k + i = xs.length → k < n → iterB f n (st acc i) = some (out ((xs.drop i).foldl g acc)) := by
    intro k
    induction k with
    | zero =>
      intro i acc n hi hn
      obtain ⟨m, rfl⟩ : ∃ m, n = m + 1 := ⟨n - 1, by omega⟩
      have : i = xs.length := by omega
      subst this
      rw [iterB, h2, List.drop_length]
      rfl
    | succ k ih =>
      intro i acc n hi hn
      obtain ⟨m, rfl⟩ : ∃ m, n = m + 1 := ⟨n - 1, by omega⟩
      have hlt : i < xs.length := by omega
      rw [iterB, h1 acc i xs[i] (List.getElem?_eq_getElem hlt), List.drop_eq_getElem_cons hlt, List.foldl_cons]
      exact ih (i + 1) _ m (by omega) (by omega)
  have := key xs.length 0 a0 fuel (by omega) hl
  rwa [List.drop_zero] at this
end Go.Proofs.Ytoajiidocnoopaa.Abs

