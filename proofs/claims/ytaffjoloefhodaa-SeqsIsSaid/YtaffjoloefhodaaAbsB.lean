/-
  A walk over abstract states: its rules, part B.
-/
import Derived.Test.YtaffjoloefhodaaAbsA
import Derived.Orders
/-
  append, make, literals, cuts, conversions, over abstract states.
-/
namespace Go.Proofs.Ytaffjoloefhodaa.Abs
open Go.RowKit

/-- The element type's row of the table. -/
structure EI (P : Program) (e sz bytes : Nat) (zl : List Lf) : Prop where
  h : ∃ i z, P.info? e = some i ∧ i.zero = some z ∧ i.size = sz ∧ i.bytes = bytes ∧ z.cells.size = sz ∧ z.cells.toList.map clf = zl ∧ z.cells.all (·.oneCell') = true
  p : 0 < sz

/-- The second argument's type is no integer type ('append(s, make(..)...)' has a form of its own). -/
structure NI (P : Program) (t : TypeId) : Prop where
  h : (∃ e, P.underlying t = some (.slice e)) ∨ P.underlying t = some .string

/-- What is appended. -/
structure Src (P : Program) (w : World) (y : Value) (size m : Nat) (news : List Value) : Prop where
  len : ∀ w1, (Builtin.lenOf y).run P w1 = .ok m w1
  cells : ∀ w1 : World, (∀ a, w1.cell? a = w.cell? a) → (Builtin.firstCells size m y).run P w1 = .ok news.toArray w1

section run
variable {P : Program} {w : World} {t t2 ty e : TypeId} {i : TypeInfo} {z y : Value} {n cap m : Nat} {news : List Value}

theorem run_app_zero {base : Option Addr} {size : Nat} (ht : P.underlying t = some (.slice e)) (hi : P.info? e = some i) (hz : i.size = size) (h2 : NI P t2) (hs : Src P w y size 0 []) (hc : n ≤ cap) :
    (Builtin.append_ #[t, t2] ty #[.slice base n cap, y]).run P w = .ok (.slice base n cap) w := by
  subst hz
  have h1 := hs.len w
  have h3 := hs.cells w (fun _ => rfl)
  rcases h2.h with ⟨e2, hu2⟩ | hu2
  · cases base with
    | none => simp [Builtin.append_, run_underlying ht, run_underlying hu2, sizeOf, typeInfo, hi, h1, h3, hc]
    | some a => simp [Builtin.append_, run_underlying ht, run_underlying hu2, sizeOf, typeInfo, hi, h1, h3, hc, storeCells]
  · cases base with
    | none => simp [Builtin.append_, run_underlying ht, run_underlying hu2, sizeOf, typeInfo, hi, h1, h3, hc]
    | some a => simp [Builtin.append_, run_underlying ht, run_underlying hu2, sizeOf, typeInfo, hi, h1, h3, hc, storeCells]

theorem run_app_room {g : Nat} {cur : Array Value} (ht : P.underlying t = some (.slice e)) (hi : P.info? e = some i) (h2 : NI P t2) (hs : Src P w y i.size m news) (hg : w.heap[g]? = some (.cells cur e (0, 0)))
    (h1 : ∀ u ∈ news, u.oneCell' = true) (hroom : n + m ≤ cap) (hfit : n * i.size + news.length ≤ cur.size) :
    (Builtin.append_ #[t, t2] ty #[.slice (some ⟨g, 0, none⟩) n cap, y]).run P w =
      .ok (.slice (some ⟨g, 0, none⟩) (n + m) cap) (w.setRow g (cur.toList.take (n * i.size) ++ news ++ cur.toList.drop (n * i.size + news.length)).toArray) := by
  have hl := hs.len w
  have hf := hs.cells w (fun _ => rfl)
  have hst := run_storeCells_at P g (n * i.size) e news 0 cur w hg (by simpa using hfit) h1
  simp only [Nat.add_zero] at hst
  rcases h2.h with ⟨e2, hu2⟩ | hu2
  · simp [Builtin.append_, run_underlying ht, run_underlying hu2, sizeOf, typeInfo, hi, hl, hroom, hf, Addr.add_lit, hst]
  · simp [Builtin.append_, run_underlying ht, run_underlying hu2, sizeOf, typeInfo, hi, hl, hroom, hf, Addr.add_lit, hst]

theorem run_app_grow {base : Option Addr} {olds : List Value} (ht : P.underlying t = some (.slice e)) (hi : P.info? e = some i) (hz : i.zero = some z) (h2 : NI P t2) (hs : Src P w y i.size m news)
    (ho : ∀ w1 : World, (∀ a, w1.cell? a = w.cell? a) → (Builtin.firstCells i.size n (.slice base n cap)).run P w1 = .ok olds.toArray w1)
    (hg : cap < n + m) (h63 : ((n + m : Nat) : Int) ≤ 9223372036854775807) (hfit : Builtin.nextslicecap (n + m) cap * i.bytes ≤ 281474976710656) :
    (Builtin.append_ #[t, t2] ty #[.slice base n cap, y]).run P w =
      .ok (.slice (some ⟨w.heap.size, 0, none⟩) (n + m) (grownCap w (n + m) cap e)) (w.drew.alloc (.cells (olds.toArray ++ news.toArray ++ Builtin.zeroCells z.cells (grownCap w (n + m) cap e - (n + m))) e)) := by
  have hl := hs.len w
  have hn : ¬ (n + m ≤ cap) := by omega
  have h63' : ¬ (9223372036854775807 < ((n : Int) + (m : Int))) := by omega
  have h48' : ¬ (281474976710656 < Builtin.nextslicecap (n + m) cap * i.bytes) := by omega
  have hf := hs.cells w.drew (fun _ => rfl)
  have hfo := ho w.drew (fun _ => rfl)
  rcases h2.h with ⟨e2, hu2⟩ | hu2
  · simp [Builtin.append_, run_underlying ht, run_underlying hu2, sizeOf, typeInfo, zeroValue, hi, hz, hl, hn, h63', h48', Question.forced, hf, hfo, newRow, grownCap]
    congr 2
    apply Array.ext'
    simp [List.append_assoc]
  · simp [Builtin.append_, run_underlying ht, run_underlying hu2, sizeOf, typeInfo, zeroValue, hi, hz, hl, hn, h63', h48', Question.forced, hf, hfo, newRow, grownCap]
    congr 2
    apply Array.ext'
    simp [List.append_assoc]
end run

theorem LsR.append {R : Lf → Value → Prop} {a b : List Lf} {x y : List Value} (h : LsR R a x) (k : LsR R b y) : LsR R (a ++ b) (x ++ y) := by
  refine ⟨by simp [h.1, k.1], fun j l v h1 h2 => ?_⟩
  by_cases hj : j < a.length
  · rw [List.getElem?_append_left hj] at h1
    rw [List.getElem?_append_left (by rw [← h.1]; exact hj)] at h2
    exact h.2 j l v h1 h2
  · rw [List.getElem?_append_right (by omega)] at h1
    rw [List.getElem?_append_right (by rw [← h.1]; omega), ← h.1] at h2
    exact k.2 _ l v h1 h2

/-- What append makes of an own row. -/
theorem Rel.append {P : Program} {c : Ctx} {st : AS} {a : Act} {w : World} {S : Stab} {H : Nat → Value} (r : Rel c st a w S H) {t t2 ty e : TypeId} {sz bytes : Nat} {zl : List Lf} {p n m k : Nat} {cs ys : List Lf} {y : Value} {news : List Value}
    (ht : P.underlying t = some (.slice e)) (ei : EI P e sz bytes zl) (h2 : NI P t2) (hm : st.m[p]? = some (.arr e sz k cs)) (hn : n * sz = cs.length) (hs : Src P w y sz m news) (hy : ys.length = m * sz) (hls : LsR (Rep w S) ys news)
    (h63 : n + m ≤ maxLen) (hb : (n + m) * bytes ≤ 140737488355328) :
    ∃ v' w' S' H', (Builtin.append_ #[t, t2] ty #[H p, y]).run P w = .ok v' w' ∧ Rel c ⟨st.t, st.m.set p (.arr e sz k (cs ++ ys))⟩ a w' S' H' ∧ H' p = v' := by
  obtain ⟨i, z, hi, hz, hsize, hbytes, hzs, hzl, hzo⟩ := ei.h
  have hp : p < st.m.length := (List.getElem?_eq_some_iff.1 hm).1
  obtain ⟨hsz, hk, n0, vals, hown, hcs, hstb⟩ := r.bl p _ hm
  have hnn : n0 = n := ownsRow_n hown hsz (by rw [← hcs.1]; exact hn)
  subst hnn
  have hnl : news.length = m * sz := by rw [← hls.1, hy]
  have hone : ∀ u ∈ news, u.oneCell' = true := by
    intro u hu
    obtain ⟨j, hj, hju⟩ := List.getElem_of_mem hu
    have hj' : j < ys.length := by rw [hls.1]; exact hj
    exact Rep.oneCell (hls.2 j _ u (List.getElem?_eq_getElem hj') (by rw [List.getElem?_eq_getElem hj, hju]))
  subst hsize
  subst hbytes
  have hset : ∀ v, (v = H p) → setH H p v = H := fun v hv => by
    funext q
    by_cases e' : q = p
    · rw [e', setH_same]; exact hv
    · exact setH_other H _ e'
  by_cases hm0 : m = 0
  · subst hm0
    have h1 : news = [] := List.eq_nil_of_length_eq_zero (by rw [hnl, Nat.zero_mul])
    have h1' : ys = [] := List.eq_nil_of_length_eq_zero (by rw [hy, Nat.zero_mul])
    subst h1; subst h1'
    have hsame : st.m.set p (.arr e i.size k (cs ++ [])) = st.m := by
      rw [List.append_nil]
      apply List.ext_getElem?
      intro q
      by_cases e' : p = q
      · subst e'; rw [List.getElem?_set_self hp, hm]
      · rw [List.getElem?_set_ne e']
    refine ⟨H p, w, S, H, ?_, by rw [hsame]; exact r, rfl⟩
    rcases hown.2 with ⟨hv, h0⟩ | ⟨g, cap, cur, hv, _, _, hnc, _, _, _⟩
    · rw [hv]; exact run_app_zero (n := 0) ht hi rfl h2 hs (Nat.le_refl _)
    · rw [hv]; exact run_app_zero ht hi rfl h2 hs hnc
  have hmpos : 0 < m := Nat.pos_of_ne_zero hm0
  have hyspos : 0 < ys.length := by rw [hy]; exact Nat.mul_pos hmpos hsz
  -- what a new block, behind the old ones, makes of it
  have grow : ∀ (olds : List Value) (old : Nat), olds = vals → old < n0 + m → ownOf (H p) ≠ some w.heap.size →
      ∃ S' H', Rel c ⟨st.t, st.m.set p (.arr e i.size k (cs ++ ys))⟩ a (w.drew.alloc (.cells (olds.toArray ++ news.toArray ++ Builtin.zeroCells z.cells (grownCap w (n0 + m) old e - (n0 + m))) e)) S' H' ∧
        H' p = .slice (some ⟨w.heap.size, 0, none⟩) (n0 + m) (grownCap w (n0 + m) old e) := by
    intro olds old ho hold _
    subst ho
    have hge := grownCap_ge w (n0 + m) old e
    have hcm : grownCap w (n0 + m) old e ≤ maxLen := grownCap_le_maxLen w (n0 + m) old e h63
    generalize hcap : grownCap w (n0 + m) old e = cap' at *
    have hlen : (olds ++ news).length = (n0 + m) * i.size := by rw [List.length_append, hown.1, hnl, Nat.add_mul]
    have hfr := r.fresh (g := w.heap.size) (Nat.le_refl _)
    let S' : Stab := fun b j => S b j ∨ (b = w.heap.size ∧ j < k)
    have hkeep : ∀ b j, S b j → S' b j ∧ (w.drew.alloc (.cells (olds.toArray ++ news.toArray ++ Builtin.zeroCells z.cells (cap' - (n0 + m))) e)).cell? ⟨b, j, none⟩ = w.cell? ⟨b, j, none⟩ :=
      fun b j h => ⟨.inl h, World.cell?_alloc_lt w.drew _ ⟨b, j, none⟩ (r.sl b j h)⟩
    have hown' : (w.drew.alloc (.cells (olds.toArray ++ news.toArray ++ Builtin.zeroCells z.cells (cap' - (n0 + m))) e)).ownsRow c.w0.heap.size e i.size (.slice (some ⟨w.heap.size, 0, none⟩) (n0 + m) cap') (n0 + m) (olds ++ news) := by
      refine ⟨hlen, .inr ⟨w.heap.size, cap', _, rfl, r.ex.size, heap_alloc_new w.drew _, hge, hcm, ?_, ?_⟩⟩
      · simp only [Array.size_append, List.size_toArray, size_zeroCells, hzs, hown.1, hnl, ← Nat.add_mul]
        congr 1
        omega
      · simp only [Array.toList_append, List.append_assoc]
        rw [← List.append_assoc, ← hlen]
        exact List.take_left
    refine ⟨S', setH H p (.slice (some ⟨w.heap.size, 0, none⟩) (n0 + m) cap'), ?_, setH_same H p _⟩
    refine r.change (b' := .arr e i.size k (cs ++ ys)) (by simp) (by rw [List.getElem?_set_self hp]) (fun q hq => List.getElem?_set_ne (fun e => hq e.symm)) hkeep (fun g _ hg => ?_)
      (fun e' sz' k' cs' _ h => by cases h; exact ⟨k, cs, hm, .inr (by simp; omega)⟩) (fun g hg _ => Below.heap_alloc w.drew _ g hg) ?_ (fun g hg => ?_) (fun q b g j hq hb ho hs => ?_) (fun g j hg hs => ?_) (fun b j hs => ?_) (by simp) rfl rfl rfl
    · rcases hown.2 with ⟨hv, _⟩ | ⟨g', cap, cur, hv, _⟩
      · rw [hv] at hg; cases hg
      · rw [hv] at hg; cases hg
    · refine ⟨hsz, by simp; omega, n0 + m, olds ++ news, hown', (LsR.append hcs hls).mono (fun l v => Rep.mono hkeep), fun g hg j hj => ?_⟩
      simp only [ownOf, Option.some.injEq] at hg
      exact .inr ⟨hg.symm, hj⟩
    · simp only [Blk.own, ownOf, Option.some.injEq] at hg
      subst hg
      refine ⟨r.ex.size, by simp, fun q b _ hb => hfr.1 q b hb, fun j hj => ?_⟩
      rcases hj with hj | hj
      · exact absurd hj (hfr.2 j)
      · exact hj.2
    · rcases hs with hs | hs
      · exact hs
      · have := (r.lo q b g hb ho).2; omega
    · rcases hs with hs | hs
      · exact hs
      · have := r.ex.size; omega
    · rcases hs with hs | hs
      · have := r.sl b j hs; simp; omega
      · rw [hs.1]; simp
  have h63' : ((n0 + m : Nat) : Int) ≤ 9223372036854775807 := by simp only [maxLen] at h63; omega
  rcases hown.2 with ⟨hv, h0⟩ | ⟨g, cap, cur, hv, hbg, hg, hnc, hcm, hcsz, htake⟩
  · subst h0
    have hvals : vals = [] := List.eq_nil_of_length_eq_zero (by simpa using hown.1)
    obtain ⟨S', H', hr, hH⟩ := grow [] 0 hvals.symm (by omega) (by rw [hv]; simp [ownOf])
    refine ⟨_, _, S', H', ?_, hr, hH⟩
    rw [hv]
    exact run_app_grow (n := 0) (cap := 0) ht hi hz h2 hs (fun w1 _ => by simp [Builtin.firstCells]) (by omega) h63' (growslice_fits (by omega) hb)
  · by_cases hroom : n0 + m ≤ cap
    · have hfit : n0 * i.size + news.length ≤ cur.size := by rw [hnl, hcsz, ← Nat.add_mul]; exact Nat.mul_le_mul_right _ hroom
      have hrun := run_app_room (ty := ty) (n := n0) (cap := cap) ht hi h2 hs hg hone hroom hfit
      have hrow := setRow_heap w g cur (cur.toList.take (n0 * i.size) ++ news ++ cur.toList.drop (n0 * i.size + news.length)).toArray e _ hg
      have hoth : ∀ q, q ≠ g → (w.setRow g (cur.toList.take (n0 * i.size) ++ news ++ cur.toList.drop (n0 * i.size + news.length)).toArray).heap[q]? = w.heap[q]? := fun q hq => setRow_other w g q _ hq
      have hownp : (Blk.arr e i.size k cs).own (H p) = some g := by rw [hv]; rfl
      have hcl : cs.length = n0 * i.size := hn.symm
      have hkeep : ∀ b j, S b j → S b j ∧ (w.setRow g (cur.toList.take (n0 * i.size) ++ news ++ cur.toList.drop (n0 * i.size + news.length)).toArray).cell? ⟨b, j, none⟩ = w.cell? ⟨b, j, none⟩ := by
        intro b j hS
        refine ⟨hS, ?_⟩
        by_cases hbg' : b = g
        · subst hbg'
          have hj : j < cs.length := Nat.lt_of_lt_of_le (r.sb p _ b j hm hownp hS) hk
          rw [cell_of_row _ b j _ e (0, 0) hrow, cell_of_row w b j cur e (0, 0) hg]
          have := getElem?_putAt cur.toList news (n0 * i.size) j hfit
          rw [if_pos (by omega)] at this
          simpa using this
        · exact World.cell?_of_block (w := w) (hoth b hbg')
      refine ⟨_, _, S, setH H p (.slice (some ⟨g, 0, none⟩) (n0 + m) cap), by rw [hv]; exact hrun, ?_, setH_same H p _⟩
      have hlen : (vals ++ news).length = (n0 + m) * i.size := by rw [List.length_append, hown.1, hnl, Nat.add_mul]
      have hown' : (w.setRow g (cur.toList.take (n0 * i.size) ++ news ++ cur.toList.drop (n0 * i.size + news.length)).toArray).ownsRow c.w0.heap.size e i.size (.slice (some ⟨g, 0, none⟩) (n0 + m) cap) (n0 + m) (vals ++ news) := by
        refine ⟨hlen, .inr ⟨g, cap, _, rfl, hbg, hrow, hroom, hcm, ?_, ?_⟩⟩
        · simp only [List.size_toArray, List.length_append, List.length_take, List.length_drop, Array.length_toList]; omega
        · rw [htake, ← hlen]; exact List.take_left
      refine r.change (b' := .arr e i.size k (cs ++ ys)) (by simp) (by rw [List.getElem?_set_self hp]) (fun q hq => List.getElem?_set_ne (fun e => hq e.symm)) hkeep (fun g' _ hg' => by rw [hv] at hg'; cases hg')
        (fun e' sz' k' cs' _ h => by cases h; exact ⟨k, cs, hm, .inr (by simp; omega)⟩) (fun g' _ hne => hoth g' (fun e' => hne _ hm (by rw [e']; exact hownp))) ?_ (fun g' hg' => ?_) (fun q b g' j _ _ _ hs => hs) (fun g' j _ hs => hs) (fun b j hs => by simp; exact r.sl b j hs) (by simp) rfl rfl rfl
      · refine ⟨hsz, by simp; omega, n0 + m, vals ++ news, hown', (LsR.append hcs hls).mono (fun l v => Rep.mono hkeep), fun g' hg' j hj => ?_⟩
        simp only [ownOf, Option.some.injEq] at hg'
        subst hg'
        exact hstb _ hownp j hj
      · simp only [Blk.own, ownOf, Option.some.injEq] at hg'
        subst hg'
        refine ⟨hbg, by simp; exact (r.lo p _ g hm hownp).2, fun q b hq hb ho => hq (r.inj q p b _ g hb hm ho hownp), fun j hj => (r.sb p _ g j hm hownp hj : j < k)⟩
    · have hne : ownOf (H p) ≠ some w.heap.size := by
        rw [hv]
        simp only [ownOf, ne_eq, Option.some.injEq]
        have := (Array.getElem?_eq_some_iff.1 hg).1
        omega
      obtain ⟨S', H', hr, hH⟩ := grow vals cap rfl (by omega) hne
      refine ⟨_, _, S', H', ?_, hr, hH⟩
      rw [hv]
      refine run_app_grow ht hi hz h2 hs (fun w1 hw1 => ?_) (by omega) h63' (growslice_fits (by omega) hb)
      exact run_firstCells_some w1 i.size n0 ⟨g, 0, none⟩ n0 cap vals hown.1 (fun j v hv' => by rw [hw1]; exact hown.cells (g := g) (by rw [hv]; rfl) j v hv')

/-- What may be appended: a slice that stays; nil; a string. -/
inductive SrcOf (P : Program) : SV → Nat → Nat → List Lf → Prop
  | sl (sz n : Nat) (cs : List Lf) (h : cs.length = n * sz) : SrcOf P (.one (.sl n cs)) sz n cs
  | nil (sz : Nat) : SrcOf P (.one (.raw (.slice none 0 0))) sz 0 []
  | str (x : ByteArray) : SrcOf P (.one (.s x)) 1 x.size (x.data.toList.map fun b => .i .u8 b.toNat)

theorem SrcOf.src {P : Program} {w : World} {S : Stab} {x : SV} {sz m : Nat} {ys : List Lf} (h : SrcOf P x sz m ys) {v : Value} (hv : SVR (Rep w S) x v) : ∃ news, Src P w v sz m news ∧ ys.length = m * sz ∧ LsR (Rep w S) ys news := by
  match x, sz, m, ys, h with
  | _, _, _, _, .sl sz n cs h =>
    have hv' : Rep w S (.sl n cs) v := hv
    cases hv' with
    | sl0 a cap =>
      refine ⟨[], ⟨fun w1 => by simp [Builtin.lenOf], fun w1 _ => ?_⟩, h, rfl, fun j l v h => by simp at h⟩
      cases a <;> simp [Builtin.firstCells, loadCells, loadCellsFrom]
    | sl n cs bk off cap vals hc hm hs hr =>
      refine ⟨(List.range cs.length).map vals, ⟨fun w1 => by simp [Builtin.lenOf], fun w1 hw1 => ?_⟩, h, by simp, fun j l u h1 h2 => ?_⟩
      · refine run_firstCells_some w1 sz n ⟨bk, off, none⟩ n cap _ (by simpa using h) (fun j v hj => ?_)
        rw [List.getElem?_map] at hj
        have hjl : j < cs.length := by
          rcases Nat.lt_or_ge j cs.length with h | h
          · exact h
          · rw [List.getElem?_eq_none (by simpa using h)] at hj; cases hj
        rw [List.getElem?_range hjl] at hj
        cases hj
        rw [Addr.add_lit, hw1]
        exact (hs j _ (List.getElem?_eq_getElem hjl)).2
      · have hjl : j < cs.length := (List.getElem?_eq_some_iff.1 h1).1
        rw [List.getElem?_map, List.getElem?_range hjl] at h2
        cases h2
        exact hr j l h1
  | _, _, _, _, .nil sz =>
    have hv' : v = .slice none 0 0 := rep_raw hv
    subst hv'
    exact ⟨[], ⟨fun w1 => by simp [Builtin.lenOf], fun w1 _ => by simp [Builtin.firstCells]⟩, by simp, rfl, fun j l v h => by simp at h⟩
  | _, _, _, _, .str x =>
    have hv' : v = .string x := rep_s hv
    subst hv'
    refine ⟨x.data.toList.map fun b => .int .u8 b.toNat, ⟨fun w1 => by simp [Builtin.lenOf], fun w1 _ => ?_⟩, by simp, by simp, fun j l u h1 h2 => ?_⟩
    · have hx2 : (x.extract 0 x.size) = x := by simp
      simp only [Builtin.firstCells, Sem.run_pure, hx2]
      congr 1
      apply Array.ext'
      simp
    · rw [List.getElem?_map] at h1 h2
      cases hb : x.data.toList[j]? with
      | none => rw [hb] at h1; cases h1
      | some b =>
        rw [hb] at h1 h2
        cases h1; cases h2
        exact .i _ _

section
variable {P : Program} {c : Ctx} {st : AS} {ops : Array Oper} {Q : Exit → AS → Prop} {rest : List Oper} {ty : TypeId} {pos : String} {af : Array Edge} {d : Tmp}

theorem awl_append {x y : Operand} {t t2 e sz bytes p n m k : Nat} {zl cs ys : List Lf} {yv yv' : SV} {m' : List Blk} (si : P.underlying t = some (.slice e)) (ei : EI P e sz bytes zl) (h2 : NI P t2) (hx : opnd st x = .s (.one (.ls p n))) (hy : opnd st y = .s yv)
    (hp : PubV st.m yv yv' m') (hm : m'[p]? = some (.arr e sz k cs)) (hn : n * sz = cs.length) (hsrc : SrcOf P yv' sz m ys) (h63 : n + m ≤ maxLen) (hb : (n + m) * bytes ≤ 140737488355328) (hd : d < c.nt)
    (kk : AWL P c ops Q rest ⟨Go.Proofs.Ytaffjoloefhodaa.Abs.upd st.t d (.s (.one (.ls p (n + m)))), m'.set p (.arr e sz k (cs ++ ys))⟩) :
    AWL P c ops Q (⟨some d, .call { callee := .builtin .append, args := #[x, y], argTypes := #[t, t2] }, ty, pos, af, none⟩ :: rest) st := by
  intro a w S H r
  have hy' := opnd_rel r y
  rw [hy] at hy'
  obtain ⟨S1, k1, g1⟩ := hp.keeps r
  have hyr := g1 _ hy'
  obtain ⟨news, hs, hyl, hls⟩ := hsrc.src hyr
  have hx' := opnd_rel r x
  rw [hx] at hx'
  have hx2 : GRep w S1 m' H (.ls p n) (a.eval x) := k1.gr _ _ hx'
  obtain ⟨hpl, _, hr⟩ := hx2
  have hH := (hr _ _ _ _ hm).2 hn
  obtain ⟨v', w', S', H', hrun, hrel, hHp⟩ := k1.rel.append (P := P) (ty := ty) si ei h2 hm hn hs hyl hls h63 hb
  refine wpList_plain rfl fun K hK => ?_
  unfold Oper.wp
  have hrun' : (execOp a.eval ⟨some d, .call { callee := .builtin .append, args := #[x, y], argTypes := #[t, t2] }, ty, pos, af, none⟩).run P w = .ok (.value v') w' := by
    simp [execOp, resolve, invoke, builtin, hH, hrun]
  rw [hrun']
  refine hK _ _ (kk _ _ _ _ (hrel.put (d := d) (x := .s (.one (.ls p (n + m)))) hd ?_))
  refine ⟨by simpa using hpl, ?_, fun e2 sz2 k2 cs2 hm2 => ?_⟩
  · rw [← hHp]
    obtain ⟨_, _, n', vals, hown, _⟩ := hrel.bl p _ (by show (m'.set p _)[p]? = some (.arr e sz k (cs ++ ys)); rw [List.getElem?_set_self hpl])
    rcases hown.2 with ⟨hv, _⟩ | ⟨g, cap, cur, hv, _⟩ <;> rw [hv] <;> rfl
  · have : (m'.set p (.arr e sz k (cs ++ ys)))[p]? = some (.arr e2 sz2 k2 cs2) := hm2
    rw [List.getElem?_set_self hpl] at this
    cases this
    exact ⟨by rw [List.length_append, hyl, Nat.add_mul, hn]; exact Nat.le_refl _, fun _ => hHp.symm⟩
end
end Go.Proofs.Ytaffjoloefhodaa.Abs

/-
  make, literals, stores into own rows, cuts, conversions, over abstract states.
-/
namespace Go.Proofs.Ytaffjoloefhodaa.Abs
open Go.RowKit

/-- So many cells of zeros. -/
def mkLs (zl : List Lf) (n : Nat) : List Lf := (List.range n).map fun j => zl.getD (j % zl.length) default

theorem mkLs_one (z : Lf) (n : Nat) : mkLs [z] n = List.replicate n z := by
  apply List.ext_getElem?
  intro j
  by_cases h : j < n <;> simp [mkLs, h, Nat.mod_one]

theorem mkLs_length (zl : List Lf) (n : Nat) : (mkLs zl n).length = n := by simp [mkLs]

theorem made_rep {w : World} {S : Stab} {z : Value} (hz : 0 < z.cells.size) (hzo : z.cells.all (·.oneCell') = true) (a b : Nat) (h : a ≤ b) : LsR (Rep w S) (mkLs (z.cells.toList.map clf) a) ((madeCells z.cells b).toList.take a) := by
  refine ⟨by simp [mkLs, size_madeCells]; omega, fun j l v h1 h2 => ?_⟩
  have hj : j < a := by
    have := (List.getElem?_eq_some_iff.1 h1).1
    rwa [mkLs_length] at this
  have hm : j % z.cells.size < z.cells.size := Nat.mod_lt _ hz
  have e1 : l = clf z.cells[j % z.cells.size] := by
    simp [mkLs, hj, List.getD, hm] at h1
    exact h1.symm
  have e2 : v = z.cells[j % z.cells.size] := by
    rw [List.getElem?_take, if_pos hj] at h2
    have hjb : j < b := Nat.lt_of_lt_of_le hj h
    simp [madeCells, hjb] at h2
    rw [← h2]
    rw [getElem!_pos z.cells _ hm]
  subst e1; subst e2
  refine clf_rep ?_
  rw [Array.all_eq_true'] at hzo
  exact hzo _ (Array.getElem_mem hm)

section
variable {P : Program} {c : Ctx} {st : AS} {ops : Array Oper} {Q : Exit → AS → Prop} {rest : List Oper} {ty : TypeId} {pos : String} {af : Array Edge} {d : Tmp}

/-- A temporary is made known to all. -/
theorem awl_pub {l : List Oper} (i : Nat) {x y : SV} {m' : List Blk} (hx : st.t i = .s x) (hp : PubV st.m x y m') (k : AWL P c ops Q l ⟨Go.Proofs.Ytaffjoloefhodaa.Abs.upd st.t i (.s y), m'⟩) : AWL P c ops Q l st := by
  intro a w S H r
  obtain ⟨S', k1, g1⟩ := hp.keeps r
  have h := r.tm i
  rw [hx] at h
  have hy := g1 _ h
  have r' := k1.rel
  refine k a w S' H ⟨r'.nt, r'.df, fun j => ?_, r'.bl, r'.lo, r'.inj, r'.sb, r'.sl, r'.ex⟩
  show AVR _ (Go.Proofs.Ytaffjoloefhodaa.Abs.upd st.t i _ j) _
  rw [upd_def]
  by_cases e : j = i
  · subst e; rw [if_pos rfl]; exact SVR.mono (fun _ _ => GRep.of_rep) hy
  · rw [if_neg e]; exact r'.tm j

theorem awl_newArr {op : Op} {e sz : Nat} {cs : List Lf} {n : Nat} (hsz : 0 < sz) (hd : d < c.nt)
    (h : ∀ a w S H, Rel c st a w S H → ∃ v w' vals, (execOp a.eval ⟨some d, op, ty, pos, af, none⟩).run P w = .ok (.value v) w' ∧ Ext w S w' S ∧ InH w' S ∧ w'.ownsRow w.heap.size e sz v n vals ∧ LsR (Rep w' S) cs vals)
    (k : AWL P c ops Q rest ⟨Go.Proofs.Ytaffjoloefhodaa.Abs.upd st.t d (.s (.one (.ls st.m.length n))), st.m ++ [.arr e sz 0 cs]⟩) : AWL P c ops Q (⟨some d, op, ty, pos, af, none⟩ :: rest) st := by
  intro a w S H r
  obtain ⟨v, w', vals, hrun, hext, hin, hown, hls⟩ := h a w S H r
  refine wpList_plain rfl fun K hK => ?_
  unfold Oper.wp
  rw [hrun]
  have r' := r.ext hext hin
  have hown' : w'.ownsRow c.w0.heap.size e sz v n vals := by
    refine ⟨hown.1, ?_⟩
    rcases hown.2 with h | ⟨g, cap, cur, hv, hb, rest⟩
    · exact .inl h
    · exact .inr ⟨g, cap, cur, hv, Nat.le_trans r.ex.size hb, rest⟩
  have hv1 : v.oneCell' = true := by rcases hown.2 with ⟨hv, _⟩ | ⟨g, cap, cur, hv, _⟩ <;> rw [hv] <;> rfl
  have hr2 := r'.newArr hsz hown' hls (fun g hg => by
    have hge : w.heap.size ≤ g := by
      rcases hown.2 with ⟨hv, _⟩ | ⟨g', cap, cur, hv, hb, _⟩
      · rw [hv] at hg; cases hg
      · rw [hv] at hg; cases hg; exact hb
    exact ⟨fun q b hb ho => by have := (r.lo q b g hb ho).2; omega, fun i hs => by have := r.sl g i hs; omega⟩)
  refine hK _ _ (k _ _ _ _ (hr2.put (d := d) (x := .s (.one (.ls st.m.length n))) hd ?_))
  refine ⟨by simp, hv1, fun e2 sz2 k2 cs2 hm2 => ?_⟩
  simp at hm2
  obtain ⟨rfl, rfl, rfl, rfl⟩ := hm2
  have hn : n * sz = cs.length := by rw [← hown.1, hls.1]
  exact ⟨Nat.le_of_eq hn, fun _ => by rw [setH_same]⟩

theorem awl_make {t e sz bytes : Nat} {zl : List Lf} {x y : Operand} {kl kc : IntKind} {l cc : Int} (si : P.underlying t = some (.slice e)) (ei : EI P e sz bytes zl) (hx : opnd st x = .s (.one (.i kl l))) (hy : opnd st y = .s (.one (.i kc cc)))
    (h0 : 0 ≤ l) (h1 : l ≤ cc) (hb : (bytes : Int) * cc ≤ 281474976710656) (h63 : cc ≤ 9223372036854775807) (hd : d < c.nt)
    (k : AWL P c ops Q rest ⟨Go.Proofs.Ytaffjoloefhodaa.Abs.upd st.t d (.s (.one (.ls st.m.length l.toNat))), st.m ++ [.arr e sz 0 (mkLs zl (l.toNat * sz))]⟩) : AWL P c ops Q (⟨some d, .makeSlice t x y, ty, pos, af, none⟩ :: rest) st := by
  refine awl_newArr ei.p hd (fun a w S H r => ?_) k
  obtain ⟨i, z, hi, hz, hsize, hbytes, hzs, hzl, hzo⟩ := ei.h
  have hx' := opnd_rel r x
  rw [hx] at hx'
  have hy' := opnd_rel r y
  rw [hy] at hy'
  have ex : a.eval x = .int kl l := rep_i hx'
  have ey : a.eval y = .int kc cc := rep_i hy'
  subst hsize; subst hbytes; subst hzl
  have hrun := run_make (P := P) w t e i z si hi hz kl kc l cc h0 h1 hb h63
  have hle : l.toNat * i.size ≤ cc.toNat * i.size := Nat.mul_le_mul_right _ (by omega)
  refine ⟨.slice (some ⟨w.heap.size, 0, none⟩) l.toNat cc.toNat, w.alloc (.cells (madeCells z.cells (cc.toNat * i.size)) e), (madeCells z.cells (cc.toNat * i.size)).toList.take (l.toNat * i.size), by simp only [execOp, ex, ey, Sem.run_bind, hrun, Result.andThen_ok, Sem.run_pure], Ext.alloc w S _, fun b j hs => by have := r.sl b j hs; simp; omega, ?_, made_rep (by rw [hzs]; exact ei.p) hzo _ _ hle⟩
  refine ⟨by rw [List.length_take, Array.length_toList, size_madeCells, Nat.min_eq_left hle], .inr ⟨w.heap.size, cc.toNat, _, rfl, Nat.le_refl _, heap_alloc_new w _, by omega, by simp only [maxLen]; omega, size_madeCells _ _, rfl⟩⟩

/-! Literals -/

theorem foldl_put (cur : Array Value) (off : Nat) : ∀ (vs : List Value) (j : Nat) (cs : Array Value), off + j + vs.length ≤ cs.size →
    ((vs.zipIdx j).foldl (fun (cs : Array Value) (x : Value × Nat) => cs.setIfInBounds (off + x.2) x.1) cs).toList = cs.toList.take (off + j) ++ vs ++ cs.toList.drop (off + j + vs.length)
  | [], j, cs, _ => by simp
  | v :: vs, j, cs, h => by
    simp only [List.length_cons] at h
    rw [List.zipIdx_cons, List.foldl_cons, foldl_put cur off vs (j + 1) _ (by simp; omega)]
    have hlt : off + j < cs.toList.length := by simp; omega
    apply List.ext_getElem?
    intro i
    have hlen : off + (j + 1) + vs.length ≤ (cs.setIfInBounds (off + j) v).toList.length := by simp; omega
    have hlen2 : off + j + (v :: vs).length ≤ cs.toList.length := by simp; omega
    rw [getElem?_putAt _ vs (off + (j + 1)) i hlen, getElem?_putAt _ (v :: vs) (off + j) i hlen2]
    simp only [Array.toList_setIfInBounds, List.length_cons]
    by_cases h1 : i < off + j
    · rw [if_pos (by omega), if_pos h1, List.getElem?_set_ne (by omega)]
    · by_cases h2 : i = off + j
      · subst h2
        rw [if_pos (by omega), if_neg (by omega), if_pos (by omega), List.getElem?_set_self hlt]
        simp
      · by_cases h3 : i < off + j + (vs.length + 1)
        · rw [if_neg (by omega), if_pos (by omega), if_neg h1, if_pos h3]
          rw [show i - (off + j) = (i - (off + (j + 1))) + 1 by omega, List.getElem?_cons_succ]
        · rw [if_neg (by omega), if_neg (by omega), if_neg h1, if_neg h3, List.getElem?_set_ne (by omega)]

theorem foldl_put0 (off : Nat) (vs cs : Array Value) (h : off + vs.size ≤ cs.size) :
    (vs.zipIdx.foldl (fun (cs : Array Value) (x : Value × Nat) => cs.setIfInBounds (off + x.2) x.1) cs).toList = cs.toList.take off ++ vs.toList ++ cs.toList.drop (off + vs.toList.length) := by
  have := foldl_put cs off vs.toList 0 cs (by simpa using h)
  simp only [Nat.add_zero] at this
  rw [← this, ← Array.foldl_toList, Array.toList_zipIdx]

/-- A literal's parts laid into its zero value, one behind the other. -/
inductive Built (place : Nat → Option (Nat × Nat)) : List Lf → List (Nat × SV) → List Lf → Prop
  | nil (cs : List Lf) : Built place cs [] cs
  | cons (cs out : List Lf) (i off s : Nat) (x : SV) (rest : List (Nat × SV)) (hp : place i = some (off, s)) (hl : x.cells.length = s) (hb : off + s ≤ cs.length) (t : Built place (putAt cs off x.cells) rest out) : Built place cs ((i, x) :: rest) out

/-- The parts' operands. -/
def Parts (st : AS) : List (Nat × Operand) → List (Nat × SV) → Prop
  | [], xs => xs = []
  | (i, o) :: os, xs => ∃ x r, opnd st o = .s x ∧ Parts st os r ∧ xs = (i, x) :: r
theorem parts_nil : Parts st [] [] := rfl
theorem parts_cons {i : Nat} {o : Operand} {os : List (Nat × Operand)} {x : SV} {r : List (Nat × SV)} (h : opnd st o = .s x) (t : Parts st os r) : Parts st ((i, o) :: os) ((i, x) :: r) := ⟨x, r, h, t, rfl⟩

theorem built_run {R : Lf → Value → Prop} (hone : ∀ l v, R l v → v.oneCell' = true) {place : Nat → Option (Nat × Nat)} {cs out : List Lf} {xs : List (Nat × SV)} (hb : Built place cs xs out) :
    ∀ (cells : Array Value) (ps : List (Nat × Value)), LsR R cs cells.toList → xs.length = ps.length → (∀ (j : Nat) (x : Nat × SV) (p : Nat × Value), xs[j]? = some x → ps[j]? = some p → x.1 = p.1 ∧ SVR R x.2 p.2) →
      ∃ cells', Instr.fill place cells ps = some cells' ∧ LsR R out cells'.toList := by
  induction hb with
  | nil cs =>
    intro cells ps h hl _
    have : ps = [] := List.eq_nil_of_length_eq_zero hl.symm
    subst this
    exact ⟨cells, rfl, h⟩
  | cons cs out i off s x rest hp hl hbd _ ih =>
    intro cells ps h hlen hps
    cases ps with
    | nil => simp at hlen
    | cons p ps =>
      obtain ⟨e1, e2⟩ := hps 0 _ p rfl rfl
      have hx := svr_cells e2 hone
      have hsz : p.2.cells.size = s := by rw [← hl, hx.1]; simp
      have hcs : cells.size = cs.length := by rw [h.1]; simp
      have hput := foldl_put0 off p.2.cells cells (by rw [hsz, hcs]; exact hbd)
      have hnew : LsR R (putAt cs off x.cells) (p.2.cells.zipIdx.foldl (fun (cs : Array Value) (x : Value × Nat) => cs.setIfInBounds (off + x.2) x.1) cells).toList := by
        rw [hput]
        refine ⟨?_, fun j l v h1 h2 => ?_⟩
        · simp only [putAt, List.length_append, List.length_take, List.length_drop]
          rw [← hx.1, ← h.1]
        · unfold putAt at h1
          rw [getElem?_putAt cs x.cells off j (by rw [hl]; exact hbd)] at h1
          rw [getElem?_putAt cells.toList p.2.cells.toList off j (by rw [← hx.1, hl, ← h.1]; exact hbd)] at h2
          rw [← hx.1] at h2
          by_cases a1 : j < off
          · rw [if_pos a1] at h1 h2; exact h.2 j l v h1 h2
          · rw [if_neg a1] at h1 h2
            by_cases a2 : j < off + x.cells.length
            · rw [if_pos a2] at h1 h2; exact hx.2 _ l v h1 h2
            · rw [if_neg a2] at h1 h2; exact h.2 j l v h1 h2
      obtain ⟨cells', hf, hr⟩ := ih _ ps hnew (by simpa using hlen) (fun j y q h1 h2 => hps (j + 1) y q (by simpa using h1) (by simpa using h2))
      refine ⟨cells', ?_, hr⟩
      obtain ⟨pi, pv⟩ := p
      simp only at e1
      subst e1
      unfold Instr.fill
      simp only [hp]
      rw [if_neg (by simp only at hsz; rw [hsz, hcs]; simp; omega)]
      exact hf

theorem parts_rel {a : Act} {w : World} {S : Stab} {H : Nat → Value} (r : Rel c st a w S H) : ∀ {os : List (Nat × Operand)} {xs : List (Nat × SV)}, Parts st os xs →
    xs.length = (os.map fun x => (x.1, a.eval x.2)).length ∧ ∀ (j : Nat) (x : Nat × SV) (p : Nat × Value), xs[j]? = some x → (os.map fun x => (x.1, a.eval x.2))[j]? = some p → x.1 = p.1 ∧ SVR (GRep w S st.m H) x.2 p.2
  | [], xs, h => by cases h; exact ⟨rfl, fun j x p h => by simp at h⟩
  | (i, o) :: os, xs, h => by
    obtain ⟨x, rr, h1, h2, rfl⟩ := h
    have ih := parts_rel r h2
    have h0 := opnd_rel r o
    rw [h1] at h0
    refine ⟨by simp [ih.1], fun j y p hy hp => ?_⟩
    cases j with
    | zero => simp only [List.getElem?_cons_zero, List.map_cons, Option.some.injEq] at hy hp; subst hy; subst hp; exact ⟨rfl, h0⟩
    | succ j => exact ih.2 j y p (by simpa using hy) (by simpa using hp)

/-- A struct type's places. -/
structure PI (P : Program) (t : TypeId) (pl : List (Nat × Nat)) : Prop where
  h : ∃ fs, P.underlying t = some (.struct fs) ∧ fs.size = pl.length ∧ ∀ (j : Nat) (f : Field) (q : Nat × Nat), fs[j]? = some f → pl[j]? = some q → f.offset = q.1 ∧ (P.info? f.type).map (·.size) = some q.2

theorem run_mapM_arr {P : Program} {α β : Type} (f : α → Sem β) (w : World) (l : Array α) (vs : List β) (hl : l.size = vs.length) (h : ∀ (j : Nat) (x : α) (v : β), l[j]? = some x → vs[j]? = some v → (f x).run P w = .ok v w) : (l.mapM f).run P w = .ok vs.toArray w := by
  have := run_mapM_list (P := P) f w l.toList vs (by simpa using hl) (fun j x v h1 h2 => h j x v (by simpa using h1) h2)
  rw [Array.mapM_eq_mapM_toList]
  simp only [Sem.run_map, this, Result.andThen_ok]

theorem opv_build {t : TypeId} {zl out : List Lf} {pl : List (Nat × Nat)} {parts : Array (Nat × Operand)} {xs : List (Nat × SV)} (zi : ZI P t zl) (pi : PI P t pl) (hp : Parts st parts.toList xs) (hb : Built (fun i : Nat => pl[i]?) zl xs out) :
    OpV P c st (.build t parts) ty (.s (.agg out)) := by
  intro a w S H r
  obtain ⟨i, z, hi, hz, hl, ho⟩ := zi.h
  obtain ⟨fs, hu, hfl, hfs⟩ := pi.h
  have hpr := parts_rel r hp
  have hz0 : LsR (GRep w S st.m H) zl z.cells.toList := by rw [← hl]; exact clf_list ho
  obtain ⟨cells', hf, hr⟩ := built_run (fun l v => GRep.oneCell) hb z.cells _ hz0 hpr.1 hpr.2
  refine ⟨.agg cells', ⟨cells', rfl, hr⟩, fun _ _ _ _ => ?_⟩
  have hmap : (fs.mapM (fun f => do pure (f.offset, ← sizeOf f.type) : Field → Sem (Nat × Nat))).run P w = .ok pl.toArray w :=
    run_mapM_arr _ w fs pl hfl (fun j f q h1 h2 => by
      obtain ⟨e1, e2⟩ := hfs j f q h1 h2
      simp [run_sizeOf' e2, e1])
  have hfill : Instr.fill (fun j : Nat => pl.toArray[j]?) z.cells ((parts.map fun x => (x.1, a.eval x.2)).toList) = some cells' := by
    rw [Array.toList_map]
    have : (fun j : Nat => pl.toArray[j]?) = fun j : Nat => pl[j]? := by funext j; simp
    rw [this]
    exact hf
  simp only [execOp, Instr.build, Sem.run_bind, zeroValue, typeInfo, run_program, Result.andThen_ok, hi, hz, Sem.run_pure, run_underlying hu, hmap]
  rw [show (fun x : Nat × Operand => (x.1, a.eval x.2)) = (fun x => match x with | (i, x) => (i, a.eval x)) from rfl] at hfill
  simp only [hfill, Sem.run_pure, Result.andThen_ok]

end
end Go.Proofs.Ytaffjoloefhodaa.Abs

/-
  Slice literals, stores into own rows, cuts, conversions, over abstract states.
-/
namespace Go.Proofs.Ytaffjoloefhodaa.Abs
open Go.RowKit

section
variable {P : Program} {c : Ctx} {st : AS} {ops : Array Oper} {Q : Exit → AS → Prop} {rest : List Oper} {ty : TypeId} {pos : String} {af : Array Edge} {d : Tmp}

theorem built_length {place : Nat → Option (Nat × Nat)} {cs out : List Lf} {xs : List (Nat × SV)} (hb : Built place cs xs out) : out.length = cs.length := by
  induction hb with
  | nil cs => rfl
  | cons cs out i off s x rest hp hl hbd _ ih =>
    rw [ih]
    simp only [putAt, List.length_append, List.length_take, List.length_drop]
    omega

/-- '[]T{..}': an own row. The parts' values are made known before. -/
theorem awl_buildSlice {t e sz bytes len : Nat} {zl out : List Lf} {parts : Array (Nat × Operand)} {xs : List (Nat × SV)} (si : P.underlying t = some (.slice e)) (ei : EI P e sz bytes zl) (hp : Parts st parts.toList xs)
    (hpub : ∀ x ∈ xs, ∀ l ∈ x.2.cells, l.pubd = true) (hb : Built (fun i : Nat => some (i * sz, sz)) (mkLs zl (len * sz)) xs out) (hout : ∀ l ∈ out, l.pubd = true) (hlen : len * sz ≤ 16777216) (hd : d < c.nt)
    (k : AWL P c ops Q rest ⟨Go.Proofs.Ytaffjoloefhodaa.Abs.upd st.t d (.s (.one (.ls st.m.length len))), st.m ++ [.arr e sz 0 out]⟩) : AWL P c ops Q (⟨some d, .buildSlice t len parts, ty, pos, af, none⟩ :: rest) st := by
  have _ := hpub
  refine awl_newArr ei.p hd (fun a w S H r => ?_) k
  obtain ⟨i, z, hi, hz, hsize, hbytes, hzs, hzl, hzo⟩ := ei.h
  have hpr := parts_rel r hp
  have hz0 : LsR (GRep w S st.m H) (mkLs zl (len * sz)) (madeCells z.cells (len * sz)).toList := by
    have := made_rep (w := w) (S := S) (z := z) (by rw [hzs]; exact ei.p) hzo (len * sz) (len * sz) (Nat.le_refl _)
    rw [hzl, List.take_of_length_le (by rw [Array.length_toList, size_madeCells]; exact Nat.le_refl _)] at this
    exact this.mono (fun _ _ => GRep.of_rep)
  obtain ⟨cells', hf, hr⟩ := built_run (fun l v => GRep.oneCell) hb _ _ hz0 hpr.1 hpr.2
  have hfill : Instr.fill (fun i => some (i * sz, sz)) (madeCells z.cells (len * sz)) ((parts.map fun x => (x.1, a.eval x.2)).toList) = some cells' := by
    rw [Array.toList_map]; exact hf
  have hsz' : cells'.size = len * sz := by
    have h1 := hr.1
    have h2 : out.length = (mkLs zl (len * sz)).length := built_length hb
    rw [mkLs_length] at h2
    rw [h2] at h1
    simpa using h1.symm
  refine ⟨.slice (some ⟨w.heap.size, 0, none⟩) len len, w.alloc (.cells cells' e), cells'.toList, ?_, Ext.alloc w S _, fun b j hs => by have := r.sl b j hs; simp; omega, ?_, ?_⟩
  · have hsi : (P.info? e).map (·.size) = some sz := by rw [hi]; simp [hsize]
    have hnle : ¬ (16777216 < len * sz) := by omega
    have hfill' : Instr.fill (fun i => some (i * sz, sz)) (madeCells z.cells (len * sz)) (Array.map (fun x => match x with | (i, x) => (i, a.eval x)) parts).toList = some cells' := hfill
    by_cases h0 : len * sz = 0
    · have hm0 : madeCells z.cells (len * sz) = madeCells #[] (len * sz) := by rw [h0]; simp [madeCells, Array.range_zero']
      rw [hm0] at hfill'
      unfold madeCells at hfill'
      simp only [execOp, Instr.buildSlice, Sem.run_bind, run_underlying si, Result.andThen_ok, run_sizeOf' hsi]
      simp only [gt_iff_lt, show (2 : Nat) ^ 24 = 16777216 from rfl, show ¬ (16777216 < 0) from by decide, if_false, h0, if_true, Sem.run_pure]
      rw [h0] at hfill'
      simp only [Sem.run_bind, Sem.run_pure, Result.andThen_ok, hfill', newRow, run_newObj]
      rfl
    · unfold madeCells at hfill'
      simp only [execOp, Instr.buildSlice, Sem.run_bind, run_underlying si, Result.andThen_ok, run_sizeOf' hsi]
      simp only [gt_iff_lt, show (2 : Nat) ^ 24 = 16777216 from rfl, hnle, if_false, h0, zeroValue, typeInfo, Sem.run_bind, run_program, hi, hz, Sem.run_pure, Result.andThen_ok]
      simp only [hfill', Sem.run_bind, Sem.run_pure, Result.andThen_ok, newRow, run_newObj]
      rfl
  · exact ⟨by rw [Array.length_toList, hsz'], .inr ⟨w.heap.size, len, cells', rfl, Nat.le_refl _, heap_alloc_new w _, Nat.le_refl _, by
      have : len ≤ len * sz := Nat.le_mul_of_pos_right len ei.p
      simp only [maxLen]; omega, hsz', List.take_of_length_le (by rw [Array.length_toList, hsz']; exact Nat.le_refl _)⟩⟩
  · refine ⟨hr.1, fun j l v h1 h2 => ?_⟩
    exact Rep.mono ((Ext.alloc w S _).keeps r.sl) (GRep.rep (hr.2 j l v h1 h2) (hout l (List.mem_of_getElem? h1)))

/-- 'x[i] = v', 'x[i].f = v': x an own row. -/
theorem awl_store_ap {t : TypeId} {x y : Operand} {p n off sz e sze k : Nat} {v : SV} {cs : List Lf} (hi : (P.info? t).map (·.size) = some sz) (hx : opnd st x = .s (.one (.ap p n off))) (hy : opnd st y = .s v) (hm : st.m[p]? = some (.arr e sze k cs)) (hn : n * sze = cs.length)
    (hv : v.cells.length = sz) (hpub : ∀ l ∈ v.cells, l.pubd = true) (hk : k ≤ off) (hfit : off + sz ≤ cs.length)
    (kk : AWL P c ops Q rest ⟨st.t, st.m.set p (.arr e sze k (putAt cs off v.cells))⟩) : AWL P c ops Q (⟨none, .store t x y, ty, pos, af, none⟩ :: rest) st := by
  intro a w S H r
  have hx' := opnd_rel r x
  rw [hx] at hx'
  obtain ⟨hp, _, hr⟩ := hx'
  obtain ⟨g, cp, hH, ex⟩ := (hr _ _ _ _ hm).2 hn
  have hy' := opnd_rel r y
  rw [hy] at hy'
  have hls := svr_cells hy' (fun l v => GRep.oneCell)
  obtain ⟨hsz, hkc, n0, vals, hown, hcs, hstb⟩ := r.bl p _ hm
  have hnn : n0 = n := ownsRow_n hown hsz (by rw [← hcs.1]; exact hn)
  subst hnn
  rcases hown.2 with ⟨hv0, _⟩ | ⟨g', cap, cur, hv0, hbg, hg, hnc, hcm, hcsz, htake⟩
  · rw [hv0] at hH; cases hH
  rw [hv0] at hH
  cases hH
  have hlen : (a.eval y).cells.toList.length = sz := by rw [← hls.1, hv]
  have hone : ∀ u ∈ (a.eval y).cells.toList, u.oneCell' = true := by
    intro u hu
    obtain ⟨j, hj, hju⟩ := List.getElem_of_mem hu
    have hj' : j < v.cells.length := by rw [hls.1]; exact hj
    exact GRep.oneCell (hls.2 j _ u (List.getElem?_eq_getElem hj') (by rw [List.getElem?_eq_getElem hj, hju]))
  have hcap : n0 * sze ≤ cur.size := by rw [hcsz]; exact Nat.mul_le_mul_right _ hnc
  have hfitc : off + (a.eval y).cells.toList.length ≤ cur.toList.length := by rw [hlen]; simp; omega
  have hst := run_storeCells_at P g off e (a.eval y).cells.toList 0 cur w hg (by rw [hlen]; omega) hone
  simp only [Nat.add_zero] at hst
  refine wpList_plain rfl fun K hK => ?_
  unfold Oper.wp
  have hrun : (execOp a.eval ⟨none, .store t x y, ty, pos, af, none⟩).run P w = .ok .skip (w.setRow g (cur.toList.take off ++ (a.eval y).cells.toList ++ cur.toList.drop (off + (a.eval y).cells.toList.length)).toArray) := by
    have hszz : (a.eval y).cells.size = sz := by simpa using hlen
    simp only [execOp, ex, Instr.storeAt, Instr.sureAddr, storeVar, Sem.run_bind, Sem.run_pure, Result.andThen_ok, run_sizeOf' hi, hszz, ne_eq, not_true_eq_false, if_false, hst]
  rw [hrun]
  have hownp : (Blk.arr e sze k cs).own (H p) = some g := by rw [hv0]; rfl
  have hrow := setRow_heap w g cur (cur.toList.take off ++ (a.eval y).cells.toList ++ cur.toList.drop (off + (a.eval y).cells.toList.length)).toArray e _ hg
  have hoth : ∀ q, q ≠ g → (w.setRow g (cur.toList.take off ++ (a.eval y).cells.toList ++ cur.toList.drop (off + (a.eval y).cells.toList.length)).toArray).heap[q]? = w.heap[q]? := fun q hq => setRow_other w g q _ hq
  have hkeep : ∀ b j, S b j → S b j ∧ (w.setRow g (cur.toList.take off ++ (a.eval y).cells.toList ++ cur.toList.drop (off + (a.eval y).cells.toList.length)).toArray).cell? ⟨b, j, none⟩ = w.cell? ⟨b, j, none⟩ := by
    intro b j hS
    refine ⟨hS, ?_⟩
    by_cases hbg' : b = g
    · subst hbg'
      have hj : j < k := r.sb p _ b j hm hownp hS
      rw [cell_of_row _ b j _ e (0, 0) hrow, cell_of_row w b j cur e (0, 0) hg]
      have := getElem?_putAt cur.toList (a.eval y).cells.toList off j hfitc
      rw [if_pos (by omega)] at this
      simpa using this
    · exact World.cell?_of_block (w := w) (hoth b hbg')
  have hset : setH H p (H p) = H := by
    funext q
    by_cases e' : q = p
    · subst e'; exact setH_same H q _
    · exact setH_other H _ e'
  have hcl : cs.length = n0 * sze := hn.symm
  have hcur : cur.toList.take (n0 * sze) = vals := htake
  have hfin : Rel c ⟨st.t, st.m.set p (.arr e sze k (putAt cs off v.cells))⟩ a (w.setRow g (cur.toList.take off ++ (a.eval y).cells.toList ++ cur.toList.drop (off + (a.eval y).cells.toList.length)).toArray) S (setH H p (H p)) := by
    have hpl : (putAt cs off v.cells).length = cs.length := by simp only [putAt, List.length_append, List.length_take, List.length_drop]; omega
    refine r.change (b' := .arr e sze k (putAt cs off v.cells)) (by simp) (by rw [List.getElem?_set_self hp]) (fun q hq => List.getElem?_set_ne (fun e => hq e.symm)) hkeep (fun g' _ _ => rfl)
      (fun e' sz' k' cs' _ h => by cases h; exact ⟨k, cs, hm, .inl ⟨hpl.symm, rfl⟩⟩) (fun g' _ hne => hoth g' (fun e' => hne _ hm (by rw [e']; exact hownp))) ?_ (fun g' hg' => ?_) (fun q b g' j _ _ _ hs => hs) (fun g' j _ hs => hs) (fun b j hs => by simp; exact r.sl b j hs) (by simp) rfl rfl rfl
    · have hnl : off + (a.eval y).cells.toList.length ≤ (cur.toList.take (n0 * sze)).length := by rw [hlen, List.length_take, Nat.min_eq_left (by simpa using hcap)]; omega
      refine ⟨hsz, by rw [hpl]; exact hkc, n0, (cur.toList.take (n0 * sze)).take off ++ (a.eval y).cells.toList ++ (cur.toList.take (n0 * sze)).drop (off + (a.eval y).cells.toList.length), ?_, ?_, fun g' hg' j hj => hstb g' hg' j hj⟩
      · refine ⟨?_, .inr ⟨g, cp, _, hv0, hbg, hrow, hnc, hcm, ?_, ?_⟩⟩
        · simp only [List.length_append, List.length_take, List.length_drop, Array.length_toList] at hnl ⊢; omega
        · simp only [List.size_toArray, List.length_append, List.length_take, List.length_drop, Array.length_toList] at hfitc ⊢; omega
        · apply List.ext_getElem?
          intro j
          rw [List.getElem?_take]
          rw [getElem?_putAt _ _ off j hnl]
          by_cases hj : j < n0 * sze
          · rw [if_pos hj]
            have := getElem?_putAt cur.toList (a.eval y).cells.toList off j hfitc
            simp only at this ⊢
            rw [this]
            by_cases b1 : j < off
            · rw [if_pos b1, if_pos b1, List.getElem?_take, if_pos hj]
            · rw [if_neg b1, if_neg b1]
              by_cases b2 : j < off + (a.eval y).cells.toList.length
              · rw [if_pos b2, if_pos b2]
              · rw [if_neg b2, if_neg b2, List.getElem?_take, if_pos hj]
          · rw [if_neg hj, if_neg (by omega)]
            by_cases b2 : j < off + (a.eval y).cells.toList.length
            · rw [hlen] at b2; omega
            · rw [if_neg b2, List.getElem?_take, if_neg hj]
      · rw [hcur]
        have hvl : off + (a.eval y).cells.toList.length ≤ vals.length := by rw [hlen, ← hcs.1]; exact hfit
        refine ⟨?_, fun j l u h1 h2 => ?_⟩
        · rw [hpl]; simp only [List.length_append, List.length_take, List.length_drop]; have := hcs.1; rw [hlen] at hvl ⊢; omega
        · unfold putAt at h1
          rw [getElem?_putAt cs v.cells off j (by rw [hv]; exact hfit)] at h1
          rw [getElem?_putAt vals _ off j hvl] at h2
          rw [← hls.1] at h2
          refine Rep.mono hkeep ?_
          by_cases a1 : j < off
          · rw [if_pos a1] at h1 h2; exact hcs.2 j l u h1 h2
          · rw [if_neg a1] at h1 h2
            by_cases a2 : j < off + v.cells.length
            · rw [if_pos a2] at h1 h2; exact GRep.rep (hls.2 _ l u h1 h2) (hpub l (List.mem_of_getElem? h1))
            · rw [if_neg a2] at h1 h2; exact hcs.2 j l u h1 h2
    · have hg2 : ownOf (H p) = some g' := hg'
      rw [hv0] at hg2
      simp only [ownOf, Option.some.injEq] at hg2
      subst hg2
      exact ⟨hbg, by simp; exact (r.lo p _ g hm hownp).2, fun q b hq hb ho => hq (r.inj q p b _ g hb hm ho hownp), fun j hj => (r.sb p _ g j hm hownp hj : j < k)⟩
  rw [hset] at hfin
  exact hK a _ (kk a _ S H hfin)

/-! Cuts -/

/-- What of a slice is known may be known less: its first so many elements, from one on. -/
theorem rep_cut {w : World} {S : Stab} {n : Nat} {cs : List Lf} {v : Value} (h : Rep w S (.sl n cs) v) {sz lo hi : Nat} (hl : lo ≤ hi) (hh : hi ≤ n) (hn : cs.length = n * sz) :
    ∃ a cap, v = .slice a n cap ∧ n ≤ cap ∧ Rep w S (.sl (hi - lo) ((cs.drop (lo * sz)).take ((hi - lo) * sz))) (.slice (if cap = lo then a else a.map (·.add (lo * sz))) (hi - lo) (cap - lo)) := by
  cases h with
  | sl0 a cap =>
    have h1 : hi = 0 := by omega
    have h2 : lo = 0 := by omega
    subst h1; subst h2
    refine ⟨a, cap, rfl, Nat.zero_le _, ?_⟩
    simp only [Nat.sub_self, Nat.zero_mul, List.take_zero]
    exact .sl0 _ _
  | sl n cs bk off cap vals hc hm hs hr =>
    refine ⟨some ⟨bk, off, none⟩, cap, rfl, hc, ?_⟩
    by_cases he : cap = lo
    · have : hi = lo := by omega
      subst this
      simp only [Nat.sub_self, Nat.zero_mul, List.take_zero]
      exact .sl0 _ _
    · rw [if_neg he]
      have hadd : (⟨bk, off, none⟩ : Addr).add (lo * sz) = ⟨bk, off + lo * sz, none⟩ := Addr.add_lit _ _ _
      simp only [Option.map_some, hadd]
      refine Rep.sl _ _ bk (off + lo * sz) (cap - lo) (fun j => vals (lo * sz + j)) (by omega) (by simp only [maxLen] at hm ⊢; omega) (fun j l hl' => ?_) (fun j l hl' => ?_)
      · rw [List.getElem?_take] at hl'
        split at hl'
        · rw [List.getElem?_drop] at hl'
          rw [Nat.add_assoc]
          exact hs _ _ hl'
        · cases hl'
      · rw [List.getElem?_take] at hl'
        split at hl'
        · rw [List.getElem?_drop] at hl'
          exact hr _ _ hl'
        · cases hl'

/-- The bounds of a cut. -/
def Bound (st : AS) : Option Operand → Nat → Nat → Prop
  | none, dflt, b => b = dflt
  | some o, _, b => ∃ k i, opnd st o = .s (.one (.i k i)) ∧ 0 ≤ i ∧ i.toNat = b

theorem bound_none {n : Nat} : Bound st none n n := rfl
theorem bound_some {o : Operand} {k : IntKind} {i : Int} {n : Nat} (h : opnd st o = .s (.one (.i k i))) (h0 : 0 ≤ i) : Bound st (some o) n i.toNat := ⟨k, i, h, h0, rfl⟩

theorem bound_run {a : Act} {w : World} {S : Stab} {H : Nat → Value} (r : Rel c st a w S H) {o : Operand} {k : IntKind} {i : Int} (h : opnd st o = .s (.one (.i k i))) (h0 : 0 ≤ i) (y : Nat) (hy : i.toNat ≤ y) (code : BoundsCode) :
    (Instr.sliceBound (a.eval o) y code).run P w = .ok i.toNat w := by
  have h' := opnd_rel r o
  rw [h] at h'
  have e : a.eval o = .int k i := rep_i h'
  rw [e]
  exact run_sliceBound w k i y code h0 (by omega)

theorem opv_slice {t e sz n lo hi : Nat} {x : Operand} {cs : List Lf} {l h : Option Operand} (si : SI P t e sz) (hx : opnd st x = .s (.one (.sl n cs))) (hcs : cs.length = n * sz) (hl : Bound st l 0 lo) (hh : Bound st h n hi) (h1 : lo ≤ hi) (h2 : hi ≤ n) :
    OpV P c st (.slice t x l h none) ty (.s (.one (.sl (hi - lo) ((cs.drop (lo * sz)).take ((hi - lo) * sz))))) := by
  intro a w S H r
  have hx' := opnd_rel r x
  rw [hx] at hx'
  obtain ⟨ad, cap, hv, hnc, hrep⟩ := rep_cut (hx' : Rep w S (.sl n cs) (a.eval x)) h1 h2 hcs
  refine ⟨_, avr_rep hrep, fun _ _ _ _ => ?_⟩
  have hrun : (Instr.sliceAt t (.slice ad n cap) (l.map a.eval) (h.map a.eval) none).run P w = .ok (.slice (if cap = lo then ad else ad.map (·.add (lo * sz))) (hi - lo) (cap - lo)) w := by
    cases h with
    | none =>
      have hhn : hi = n := hh
      subst hhn
      cases l with
      | none =>
        have : lo = 0 := hl
        subst this
        simp [Instr.sliceAt, Instr.slice, run_underlying si.u, Instr.sliceBounds, run_sizeOf' si.i]
      | some o =>
        obtain ⟨k, i, ho, h0, rfl⟩ := hl
        have := bound_run (P := P) r ho h0 hi h1 .sliceB
        simp [Instr.sliceAt, Instr.slice, run_underlying si.u, Instr.sliceBounds, run_sizeOf' si.i, this]
    | some o2 =>
      obtain ⟨k2, i2, ho2, h02, rfl⟩ := hh
      have hb2 := bound_run (P := P) r ho2 h02 cap (by omega) .sliceAcap
      cases l with
      | none =>
        have : lo = 0 := hl
        subst this
        simp [Instr.sliceAt, Instr.slice, run_underlying si.u, Instr.sliceBounds, run_sizeOf' si.i, hb2]
      | some o =>
        obtain ⟨k, i, ho, h0, rfl⟩ := hl
        have hb1 := bound_run (P := P) r ho h0 i2.toNat h1 .sliceB
        simp [Instr.sliceAt, Instr.slice, run_underlying si.u, Instr.sliceBounds, run_sizeOf' si.i, hb2, hb1]
  simp only [execOp, hv, Sem.run_bind, Option.map_none]
  rw [hrun]
  rfl

/-! Conversions -/

theorem opv_conv_int {s t : TypeId} {ds : TypeDesc} {x : Operand} {k k' : IntKind} {n : Int} (hs : P.underlying s = some ds) (ht : P.underlying t = some (.int k)) (hx : opnd st x = .s (.one (.i k' n))) : OpV P c st (.convert s t x) ty (.s (.one (.i k (k.wrap n)))) := by
  intro a w S H r
  have hx' := opnd_rel r x
  rw [hx] at hx'
  have ex : a.eval x = .int k' n := rep_i hx'
  refine ⟨.int k (k.wrap n), avr_rep (.i _ _), fun _ _ _ _ => ?_⟩
  cases ds <;> simp [execOp, ex, convert, run_underlying hs, run_underlying ht, Conv.intToInt]

/-- Bytes as leaves. -/
def bl (l : List UInt8) : List Lf := l.map fun b => .i .u8 b.toNat
theorem bl_length (l : List UInt8) : (bl l).length = l.length := by simp [bl]

theorem run_bytes_loop {w : World} (f : Value → ByteArray → Sem (ForInStep ByteArray)) (hf : ∀ (b : UInt8) (s : ByteArray), (f (.int .u8 b.toNat) s).run P w = .ok (.yield (s.push b)) w) : ∀ (l : List UInt8) (s : ByteArray),
    (forIn (l.map fun b => Value.int IntKind.u8 (b.toNat : Int)) s f : Sem ByteArray).run P w = .ok ⟨s.data ++ l.toArray⟩ w
  | [], s => by simp
  | b :: l, s => by
    simp only [List.map_cons, List.forIn_cons, Sem.run_bind, hf, Result.andThen_ok]
    rw [run_bytes_loop f hf l]
    simp [ByteArray.push]

theorem opv_conv_bs {s t e : TypeId} {x : Operand} {l : List UInt8} (hs : P.underlying s = some (.slice e)) (he : P.underlying e = some (.int .u8)) (ht : P.underlying t = some .string) (hx : opnd st x = .s (.one (.sl l.length (bl l)))) :
    OpV P c st (.convert s t x) ty (.s (.one (.s ⟨l.toArray⟩))) := by
  intro a w S H r
  have hx' := opnd_rel r x
  rw [hx] at hx'
  have hx2 : Rep w S (.sl l.length (bl l)) (a.eval x) := hx'
  refine ⟨.string ⟨l.toArray⟩, avr_rep (.s _), fun _ _ _ _ => ?_⟩
  have key : (Conv.bytesToString (a.eval x)).run P w = .ok (.string ⟨l.toArray⟩) w := by
    generalize a.eval x = v at hx2
    generalize hn : l.length = n at hx2
    generalize hb : bl l = cs at hx2
    cases hx2 with
    | sl0 ad cap =>
      have : l = [] := List.eq_nil_of_length_eq_zero hn
      subst this
      cases ad with
      | none => rfl
      | some ad => simp [Conv.bytesToString, loadCells, loadCellsFrom]; rfl
    | sl n cs bk off cap vals hc hm hs' hr =>
      subst hn; subst hb
      have hvals : ∀ j, ∀ b, l[j]? = some b → vals j = .int .u8 b.toNat ∧ w.cell? ⟨bk, off + j, none⟩ = some (.int .u8 b.toNat) := by
        intro j b hj
        have hbl : (bl l)[j]? = some (.i .u8 b.toNat) := by simp [bl, hj]
        have h1 := rep_i (hr j _ hbl)
        exact ⟨h1, by rw [← h1]; exact (hs' j _ hbl).2⟩
      have hload := run_loadCells_list (P := P) w ⟨bk, off, none⟩ (l.map fun b => Value.int .u8 b.toNat) (fun j v hj => by
        rw [List.getElem?_map] at hj
        cases hb : l[j]? with
        | none => rw [hb] at hj; cases hj
        | some b =>
          rw [hb] at hj; cases hj
          rw [Addr.add_lit]
          exact (hvals j b hb).2)
      rw [List.length_map] at hload
      simp only [Conv.bytesToString, Sem.run_bind, hload, Result.andThen_ok, List.forIn_toArray]
      rw [run_bytes_loop (P := P) (w := w) _ (fun b s => by simp) l ByteArray.empty]
      simp
  simp only [execOp, convert, Sem.run_bind, run_underlying hs, run_underlying ht, Result.andThen_ok]
  obtain ⟨ad, cap, hv⟩ := rep_sl hx2
  rw [hv] at key
  simp [hv, run_underlying he, key]
end
end Go.Proofs.Ytaffjoloefhodaa.Abs

/-
  The steps as a walk takes them: states written out as temporaries and blocks.
-/
namespace Go.Proofs.Ytaffjoloefhodaa.Abs
open Go.RowKit

section
variable {P : Program} {c : Ctx} {t : Nat → AV} {m : List Blk} {ops : Array Oper} {Q : Exit → AS → Prop} {rest : List Oper} {op : Op} {ty : TypeId} {pos : String} {af : Array Edge} {d : Tmp} {x : AV}

theorem sv (hd : decide (d < c.nt) = true) (h : OpV P c ⟨t, m⟩ op ty x) (k : AWL P c ops Q rest ⟨upd t d x, m⟩) : AWL P c ops Q (⟨some d, op, ty, pos, af, none⟩ :: rest) ⟨t, m⟩ :=
  awl_v h (of_decide_eq_true hd) k

theorem son {dst : Option Tmp} {j : Nat} {want : Bool} {dj : Tmp} (hn : decide (dj < c.nt) = true) (hj : (ops[j]?).bind (·.dst) = some dj) (ht : t dj = .s (.one (.b want)))
    (k : AWL P c ops Q (⟨dst, op, ty, pos, af, none⟩ :: rest) ⟨t, m⟩) : AWL P c ops Q (⟨dst, op, ty, pos, af, some (j, want)⟩ :: rest) ⟨t, m⟩ :=
  awl_on hj ht k rfl (of_decide_eq_true hn)

theorem soff {j : Nat} {want b : Bool} {dj : Tmp} (hd : decide (d < c.nt) = true) (hj : (ops[j]?).bind (·.dst) = some dj) (ht : t dj = .s (.one (.b b))) (hb : (b == want) = false)
    (k : AWL P c ops Q rest ⟨upd t d (.tup []), m⟩) : AWL P c ops Q (⟨some d, op, ty, pos, af, some (j, want)⟩ :: rest) ⟨t, m⟩ :=
  awl_off hj ht hb (fun d' h => by cases h; exact of_decide_eq_true hd) k

theorem soff0 {j : Nat} {want b : Bool} {dj : Tmp} (hj : (ops[j]?).bind (·.dst) = some dj) (ht : t dj = .s (.one (.b b))) (hb : (b == want) = false)
    (k : AWL P c ops Q rest ⟨t, m⟩) : AWL P c ops Q (⟨none, op, ty, pos, af, some (j, want)⟩ :: rest) ⟨t, m⟩ :=
  awl_off hj ht hb (fun d' h => by cases h) k

theorem soffu {j : Nat} {want : Bool} {dj : Tmp} (hd : decide (d < c.nt) = true) (hj : (ops[j]?).bind (·.dst) = some dj) (ht : t dj = .tup [])
    (k : AWL P c ops Q rest ⟨upd t d (.tup []), m⟩) : AWL P c ops Q (⟨some d, op, ty, pos, af, some (j, want)⟩ :: rest) ⟨t, m⟩ :=
  awl_off' hj ht (fun d' h => by cases h; exact of_decide_eq_true hd) k

theorem soffu0 {j : Nat} {want : Bool} {dj : Tmp} (hj : (ops[j]?).bind (·.dst) = some dj) (ht : t dj = .tup [])
    (k : AWL P c ops Q rest ⟨t, m⟩) : AWL P c ops Q (⟨none, op, ty, pos, af, some (j, want)⟩ :: rest) ⟨t, m⟩ :=
  awl_off' hj ht (fun d' h => by cases h) k

theorem ssplit {l : List Oper} (dj : Tmp) {b : Bool} (ht : t dj = .s (.one (.b b))) (k1 : b = true → AWL P c ops Q l ⟨upd t dj (.s (.one (.b true))), m⟩) (k0 : b = false → AWL P c ops Q l ⟨upd t dj (.s (.one (.b false))), m⟩) : AWL P c ops Q l ⟨t, m⟩ :=
  awl_split ht k1 k0

/-- What a temporary holds, told in other words. -/
theorem stell {l : List Oper} (dj : Tmp) {y : AV} (z : AV) (ht : t dj = y) (e : y = z) (k : AWL P c ops Q l ⟨upd t dj z, m⟩) : AWL P c ops Q l ⟨t, m⟩ := by
  subst e
  exact awl_retell (upd_same ht) k

theorem stell_c {x : Code} (dj : Tmp) {y : AV} (z : AV) (ht : t dj = y) (e : y = z) (k : AWC P c x Q ⟨upd t dj z, m⟩) : AWC P c x Q ⟨t, m⟩ := by
  subst e
  have : upd t dj y = t := upd_same ht
  rw [this] at k
  exact k

theorem snil {n : AS → Prop} (h : n ⟨t, m⟩) : AWL P c ops (thenA n Q) [] ⟨t, m⟩ := awl_nil h
theorem snil0 (h : Q .normal ⟨t, m⟩) : AWL P c ops Q [] ⟨t, m⟩ := awl_nil h

theorem salloc {t' : TypeId} {zl : List Lf} (hd : decide (d < c.nt) = true) (zi : ZI P t' zl)
    (k : AWL P c ops Q rest ⟨upd t d (.s (.one (.lp m.length 0))), m ++ [.box zl]⟩) : AWL P c ops Q (⟨some d, .alloc t', ty, pos, af, none⟩ :: rest) ⟨t, m⟩ :=
  awl_alloc zi (of_decide_eq_true hd) k
theorem sbox {t' : TypeId} {y : Operand} {x : SV} (hd : decide (d < c.nt) = true) (hx : opnd ⟨t, m⟩ y = .s x)
    (k : AWL P c ops Q rest ⟨upd t d (.s (.one (.lp m.length 0))), m ++ [.box x.cells]⟩) : AWL P c ops Q (⟨some d, .box t' y, ty, pos, af, none⟩ :: rest) ⟨t, m⟩ :=
  awl_box hx (of_decide_eq_true hd) k
theorem sstore {t' : TypeId} {x y : Operand} {p off sz : Nat} {v : SV} {cs : List Lf} (hi : (P.info? t').map (·.size) = some sz) (hx : opnd ⟨t, m⟩ x = .s (.one (.lp p off))) (hy : opnd ⟨t, m⟩ y = .s v) (hm : m[p]? = some (.box cs))
    (hv : v.cells.length = sz) (hfit : off + sz ≤ cs.length)
    (k : AWL P c ops Q rest ⟨t, m.set p (.box (putAt cs off v.cells))⟩) : AWL P c ops Q (⟨none, .store t' x y, ty, pos, af, none⟩ :: rest) ⟨t, m⟩ :=
  awl_store hi hx hy hm hv hfit k
theorem sstore_ap {t' : TypeId} {x y : Operand} {p n off sz e sze k : Nat} {v : SV} {cs : List Lf} (hi : (P.info? t').map (·.size) = some sz) (hx : opnd ⟨t, m⟩ x = .s (.one (.ap p n off))) (hy : opnd ⟨t, m⟩ y = .s v) (hm : m[p]? = some (.arr e sze k cs)) (hn : n * sze = cs.length)
    (hv : v.cells.length = sz) (hpub : ∀ l ∈ v.cells, l.pubd = true) (hk : k ≤ off) (hfit : off + sz ≤ cs.length)
    (kk : AWL P c ops Q rest ⟨t, m.set p (.arr e sze k (putAt cs off v.cells))⟩) : AWL P c ops Q (⟨none, .store t' x y, ty, pos, af, none⟩ :: rest) ⟨t, m⟩ :=
  awl_store_ap hi hx hy hm hn hv hpub hk hfit kk
theorem scall {f : FuncId} {args : Array Operand} {ats : Array TypeId} {xs ys : List SV} {m' : List Blk} {R : AV → Prop} (hd : decide (d < c.nt) = true) (hf : FnI P f) (ho : Opnds ⟨t, m⟩ args.toList xs) (hp : PubA m xs ys m') (hc : CallsA P f ys R)
    (k : ∀ x, R x → AWL P c ops Q rest ⟨upd t d x, m'⟩) : AWL P c ops Q (⟨some d, .call { callee := .value (.func f), args := args, argTypes := ats }, ty, pos, af, none⟩ :: rest) ⟨t, m⟩ :=
  awl_call hf ho hp hc (of_decide_eq_true hd) k
/-- A call that gives one value. -/
theorem scall1 {f : FuncId} {args : Array Operand} {ats : Array TypeId} {xs ys : List SV} {m' : List Blk} {r : AV} (hd : decide (d < c.nt) = true) (hf : FnI P f) (ho : Opnds ⟨t, m⟩ args.toList xs) (hp : PubA m xs ys m') (hc : CallsA P f ys (· = r))
    (k : AWL P c ops Q rest ⟨upd t d r, m'⟩) : AWL P c ops Q (⟨some d, .call { callee := .value (.func f), args := args, argTypes := ats }, ty, pos, af, none⟩ :: rest) ⟨t, m⟩ :=
  awl_call hf ho hp hc (of_decide_eq_true hd) (fun _ h => h ▸ k)
theorem smake {t' e sz bytes : Nat} {zl : List Lf} {x y : Operand} {kl kc : IntKind} {l cc : Int} (hd : decide (d < c.nt) = true) (si : P.underlying t' = some (.slice e)) (ei : EI P e sz bytes zl) (hx : opnd ⟨t, m⟩ x = .s (.one (.i kl l))) (hy : opnd ⟨t, m⟩ y = .s (.one (.i kc cc)))
    (h0 : 0 ≤ l) (h1 : l ≤ cc) (hb : (bytes : Int) * cc ≤ 281474976710656) (h63 : cc ≤ 9223372036854775807)
    (k : AWL P c ops Q rest ⟨upd t d (.s (.one (.ls m.length l.toNat))), m ++ [.arr e sz 0 (mkLs zl (l.toNat * sz))]⟩) : AWL P c ops Q (⟨some d, .makeSlice t' x y, ty, pos, af, none⟩ :: rest) ⟨t, m⟩ :=
  awl_make si ei hx hy h0 h1 hb h63 (of_decide_eq_true hd) k
theorem sbuild0 {t' e sz bytes : Nat} {zl : List Lf} (hd : decide (d < c.nt) = true) (si : P.underlying t' = some (.slice e)) (ei : EI P e sz bytes zl)
    (k : AWL P c ops Q rest ⟨upd t d (.s (.one (.ls m.length 0))), m ++ [.arr e sz 0 []]⟩) : AWL P c ops Q (⟨some d, .buildSlice t' 0 #[], ty, pos, af, none⟩ :: rest) ⟨t, m⟩ :=
  awl_buildSlice si ei parts_nil (fun x h => by cases h) (by rw [Nat.zero_mul]; exact .nil _) (fun l h => by cases h) (by omega) (of_decide_eq_true hd) k
theorem sbuild1 {t' e sz bytes : Nat} {zl : List Lf} {o : Operand} {x : SV} (hd : decide (d < c.nt) = true) (si : P.underlying t' = some (.slice e)) (ei : EI P e sz bytes zl) (ho : opnd ⟨t, m⟩ o = .s x) (hx : x.cells.length = sz) (hp : ∀ l ∈ x.cells, l.pubd = true) (hsz : sz ≤ 16777216)
    (k : AWL P c ops Q rest ⟨upd t d (.s (.one (.ls m.length 1))), m ++ [.arr e sz 0 x.cells]⟩) : AWL P c ops Q (⟨some d, .buildSlice t' 1 #[(0, o)], ty, pos, af, none⟩ :: rest) ⟨t, m⟩ := by
  have hput : putAt (mkLs zl (1 * sz)) (0 * sz) x.cells = x.cells := by
    unfold putAt
    rw [Nat.zero_mul, Nat.zero_add, List.take_zero, List.nil_append, List.drop_of_length_le (by rw [mkLs_length, hx, Nat.one_mul]; exact Nat.le_refl _), List.append_nil]
  refine awl_buildSlice (xs := [(0, x)]) si ei (parts_cons ho parts_nil) (fun y h => ?_) ?_ (fun l h => hp l h) (by omega) (of_decide_eq_true hd) k
  · simp at h; subst h; exact hp
  · refine Built.cons _ _ 0 (0 * sz) sz x [] rfl hx (by rw [mkLs_length]; omega) ?_
    rw [hput]
    exact .nil _
theorem sappend {x y : Operand} {t' t2 e sz bytes p n mm k : Nat} {zl cs ys : List Lf} {yv yv' : SV} {m' : List Blk} (hd : decide (d < c.nt) = true) (si : P.underlying t' = some (.slice e)) (ei : EI P e sz bytes zl) (h2 : NI P t2) (hx : opnd ⟨t, m⟩ x = .s (.one (.ls p n))) (hy : opnd ⟨t, m⟩ y = .s yv)
    (hp : PubV m yv yv' m') (hm : m'[p]? = some (.arr e sz k cs)) (hn : n * sz = cs.length) (hsrc : SrcOf P yv' sz mm ys) (h63 : n + mm ≤ maxLen) (hb : (n + mm) * bytes ≤ 140737488355328)
    (kk : AWL P c ops Q rest ⟨upd t d (.s (.one (.ls p (n + mm)))), m'.set p (.arr e sz k (cs ++ ys))⟩) :
    AWL P c ops Q (⟨some d, .call { callee := .builtin .append, args := #[x, y], argTypes := #[t', t2] }, ty, pos, af, none⟩ :: rest) ⟨t, m⟩ :=
  awl_append si ei h2 hx hy hp hm hn hsrc h63 hb (of_decide_eq_true hd) kk
theorem spub {l : List Oper} (i : Nat) {x y : SV} {m' : List Blk} (hx : t i = .s x) (hp : PubV m x y m') (k : AWL P c ops Q l ⟨upd t i (.s y), m'⟩) : AWL P c ops Q l ⟨t, m⟩ := awl_pub i hx hp k

theorem sadopt {l : List Oper} (e sz : Nat) (i : Nat) (hsz : 0 < sz) (hi : t i = .s (.one (.raw (.slice none 0 0)))) (k : AWL P c ops Q l ⟨upd t i (.s (.one (.ls m.length 0))), m ++ [.arr e sz 0 []]⟩) : AWL P c ops Q l ⟨t, m⟩ :=
  awl_of _ (fun _ _ S H r => ⟨S, setH H m.length (.slice none 0 0), adopt_rel (st := ⟨t, m⟩) i hsz hi r⟩) k
theorem sadopt_c {x : Code} (e sz : Nat) (i : Nat) (hsz : 0 < sz) (hi : t i = .s (.one (.raw (.slice none 0 0)))) (k : AWC P c x Q ⟨upd t i (.s (.one (.ls m.length 0))), m ++ [.arr e sz 0 []]⟩) : AWC P c x Q ⟨t, m⟩ :=
  awc_of _ (fun _ _ S H r => ⟨S, setH H m.length (.slice none 0 0), adopt_rel (st := ⟨t, m⟩) i hsz hi r⟩) k
theorem sadopt_box {l : List Oper} (e sz p : Nat) {cs : List Lf} (i : Nat) (hsz : 0 < sz) (hm : m[p]? = some (.box cs)) (hi : cs[i]? = some (.raw (.slice none 0 0))) (k : AWL P c ops Q l ⟨t, m.set p (.box (cs.set i (.ls m.length 0))) ++ [.arr e sz 0 []]⟩) : AWL P c ops Q l ⟨t, m⟩ :=
  awl_of _ (fun _ _ S H r => ⟨S, setH H m.length (.slice none 0 0), adopt_box_rel (st := ⟨t, m⟩) i hsz hm hi r⟩) k
theorem sadopt_box_c {x : Code} (e sz p : Nat) {cs : List Lf} (i : Nat) (hsz : 0 < sz) (hm : m[p]? = some (.box cs)) (hi : cs[i]? = some (.raw (.slice none 0 0))) (k : AWC P c x Q ⟨t, m.set p (.box (cs.set i (.ls m.length 0))) ++ [.arr e sz 0 []]⟩) : AWC P c x Q ⟨t, m⟩ :=
  awc_of _ (fun _ _ S H r => ⟨S, setH H m.length (.slice none 0 0), adopt_box_rel (st := ⟨t, m⟩) i hsz hm hi r⟩) k

theorem cseq {x y : Code} (h : AWC P c x (thenA (AWC P c y Q) Q) ⟨t, m⟩) : AWC P c (.seq x y) Q ⟨t, m⟩ := awc_seq h
theorem cregion {id : Nat} {l : List Oper} (h : AWL P c l.toArray Q l ⟨t, m⟩) : AWC P c (.region id l.toArray false) Q ⟨t, m⟩ := awc_region h
theorem ccond {o : Operand} {x y : Code} {b : Bool} (ho : opnd ⟨t, m⟩ o = .s (.one (.b b))) (h1 : b = true → AWC P c x Q ⟨t, m⟩) (h0 : b = false → AWC P c y Q ⟨t, m⟩) : AWC P c (.cond o x y) Q ⟨t, m⟩ := awc_cond ho h1 h0
theorem cblock {id : Nat} {x : Code} (h : AWC P c x (inBlockA id Q) ⟨t, m⟩) : AWC P c (.block id x) Q ⟨t, m⟩ := awc_block h
theorem cskip (h : Q .normal ⟨t, m⟩) : AWC P c .skip Q ⟨t, m⟩ := awc_skip h
theorem cskip_then {n : AS → Prop} (h : n ⟨t, m⟩) : AWC P c .skip (thenA n Q) ⟨t, m⟩ := awc_skip h
theorem cexit {id : Nat} (h : Q (.exit id) ⟨t, m⟩) : AWC P c (.exit id) Q ⟨t, m⟩ := awc_exit h
theorem cret (h : Q .ret ⟨t, m⟩) : AWC P c .ret Q ⟨t, m⟩ := awc_ret h

theorem then_normal {n : AS → Prop} {st : AS} (h : n st) : thenA n Q .normal st := h
theorem then_exit {n : AS → Prop} {st : AS} {id : Nat} (h : Q (.exit id) st) : thenA n Q (.exit id) st := h
theorem then_ret {n : AS → Prop} {st : AS} (h : Q .ret st) : thenA n Q .ret st := h
theorem block_normal {id : Nat} {st : AS} (h : Q .normal st) : inBlockA id Q .normal st := h
theorem block_ret {id : Nat} {st : AS} (h : Q .ret st) : inBlockA id Q .ret st := h
theorem block_hit {id : Nat} {st : AS} (h : Q .normal st) : inBlockA id Q (.exit id) st := by
  show (if id = id then Q .normal st else Q (.exit id) st)
  rw [if_pos rfl]; exact h
theorem block_miss {id id' : Nat} {st : AS} (hne : Nat.beq id' id = false) (h : Q (.exit id') st) : inBlockA id Q (.exit id') st := by
  show (if id' = id then Q .normal st else Q (.exit id') st)
  rw [if_neg (fun e => by subst e; simp at hne)]; exact h
end
end Go.Proofs.Ytaffjoloefhodaa.Abs

/-
  A region that draws its order: what its operations give hangs on what they name alone, so one walk in the text's order serves every order.
-/
namespace Go.Proofs.Ytaffjoloefhodaa.Abs
open Go.RowKit

/-- An operation that changes no own block: it may lay new ones, behind. -/
def OpD (P : Program) (c : Ctx) (st : AS) (op : Op) (ty : TypeId) (x : AV) : Prop :=
  ∀ a w S H, Rel c st a w S H → ∀ (dst : Option Tmp) (pos : String) (af : Array Edge) (g : Option (Nat × Bool)) (K : Act → World → Prop) (Q : Exit → Act → World → Prop),
    (∀ v w' S', Ext w S w' S' → InH w' S' → AVR (GRep w' S' st.m H) x v → K (a.put dst v) w') → Oper.wp P ⟨dst, op, ty, pos, af, g⟩ a w K Q

theorem OpV.opD {P : Program} {c : Ctx} {st : AS} {op : Op} {ty : TypeId} {x : AV} (h : OpV P c st op ty x) : OpD P c st op ty x := by
  intro a w S H r dst pos af g K Q hK
  obtain ⟨v, hv, hrun⟩ := h a w S H r
  unfold Oper.wp
  rw [hrun]
  exact hK v w S (Ext.refl w S) r.sl hv

theorem svr_pub {w : World} {S : Stab} {m : List Blk} {H : Nat → Value} {x : SV} {v : Value} (h : SVR (GRep w S m H) x v) (hp : x.cells.all Lf.pubd = true) : SVR (Rep w S) x v := by
  cases x with
  | one l => exact GRep.rep h (by simpa [SV.cells] using hp)
  | agg ls =>
    obtain ⟨cs, rfl, h1, h2⟩ := h
    exact ⟨cs, rfl, h1, fun j l u hl hu => GRep.rep (h2 j l u hl hu) (List.all_eq_true.1 hp l (List.mem_of_getElem? hl))⟩

theorem opD_call {P : Program} {c : Ctx} {st : AS} {ty : TypeId} {f : FuncId} {args : Array Operand} {ats : Array TypeId} {xs : List SV} {r : AV} (hf : FnI P f) (ho : Opnds st args.toList xs) (hp : xs.all (fun x => x.cells.all Lf.pubd) = true) (hc : CallsA P f xs (· = r)) :
    OpD P c st (.call { callee := .value (.func f), args := args, argTypes := ats }) ty r := by
  intro a w S H rr dst pos af g K Q hK
  have hv := opnds_rel rr ho
  unfold Oper.wp
  have hrun : (execOp a.eval ⟨dst, .call { callee := .value (.func f), args := args, argTypes := ats }, ty, pos, af, g⟩).run P w = .ok (.enter f (args.map a.eval)) w := by
    simp [execOp, resolve, Act.eval, Deferred.ofValue, invoke, hf.run]
  rw [hrun]
  refine (hc w S (args.map a.eval) rr.sl ⟨by simpa using hv.1, fun j x v h1 h2 => ?_⟩).mono ?_
  · exact svr_pub (hv.2 j x v h1 (by simpa using h2)) (List.all_eq_true.1 hp x (List.mem_of_getElem? h1))
  · rintro e w' ⟨v, x, S', rfl, rfl, hext, hin, hav⟩
    exact hK v w' S' hext hin (avr_of_rep hav)

/-- What is known of some temporaries alone. -/
def restr (t : Nat → AV) (L : List Nat) : Nat → AV := fun j => cond (L.contains j) (t j) .top

/-- The guard says yes. -/
def GYes (ops : Array Oper) (t : Nat → AV) (o : Oper) : Prop := o.guard = none ∨ ∃ j want dj, o.guard = some (j, want) ∧ (ops[j]?).bind (·.dst) = some dj ∧ t dj = .s (.one (.b want))
/-- .. says no. -/
def GNo (ops : Array Oper) (t : Nat → AV) (o : Oper) : Prop := ∃ j want dj, o.guard = some (j, want) ∧ (ops[j]?).bind (·.dst) = some dj ∧ (t dj = .tup [] ∨ ∃ b, t dj = .s (.one (.b b)) ∧ (b == want) = false)

def Good1 (P : Program) (c : Ctx) (m : List Blk) (ops : Array Oper) (t : Nat → AV) (o : Oper) (x : AV) : Prop :=
  (GYes ops t o ∧ OpD P c ⟨restr t (o.looksAt ops), m⟩ o.op o.type x) ∨ (GNo ops t o ∧ x = .tup [])

/-- A region's operations in the text's order, and what is known behind them. -/
def DR (P : Program) (c : Ctx) (m : List Blk) (ops : Array Oper) (k : (Nat → AV) → Prop) : List Oper → (Nat → AV) → Prop
  | [], t => k t
  | o :: rest, t => ∃ x d, o.dst = some d ∧ d < c.nt ∧ Good1 P c m ops t o x ∧ DR P c m ops k rest (upd t d x)

def dsts (l : List Oper) : List Tmp := l.filterMap (·.dst)

theorem restr_congr {t t' : Nat → AV} {L : List Nat} (h : ∀ x ∈ L, t x = t' x) : restr t L = restr t' L := by
  funext j
  unfold restr
  cases hc : L.contains j with
  | false => rfl
  | true => simp only [cond_true]; exact h j (by simpa using hc)

theorem mem_looks_guard {ops : Array Oper} {o : Oper} {j : Nat} {want : Bool} {dj : Tmp} (hg : o.guard = some (j, want)) (hd : (ops[j]?).bind (·.dst) = some dj) : dj ∈ o.looksAt ops := by
  unfold Oper.looksAt
  rw [hg]
  refine List.mem_append_right _ ?_
  simp [hd]

theorem Good1.congr {P : Program} {c : Ctx} {m : List Blk} {ops : Array Oper} {t t' : Nat → AV} {o : Oper} {x : AV} (h : Good1 P c m ops t o x) (ht : ∀ y ∈ o.looksAt ops, t y = t' y) : Good1 P c m ops t' o x := by
  rcases h with ⟨hg, ho⟩ | ⟨hg, hx⟩
  · refine .inl ⟨?_, by rw [← restr_congr ht]; exact ho⟩
    rcases hg with hg | ⟨j, want, dj, h1, h2, h3⟩
    · exact .inl hg
    · exact .inr ⟨j, want, dj, h1, h2, by rw [← ht dj (mem_looks_guard h1 h2)]; exact h3⟩
  · obtain ⟨j, want, dj, h1, h2, h3⟩ := hg
    exact .inr ⟨⟨j, want, dj, h1, h2, by rw [← ht dj (mem_looks_guard h1 h2)]; exact h3⟩, hx⟩

theorem DR.get {P : Program} {c : Ctx} {m : List Blk} {ops : Array Oper} {k : (Nat → AV) → Prop} : ∀ {l : List Oper} {t : Nat → AV}, DR P c m ops k l t → (dsts l).Nodup → (∀ (i : Nat) (o : Oper), l[i]? = some o → ∀ y ∈ o.looksAt ops, y ∉ dsts (l.drop i)) →
    ∃ T, k T ∧ (∀ y, y ∉ dsts l → T y = t y) ∧ ∀ (i : Nat) (o : Oper), l[i]? = some o → ∃ d, o.dst = some d ∧ d < c.nt ∧ Good1 P c m ops T o (T d)
  | [], t, h, _, _ => ⟨t, h, fun _ _ => rfl, fun i o h => by simp at h⟩
  | o :: rest, t, h, hnd, hl => by
    obtain ⟨x, d, hd, hlt, hg, hr⟩ := h
    have hds : dsts (o :: rest) = d :: dsts rest := by simp [dsts, hd]
    rw [hds] at hnd
    have hnd' := List.nodup_cons.1 hnd
    obtain ⟨T, hk, hT, hG⟩ := DR.get hr hnd'.2 (fun i o' h' y hy => by
      have := hl (i + 1) o' (by simpa using h') y hy
      simpa using this)
    refine ⟨T, hk, fun y hy => ?_, fun i o' h' => ?_⟩
    · rw [hds] at hy
      simp only [List.mem_cons, not_or] at hy
      rw [hT y hy.2, upd_def, if_neg hy.1]
    · cases i with
      | zero =>
        simp only [List.getElem?_cons_zero, Option.some.injEq] at h'
        subst h'
        have hTd : T d = x := by rw [hT d hnd'.1, upd_def, if_pos rfl]
        refine ⟨d, hd, hlt, ?_⟩
        rw [hTd]
        refine hg.congr (fun y hy => ?_)
        have := hl 0 o rfl y hy
        rw [List.drop_zero, hds] at this
        simp only [List.mem_cons, not_or] at this
        rw [hT y this.2, upd_def, if_neg this.1]
      | succ i => exact hG i o' (by simpa using h')

/-- What is asked of the region's text. -/
def okDraw (ops : Array Oper) : Bool :=
  (List.range ops.size).all fun i => match ops[i]? with
    | none => false
    | some o => o.dst.isSome && o.after.all (fun e => decide (e.on < i)) && (List.range ops.size).all (fun j => match ops[j]? with
        | none => false
        | some p => (decide (i = j) || !(o.dst == p.dst)) && (match p.dst with
            | none => false
            | some d => !(o.looksAt ops).contains d || o.after.any (fun e => e.on == j && Region.binds .any e)))

structure DrawOk (ops : Array Oper) : Prop where
  dst : ∀ (i : Nat) (o : Oper), ops[i]? = some o → ∃ d, o.dst = some d
  lt : ∀ (i : Nat) (o : Oper), ops[i]? = some o → ∀ e ∈ o.after, e.on < i
  ne : ∀ (i : Nat) (o : Oper) (j : Nat) (p : Oper), ops[i]? = some o → ops[j]? = some p → i ≠ j → o.dst ≠ p.dst
  ed : ∀ (i : Nat) (o : Oper) (j : Nat) (p : Oper) (d : Tmp), ops[i]? = some o → ops[j]? = some p → p.dst = some d → d ∈ o.looksAt ops → ∃ e ∈ o.after, e.on = j ∧ Region.binds .any e = true

theorem drawOk_of {ops : Array Oper} (h : okDraw ops = true) : DrawOk ops := by
  have key : ∀ (i : Nat) (o : Oper), ops[i]? = some o → o.dst.isSome = true ∧ o.after.all (fun e => decide (e.on < i)) = true ∧ ∀ (j : Nat) (p : Oper), ops[j]? = some p → (decide (i = j) || !(o.dst == p.dst)) = true ∧ (match p.dst with
            | none => false
            | some d => !(o.looksAt ops).contains d || o.after.any (fun e => e.on == j && Region.binds .any e)) = true := by
    intro i o hi
    have hil : i < ops.size := (Array.getElem?_eq_some_iff.1 hi).1
    have h1 := List.all_eq_true.1 h i (List.mem_range.2 hil)
    rw [hi] at h1
    simp only [Bool.and_eq_true] at h1
    refine ⟨h1.1.1, h1.1.2, fun j p hj => ?_⟩
    have hjl : j < ops.size := (Array.getElem?_eq_some_iff.1 hj).1
    have h2 := List.all_eq_true.1 h1.2 j (List.mem_range.2 hjl)
    rw [hj] at h2
    simp only [Bool.and_eq_true] at h2
    exact h2
  refine ⟨fun i o hi => Option.isSome_iff_exists.1 (key i o hi).1, fun i o hi e he => ?_, fun i o j p hi hj hne he => ?_, fun i o j p d hi hj hd hm => ?_⟩
  · have := (key i o hi).2.1
    rw [Array.all_eq_true'] at this
    exact of_decide_eq_true (this e he)
  · have := ((key i o hi).2.2 j p hj).1
    simp only [Bool.or_eq_true, decide_eq_true_eq, Bool.not_eq_true', beq_eq_false_iff_ne] at this
    rcases this with h | h
    · exact hne h
    · exact h he
  · have := ((key i o hi).2.2 j p hj).2
    rw [hd] at this
    simp only [Bool.or_eq_true, Bool.not_eq_true'] at this
    rcases this with h | h
    · rw [List.contains_eq_mem] at h
      simp [hm] at h
    · rw [Array.any_eq_true] at h
      obtain ⟨i', hi', h⟩ := h
      simp only [Bool.and_eq_true, beq_iff_eq] at h
      exact ⟨_, Array.getElem_mem hi', h.1, h.2⟩

theorem DrawOk.nodup {ops : Array Oper} (h : DrawOk ops) : (dsts ops.toList).Nodup := by
  have aux : ∀ (l : List Oper), (∀ (i : Nat) (o : Oper) (j : Nat) (p : Oper), l[i]? = some o → l[j]? = some p → i ≠ j → o.dst ≠ p.dst) → (dsts l).Nodup := by
    intro l
    induction l with
    | nil => intro _; exact List.nodup_nil
    | cons o l ih =>
      intro hne
      have ih' := ih (fun i o' j p hi hj hij => hne (i + 1) o' (j + 1) p (by simpa using hi) (by simpa using hj) (by omega))
      cases hd : o.dst with
      | none => simpa [dsts, hd] using ih'
      | some d =>
        have : dsts (o :: l) = d :: dsts l := by simp [dsts, hd]
        rw [this]
        refine List.nodup_cons.2 ⟨fun hm => ?_, ih'⟩
        unfold dsts at hm
        rw [List.mem_filterMap] at hm
        obtain ⟨p, hp, hpd⟩ := hm
        obtain ⟨j, hj, hjp⟩ := List.getElem_of_mem hp
        exact hne 0 o (j + 1) p rfl (by simp [List.getElem?_eq_getElem hj, hjp]) (by omega) (by rw [hd, hpd])
  exact aux ops.toList (fun i o j p hi hj => h.ne i o j p (by simpa using hi) (by simpa using hj))

theorem count_lt {α : Type} (p q : α → Bool) (l : List α) (h : ∀ x ∈ l, q x = true → p x = true) {x : α} (hx : x ∈ l) (hp : p x = true) (hq : q x = false) : l.countP q < l.countP p := by
  induction l with
  | nil => cases hx
  | cons y l ih =>
    simp only [List.countP_cons]
    rcases List.mem_cons.1 hx with rfl | hx'
    · have hle : l.countP q ≤ l.countP p := List.countP_mono_left (fun z hz => h z (List.mem_cons_of_mem _ hz))
      simp only [hp, hq, if_true]
      simp
      omega
    · have := ih (fun z hz => h z (List.mem_cons_of_mem _ hz)) hx'
      have hy := h y (List.mem_cons_self ..)
      by_cases a : q y = true
      · simp only [a, hy a, if_true]; omega
      · by_cases b : p y = true
        · simp only [a, b, if_true]; simp; omega
        · simp only [a, b]; simp; omega

section
variable {P : Program} {c : Ctx} {t : Nat → AV} {m : List Blk} {Q : Exit → AS → Prop}

open Classical in
/-- What is known when some have been done. -/
noncomputable def TL (ops : Array Oper) (T : Nat → AV) (listed : Array Bool) : Nat → AV := fun x => if ∃ (i : Nat) (o : Oper), ops[i]? = some o ∧ o.dst = some x ∧ listed.getD i true = false then .top else T x

open Classical in
theorem draw_any {ops : Array Oper} (hok : DrawOk ops) {T : Nat → AV} (hT : ∀ (i : Nat) (o : Oper), ops[i]? = some o → ∃ d, o.dst = some d ∧ d < c.nt ∧ Good1 P c m ops T o (T d)) (hQ : Q .normal ⟨T, m⟩) :
    ∀ (fuel : Nat) (listed : Array Bool) (a : Act) (w : World) (S : Stab) (H : Nat → Value), listed.size = ops.size → (List.range ops.size).countP (fun i => !listed.getD i true) ≤ fuel →
      Rel c ⟨TL ops T listed, m⟩ a w S H → wpAny P .any ops (QR c Q) fuel listed a w := by
  have done : ∀ (listed : Array Bool) (a : Act) (w : World) (S : Stab) (H : Nat → Value), listed.size = ops.size → Region.ready .any ops listed = [] → Rel c ⟨TL ops T listed, m⟩ a w S H → QR c Q .normal a w := by
    intro listed a w S H hsz hr r
    have hall : ∀ n i, i < n → i < ops.size → listed.getD i true = true := by
      intro n
      induction n with
      | zero => intro i h; omega
      | succ n ih =>
        intro i hi hio
        by_cases hb : listed.getD i true = true
        · exact hb
        · exfalso
          have hmem : i ∈ Region.ready .any ops listed := by
            unfold Region.ready
            refine List.mem_filter.2 ⟨List.mem_range.2 hio, ?_⟩
            have hlt := hok.lt i ops[i] (Array.getElem?_eq_getElem hio)
            have hb' : listed.getD i true = false := by simpa using hb
            simp only [hb', Bool.not_false, Bool.true_and, Array.getElem?_eq_getElem hio, Option.map_some, Option.getD_some]
            rw [Array.all_eq_true']
            intro e he
            have hel := hlt e he
            have h1 := ih e.on (by omega) (by omega)
            have h2 : listed.getD e.on false = true := by
              simp only [Array.getD_eq_getD_getElem?] at h1 ⊢
              rw [Array.getElem?_eq_getElem (by omega)] at h1 ⊢
              exact h1
            simp [h2]
          rw [hr] at hmem
          cases hmem
    have hTL : TL ops T listed = T := by
      funext x
      unfold TL
      rw [if_neg]
      rintro ⟨i, o, hi, _, hl⟩
      have := hall (i + 1) i (by omega) (Array.getElem?_eq_some_iff.1 hi).1
      rw [this] at hl
      cases hl
    rw [hTL] at r
    exact ⟨_, S, H, r, hQ⟩
  intro fuel
  induction fuel with
  | zero =>
    intro listed a w S H hsz hc r
    have hr : Region.ready .any ops listed = [] := by
      unfold Region.ready
      rw [List.filter_eq_nil_iff]
      intro i hi hb
      simp only [Bool.and_eq_true] at hb
      have : 0 < (List.range ops.size).countP (fun i => !listed.getD i true) := List.countP_pos_iff.2 ⟨i, hi, hb.1⟩
      omega
    exact ⟨hr, done listed a w S H hsz hr r⟩
  | succ fuel ih =>
    intro listed a w S H hsz hc r
    refine ⟨fun hr => done listed a w S H hsz hr r, fun i hi => ?_⟩
    unfold Region.ready at hi
    rw [List.mem_filter] at hi
    obtain ⟨hi1, hi2⟩ := hi
    have hio : i < ops.size := List.mem_range.1 hi1
    have hget : ops[i]? = some ops[i] := Array.getElem?_eq_getElem hio
    simp only [Bool.and_eq_true, hget, Option.map_some, Option.getD_some] at hi2
    obtain ⟨hun, haf⟩ := hi2
    have hun' : listed.getD i true = false := by simpa using hun
    obtain ⟨d, hd, hdn, hgood⟩ := hT i _ hget
    generalize ho : ops[i] = o at *
    -- the operands are known
    have hlook : ∀ y ∈ o.looksAt ops, TL ops T listed y = T y := by
      intro y hy
      unfold TL
      rw [if_neg]
      rintro ⟨j, p, hj, hpd, hl⟩
      obtain ⟨e, he, heo, hbind⟩ := hok.ed i o j p y hget hj hpd hy
      rw [Array.all_eq_true'] at haf
      have h1 := haf e he
      rw [hbind, heo] at h1
      simp only [Bool.not_true, Bool.false_or] at h1
      have hjl : j < ops.size := (Array.getElem?_eq_some_iff.1 hj).1
      simp only [Array.getD_eq_getD_getElem?] at h1 hl
      rw [Array.getElem?_eq_getElem (by omega)] at h1 hl
      simp only [Option.getD_some] at h1 hl
      rw [h1] at hl
      cases hl
    have hTL' : upd (TL ops T listed) d (T d) = TL ops T (listed.setIfInBounds i true) := by
      funext x
      rw [upd_def]
      by_cases hx : x = d
      · subst hx
        rw [if_pos rfl]
        unfold TL
        rw [if_neg]
        rintro ⟨j, p, hj, hpd, hl⟩
        by_cases hij : i = j
        · subst hij
          simp only [Array.getD_eq_getD_getElem?, Array.getElem?_setIfInBounds_self_of_lt (by omega : i < listed.size), Option.getD_some] at hl
          cases hl
        · exact hok.ne i o j p hget hj hij (by rw [hd, hpd])
      · rw [if_neg hx]
        unfold TL
        by_cases hex : ∃ (j : Nat) (p : Oper), ops[j]? = some p ∧ p.dst = some x ∧ listed.getD j true = false
        · rw [if_pos hex]
          obtain ⟨j, p, hj, hpd, hl⟩ := hex
          rw [if_pos]
          refine ⟨j, p, hj, hpd, ?_⟩
          have hij : i ≠ j := by
            intro e; subst e
            rw [hget] at hj
            cases hj
            rw [hd] at hpd
            cases hpd
            exact hx rfl
          simp only [Array.getD_eq_getD_getElem?, Array.getElem?_setIfInBounds_ne hij]
          simpa [Array.getD_eq_getD_getElem?] using hl
        · rw [if_neg hex, if_neg]
          rintro ⟨j, p, hj, hpd, hl⟩
          refine hex ⟨j, p, hj, hpd, ?_⟩
          by_cases hij : i = j
          · subst hij; exact hun'
          · simp only [Array.getD_eq_getD_getElem?, Array.getElem?_setIfInBounds_ne hij] at hl
            simpa [Array.getD_eq_getD_getElem?] using hl
    have hcnt : (List.range ops.size).countP (fun j => !(listed.setIfInBounds i true).getD j true) ≤ fuel := by
      have := count_lt (fun j => !listed.getD j true) (fun j => !(listed.setIfInBounds i true).getD j true) (List.range ops.size) (fun j _ hj => by
        by_cases hij : i = j
        · subst hij
          simp only [Array.getD_eq_getD_getElem?, Array.getElem?_setIfInBounds_self_of_lt (by omega : i < listed.size), Option.getD_some] at hj
          cases hj
        · simp only [Array.getD_eq_getD_getElem?, Array.getElem?_setIfInBounds_ne hij] at hj
          simpa [Array.getD_eq_getD_getElem?] using hj) hi1 hun (by simp only [Array.getD_eq_getD_getElem?, Array.getElem?_setIfInBounds_self_of_lt (by omega : i < listed.size), Option.getD_some]; rfl)
      omega
    have next : ∀ v w' S', Ext w S w' S' → InH w' S' → AVR (GRep w' S' m H) (T d) v → wpAny P .any ops (QR c Q) fuel (listed.setIfInBounds i true) (a.put o.dst v) w' := by
      intro v w' S' hext hin hv
      rw [hd]
      refine ih _ _ w' S' H (by simpa using hsz) hcnt ?_
      rw [← hTL']
      exact (r.ext hext hin).put hdn hv
    have hw : wpOp P ops (QR c Q) i (wpAny P .any ops (QR c Q) fuel (listed.setIfInBounds i true)) a w := by
      unfold wpOp
      rw [hget]
      simp only
      have hrr : Rel c ⟨restr T (o.looksAt ops), m⟩ a w S H := by
        refine r.weak (fun y => ?_)
        unfold restr
        cases hc' : (o.looksAt ops).contains y with
        | false => exact .inr rfl
        | true => exact .inl (hlook y (by simpa using hc')).symm
      rcases hgood with ⟨hg, hop⟩ | ⟨hg, hx⟩
      · have hwant : Region.wanted o (yielded ops a.tmps) = true := by
          rcases hg with hg | ⟨j, want, dj, h1, h2, h3⟩
          · simp [Region.wanted, hg]
          · have h4 := r.tm dj
            have h5 : TL ops T listed dj = .s (.one (.b want)) := by rw [hlook dj (mem_looks_guard h1 h2)]; exact h3
            rw [show (⟨TL ops T listed, m⟩ : AS).t dj = .s (.one (.b want)) from h5] at h4
            have hv : a.tmps.getD dj undef = .bool want := rep_b (h4 : Rep w S (.b want) (a.tmps.getD dj undef))
            have hs : a.tmps[dj]? = some (.bool want) := by
              simp only [Array.getD_eq_getD_getElem?] at hv
              cases hq : a.tmps[dj]? with
              | none => rw [hq] at hv; cases hv
              | some u => rw [hq] at hv; simp only [Option.getD_some] at hv; rw [hv]
            simp only [Region.wanted, h1, yielded, h2, Option.bind_some, hs, beq_self_eq_true]
        rw [if_pos hwant]
        obtain ⟨odst, oop, oty, opos, oaf, og⟩ := o
        exact .inl (hop a w S H hrr odst opos oaf og _ _ (fun v w' S' h1 h2 h3 => next v w' S' h1 h2 h3))
      · have hwant : Region.wanted o (yielded ops a.tmps) = false := by
          obtain ⟨j, want, dj, h1, h2, h3⟩ := hg
          have h4 := r.tm dj
          rw [show (⟨TL ops T listed, m⟩ : AS).t dj = T dj from hlook dj (mem_looks_guard h1 h2)] at h4
          simp only [Region.wanted, h1, yielded, h2, Option.bind_some]
          rcases h3 with h3 | ⟨b, h3, hb⟩
          · rw [h3] at h4
            obtain ⟨vs, hv, _⟩ := h4
            simp only [Array.getD_eq_getD_getElem?] at hv
            cases hq : a.tmps[dj]? with
            | none => rfl
            | some u => rw [hq] at hv; simp only [Option.getD_some] at hv; subst hv; rfl
          · rw [h3] at h4
            have hv : a.tmps.getD dj undef = .bool b := rep_b (h4 : Rep w S (.b b) (a.tmps.getD dj undef))
            simp only [Array.getD_eq_getD_getElem?] at hv
            cases hq : a.tmps[dj]? with
            | none => rfl
            | some u =>
              rw [hq] at hv; simp only [Option.getD_some] at hv; subst hv
              cases b <;> cases want <;> first | rfl | cases hb
        rw [if_neg (by rw [hwant]; simp)]
        have := next undef w S (Ext.refl w S) r.sl (by rw [hx]; exact avr_undef)
        exact this
    exact hw

/-- A region that draws its order. -/
theorem cdraw {id : Nat} {l : List Oper} (hm : P.follows .mixedOrders = true) (hok : okDraw l.toArray = true) (h : DR P c m l.toArray (fun T => Q .normal ⟨T, m⟩) l t) : AWC P c (.region id l.toArray true) Q ⟨t, m⟩ := by
  have ok := drawOk_of hok
  have hnd := ok.nodup
  obtain ⟨T, hQ, hTt, hG⟩ := DR.get h (by simpa using hnd) (fun i o hi y hy hm' => by
    unfold dsts at hm'
    rw [List.mem_filterMap] at hm'
    obtain ⟨p, hp, hpd⟩ := hm'
    obtain ⟨j, hj, hjp⟩ := List.getElem_of_mem hp
    have hjl : l[i + j]? = some p := by
      rw [List.getElem_drop] at hjp
      have : i + j < l.length := by simp at hj; omega
      rw [List.getElem?_eq_getElem this, hjp]
    obtain ⟨e, he, heo, _⟩ := ok.ed i o (i + j) p y (by simpa using hi) (by simpa using hjl) hpd hy
    have := ok.lt i o (by simpa using hi) e he
    omega)
  intro a w S H r
  refine wp_region_any hm ?_
  have hG' : ∀ (i : Nat) (o : Oper), (l.toArray)[i]? = some o → ∃ d, o.dst = some d ∧ d < c.nt ∧ Good1 P c m l.toArray T o (T d) := fun i o hi => hG i o (by simpa using hi)
  have hcnt : (List.range l.toArray.size).countP (fun i => !(Array.replicate l.toArray.size false).getD i true) ≤ l.toArray.size := by
    refine Nat.le_trans List.countP_le_length ?_
    simp
  refine draw_any ok hG' hQ l.toArray.size (Array.replicate l.toArray.size false) a _ S H (by simp) hcnt ?_
  have r' : Rel c ⟨t, m⟩ a w.drew S H := r.ext (Ext.drew w S) r.sl
  refine r'.weak (fun x => ?_)
  unfold TL
  by_cases hx : x ∈ dsts l
  · right
    rw [if_pos]
    unfold dsts at hx
    rw [List.mem_filterMap] at hx
    obtain ⟨p, hp, hpd⟩ := hx
    obtain ⟨j, hj, hjp⟩ := List.getElem_of_mem hp
    refine ⟨j, p, by simp [hj, hjp], hpd, ?_⟩
    simp [Array.getD_eq_getD_getElem?, hj]
  · left
    rw [if_neg, hTt x hx]
    rintro ⟨i, o, hi, hod, _⟩
    refine hx ?_
    unfold dsts
    rw [List.mem_filterMap]
    have hi' : l[i]? = some o := by simpa using hi
    exact ⟨o, List.mem_of_getElem? hi', hod⟩

/-! Its steps -/
variable {ops : Array Oper} {k : (Nat → AV) → Prop} {rest : List Oper} {op : Op} {ty : TypeId} {pos : String} {af : Array Edge} {d : Tmp} {x : AV}

theorem dnil (h : k t) : DR P c m ops k [] t := h
theorem dv (hd : decide (d < c.nt) = true) (h : OpV P c ⟨restr t (Oper.looksAt ops ⟨some d, op, ty, pos, af, none⟩), m⟩ op ty x) (kk : DR P c m ops k rest (upd t d x)) : DR P c m ops k (⟨some d, op, ty, pos, af, none⟩ :: rest) t :=
  ⟨x, d, rfl, of_decide_eq_true hd, .inl ⟨.inl rfl, h.opD⟩, kk⟩
theorem dvg {j : Nat} {want : Bool} {dj : Tmp} (hd : decide (d < c.nt) = true) (hj : (ops[j]?).bind (·.dst) = some dj) (ht : t dj = .s (.one (.b want))) (h : OpV P c ⟨restr t (Oper.looksAt ops ⟨some d, op, ty, pos, af, some (j, want)⟩), m⟩ op ty x) (kk : DR P c m ops k rest (upd t d x)) : DR P c m ops k (⟨some d, op, ty, pos, af, some (j, want)⟩ :: rest) t :=
  ⟨x, d, rfl, of_decide_eq_true hd, .inl ⟨.inr ⟨j, want, dj, rfl, hj, ht⟩, h.opD⟩, kk⟩
theorem dd (hd : decide (d < c.nt) = true) (h : OpD P c ⟨restr t (Oper.looksAt ops ⟨some d, op, ty, pos, af, none⟩), m⟩ op ty x) (kk : DR P c m ops k rest (upd t d x)) : DR P c m ops k (⟨some d, op, ty, pos, af, none⟩ :: rest) t :=
  ⟨x, d, rfl, of_decide_eq_true hd, .inl ⟨.inl rfl, h⟩, kk⟩
theorem ddg {j : Nat} {want : Bool} {dj : Tmp} (hd : decide (d < c.nt) = true) (hj : (ops[j]?).bind (·.dst) = some dj) (ht : t dj = .s (.one (.b want))) (h : OpD P c ⟨restr t (Oper.looksAt ops ⟨some d, op, ty, pos, af, some (j, want)⟩), m⟩ op ty x) (kk : DR P c m ops k rest (upd t d x)) : DR P c m ops k (⟨some d, op, ty, pos, af, some (j, want)⟩ :: rest) t :=
  ⟨x, d, rfl, of_decide_eq_true hd, .inl ⟨.inr ⟨j, want, dj, rfl, hj, ht⟩, h⟩, kk⟩
theorem doff {j : Nat} {want b : Bool} {dj : Tmp} (hd : decide (d < c.nt) = true) (hj : (ops[j]?).bind (·.dst) = some dj) (ht : t dj = .s (.one (.b b))) (hb : (b == want) = false) (kk : DR P c m ops k rest (upd t d (.tup []))) : DR P c m ops k (⟨some d, op, ty, pos, af, some (j, want)⟩ :: rest) t :=
  ⟨.tup [], d, rfl, of_decide_eq_true hd, .inr ⟨⟨j, want, dj, rfl, hj, .inr ⟨b, ht, hb⟩⟩, rfl⟩, kk⟩
theorem doffu {j : Nat} {want : Bool} {dj : Tmp} (hd : decide (d < c.nt) = true) (hj : (ops[j]?).bind (·.dst) = some dj) (ht : t dj = .tup []) (kk : DR P c m ops k rest (upd t d (.tup []))) : DR P c m ops k (⟨some d, op, ty, pos, af, some (j, want)⟩ :: rest) t :=
  ⟨.tup [], d, rfl, of_decide_eq_true hd, .inr ⟨⟨j, want, dj, rfl, hj, .inl ht⟩, rfl⟩, kk⟩
theorem dsplit {l : List Oper} (dj : Tmp) {b : Bool} (ht : t dj = .s (.one (.b b))) (k1 : b = true → DR P c m ops k l (upd t dj (.s (.one (.b true))))) (k0 : b = false → DR P c m ops k l (upd t dj (.s (.one (.b false))))) : DR P c m ops k l t := by
  cases b
  · have := k0 rfl; rwa [upd_same ht] at this
  · have := k1 rfl; rwa [upd_same ht] at this
theorem dtell {l : List Oper} (dj : Tmp) {y : AV} (z : AV) (ht : t dj = y) (e : y = z) (kk : DR P c m ops k l (upd t dj z)) : DR P c m ops k l t := by
  subst e
  rwa [upd_same ht] at kk
end
end Go.Proofs.Ytaffjoloefhodaa.Abs

