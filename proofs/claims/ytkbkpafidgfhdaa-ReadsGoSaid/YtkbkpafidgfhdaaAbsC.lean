/-
  A walk over abstract states: its rules, part C.
-/
import Derived.Test.YtkbkpafidgfhdaaAbsB
import Derived.Shelf.SortM.Plain
import Derived.Shelf.SortM.SortNone
import Derived.Shelf.SlicesE.Compact
/-
  Own maps told by their place, their keys structures of a few cells.
-/
namespace Go.Proofs.Ytkbkpafidgfhdaa.Abs
open Go.RowKit Go.MapKept
open Go.ChangeMaps (setBlock)
theorem setH_self (H : Nat → Value) (p : Nat) : setH H p (H p) = H := by
  funext q
  by_cases h : q = p
  · subst h; rw [setH_same]
  · rw [setH_other _ _ h]
theorem nodup_of_map {α β : Type} (f : α → β) : ∀ {l : List α}, (l.map f).Nodup → l.Nodup
  | [], _ => List.nodup_nil
  | x :: l, h => by
    rw [List.map_cons, List.nodup_cons] at h
    exact List.nodup_cons.2 ⟨fun hx => h.1 (List.mem_map.2 ⟨x, hx, rfl⟩), nodup_of_map f h.2⟩
theorem Rel.retab {c : Ctx} {t : Nat → AV} {m : List Blk} {a : Act} {w : World} {S : Stab} {H : Nat → Value} (r : Rel c ⟨t, m⟩ a w S H) {p g : Nat} {b b' : Blk} {mk : List (List Value) → Obj → Prop} {cs : List (List Lf)}
    (hm : m[p]? = some b) (hbb : b = .obj g mk cs ∨ b = .tab mk cs) (hbb' : b' = .obj g mk cs ∨ b' = .tab mk cs) (hH : H p = .pointer (some ⟨g, 0, none⟩)) : Rel c ⟨t, m.set p b'⟩ a w S H := by
  have hp : p < m.length := (List.getElem?_eq_some_iff.1 hm).1
  have hob : b.own (H p) = some g := by rcases hbb with rfl | rfl <;> rw [hH] <;> rfl
  have hlo := r.lo p _ g hm hob
  have hbl := r.bl p _ hm
  have hcont : ∃ vs o, w.heap[g]? = some o ∧ isTab o = true ∧ mk vs o ∧ LsR2 (Rep w S) cs vs := by
    rcases hbb with rfl | rfl
    · obtain ⟨_, h⟩ := hbl; exact h
    · obtain ⟨g', h1, h⟩ := hbl
      rw [hH] at h1; cases h1
      exact h
  have hst : b'.stab = 0 := by rcases hbb' with rfl | rfl <;> rfl
  have hst0 : b.stab = 0 := by rcases hbb with rfl | rfl <;> rfl
  have := r.change (m' := m.set p b') (b' := b') (v := H p) (w' := w) (S' := S) (by simp) (by rw [List.getElem?_set_self hp]) (fun q hq => by rw [List.getElem?_set_ne (Ne.symm hq)]) (fun b i hs => ⟨hs, rfl⟩) (fun _ _ _ => rfl) (fun e sz k cs _ h => by rcases hbb' with rfl | rfl <;> cases h)
    (fun g' _ hg' => rfl) (by rcases hbb' with rfl | rfl
                              · exact ⟨hH, hcont⟩
                              · exact ⟨g, hH, hcont⟩) (fun g' hg' => ?_) (fun q b g i _ _ _ h => h) (fun g i _ _ h => h) r.sl (Nat.le_refl _) rfl rfl rfl (fun h => by rcases h with h | h <;> rcases hbb' with rfl | rfl <;> cases h)
  · rw [setH_self] at this
    exact this
  · have hg2 : g = g' := by
      have : b'.own (H p) = some g := by rcases hbb' with rfl | rfl <;> rw [hH] <;> rfl
      rw [this] at hg'
      exact Option.some.inj hg'
    subst hg2
    exact ⟨hlo.1, hlo.2, fun q b2 hq hb ho' => hq (r.inj q p b2 _ g hb hm ho' hob), fun i hi => absurd (r.sb p _ g i hm hob hi) (by rw [hst0]; exact Nat.not_lt_zero _)⟩
theorem Rel.toTab {c : Ctx} {t : Nat → AV} {m : List Blk} {a : Act} {w : World} {S : Stab} {H : Nat → Value} (r : Rel c ⟨t, m⟩ a w S H) {p g : Nat} {mk : List (List Value) → Obj → Prop} {cs : List (List Lf)} (hm : m[p]? = some (.obj g mk cs)) : Rel c ⟨t, m.set p (.tab mk cs)⟩ a w S H :=
  r.retab hm (.inl rfl) (.inr rfl) (r.bl p _ hm).1
theorem Rel.ofTab {c : Ctx} {t : Nat → AV} {m : List Blk} {a : Act} {w : World} {S : Stab} {H : Nat → Value} (r : Rel c ⟨t, m⟩ a w S H) {p : Nat} {mk : List (List Value) → Obj → Prop} {cs : List (List Lf)} (hm : m[p]? = some (.tab mk cs)) : ∃ g, H p = .pointer (some ⟨g, 0, none⟩) ∧ Rel c ⟨t, m.set p (.obj g mk cs)⟩ a w S H := by
  obtain ⟨g, h1, _⟩ := r.bl p _ hm
  exact ⟨g, h1, r.retab hm (.inr rfl) (.inl rfl) h1⟩
def lval : Lf → Value
  | .i k n => .int k n
  | .b x => .bool x
  | .s x => .string x
  | _ => undef
def kval (l : List Lf) : Value := .agg (l.map lval).toArray
theorem lval_of {w : World} {S : Stab} {m : List Blk} {H : Nat → Value} {l : Lf} {v : Value} (h : GRep w S m H l v) (ht : l.tag < 3) : v = lval l := by
  cases l <;> simp [Lf.tag] at ht
  · exact rep_i h
  · exact rep_b h
  · exact rep_s h
theorem lvals_of {w : World} {S : Stab} {m : List Blk} {H : Nat → Value} {ls : List Lf} {vs : List Value} (h : LsR (GRep w S m H) ls vs) (ht : ∀ l ∈ ls, l.tag < 3) : vs = ls.map lval := by
  apply List.ext_getElem?
  intro j
  rw [List.getElem?_map]
  rcases Nat.lt_or_ge j ls.length with hj | hj
  · have hv : j < vs.length := by rw [← h.1]; exact hj
    rw [List.getElem?_eq_getElem hj, List.getElem?_eq_getElem hv]
    exact congrArg some (lval_of (h.2 j _ _ (List.getElem?_eq_getElem hj) (List.getElem?_eq_getElem hv)) (ht _ (List.getElem_mem hj)))
  · rw [List.getElem?_eq_none hj, List.getElem?_eq_none (by rw [← h.1]; exact hj)]; rfl
theorem grep_lval {w : World} {S : Stab} {m : List Blk} {H : Nat → Value} {l : Lf} (ht : l.tag < 3) : GRep w S m H l (lval l) := by
  cases l <;> simp [Lf.tag] at ht
  · exact .i _ _
  · exact .b _
  · exact .s _
section
variable {P : Program} {kt : TypeId} {n : List Nat}
theorem run_checkFlat {w : World} {em : Bool} {d : Nat} {xs : Array Value} : ∀ (fs : List Field) (i : Nat) (n : List Nat), flatF P i fs n = true → (∀ k ∈ n, k < 3) → (∀ j, j < n.length → ∃ v, xs[i + j]? = some v) →
    (forIn fs PUnit.unit (fun f (_ : PUnit) => if f.name ≠ "_" then (do
              let v ← part f.type xs f.offset
              Instr.checkKey em (d + 1) f.type v
              pure (ForInStep.yield PUnit.unit) : Sem (ForInStep PUnit))
            else pure (ForInStep.yield PUnit.unit))).run P w = .ok PUnit.unit w
  | [], _, _, _, _, _ => by simp
  | f :: fs, i, [], h, _, _ => by cases h
  | f :: fs, i, k :: ks, h, ht, hx => by
    simp only [flatF, Bool.and_eq_true, bne_iff_ne, ne_eq, beq_iff_eq] at h
    obtain ⟨⟨⟨h1, h2⟩, h3⟩, h4⟩ := h
    obtain ⟨v, hv⟩ := hx 0 (by simp)
    have hk := ht k (List.mem_cons_self ..)
    have ht4 : tagOf (P.underlying f.type) < 4 := by rw [h3]; omega
    have hc : (Instr.checkKey em (d + 1) f.type v).run P w = .ok () w := by
      cases hu : P.underlying f.type with
      | none => rw [hu] at ht4; simp [tagOf] at ht4
      | some dd =>
        rw [hu] at h3 ht4
        cases dd <;> simp [tagOf] at ht4 <;> simp [Instr.checkKey, run_underlying hu]
    have ih := run_checkFlat (w := w) (em := em) (d := d) fs (i + 1) ks h4 (fun x hx => ht x (List.mem_cons_of_mem _ hx)) (fun j hj => by
      obtain ⟨v, hv⟩ := hx (j + 1) (by simpa using hj)
      exact ⟨v, by rw [show i + 1 + j = i + (j + 1) by omega]; exact hv⟩)
    rw [Nat.add_zero] at hv
    rw [List.forIn_cons]
    simp only [Sem.run_bind, h2, h1, ne_eq, not_false_eq_true, if_true, part_flat ht4 hv, Result.andThen_ok, hc, Sem.run_pure]
    exact ih
theorem run_checkS {w : World} {em : Bool} {ls : List Lf} (et : EqT P kt n) (hn : ls.map Lf.tag = n) (ht : ∀ l ∈ ls, l.tag < 3) : (Instr.checkKey em 10000 kt (kval ls)).run P w = .ok () w := by
  show (Instr.checkKey em (9998 + 1 + 1) kt (.agg _)).run P w = _
  rw [Instr.checkKey]
  simp only [Sem.run_bind, run_underlying et.u, Result.andThen_ok]
  rw [← Array.forIn_toList]
  have := run_checkFlat (w := w) (em := em) (d := 9998) (xs := (ls.map lval).toArray) _ 0 n et.f (fun k hk => by
    rw [← hn] at hk
    obtain ⟨l, hl, rfl⟩ := List.mem_map.1 hk
    exact ht l hl) (fun j hj => by
    have hl : j < ls.length := by rw [← hn] at hj; simpa using hj
    exact ⟨lval ls[j], by simp [hl]⟩)
  rw [this]
  simp
structure KeyE (κ : Type) [DecidableEq κ] (P : Program) (kt : TypeId) (e : κ → List Lf) (n : List Nat) : Prop where
  et : EqT P kt n
  tag : ∀ k, (e k).map Lf.tag = n
  low : ∀ x ∈ n, x < 3
  eq : ∀ k k', eqLs (e k) (e k') = some (decide (k = k'))
variable {κ : Type} [DecidableEq κ] {e : κ → List Lf}
theorem KeyE.lt (h : KeyE κ P kt e n) (k : κ) : ∀ l ∈ e k, l.tag < 3 := fun l hl => h.low _ (by rw [← h.tag k]; exact List.mem_map.2 ⟨l, hl, rfl⟩)
theorem KeyE.equal (h : KeyE κ P kt e n) (w : World) (k k' : κ) : (Op.equal kt (kval (e k)) (kval (e k'))).run P w = .ok (decide (k = k')) w := by
  show (Op.equalIn (9999 + 1) kt (.agg _) (.agg _)).run P w = _
  rw [run_equalIn_struct w 9999 kt _ _ h.et.u h.et.h]
  refine eqFields_flat (d := 9998) (S := fun _ _ => False) (m := []) (H := fun _ => undef) _ 0 (e k) (e k') _ (by rw [h.tag]; exact h.et.f) ((h.tag k).trans (h.tag k').symm) (h.eq k k') (fun j l hl => ?_) (fun j l hl => ?_)
  · exact ⟨lval l, by simp [hl], grep_lval (h.lt k l (List.mem_of_getElem? hl))⟩
  · exact ⟨lval l, by simp [hl], grep_lval (h.lt k' l (List.mem_of_getElem? hl))⟩
theorem KeyE.inj (h : KeyE κ P kt e n) {k k' : κ} (hk : kval (e k) = kval (e k')) : k = k' := by
  have h1 := h.equal default k k'
  rw [hk, h.equal default k' k'] at h1
  have : decide (k' = k') = decide (k = k') := by injection h1
  rw [decide_eq_true rfl] at this
  exact of_decide_eq_true this.symm
theorem KeyE.asking (h : KeyE κ P kt e n) (w : World) (k : κ) : ∀ (es : List MapEntry) (ks : List κ) (i : Nat), es.map (·.key) = ks.map (fun k => kval (e k)) →
    ((Instr.findAsking kt (kval (e k)) es i).run P w = .ok none w ∧ k ∉ ks) ∨ ∃ j x, (Instr.findAsking kt (kval (e k)) es i).run P w = .ok (some (i + j, x.val)) w ∧ es[j]? = some x ∧ ks[j]? = some k
  | [], [], i, _ => .inl ⟨by simp [Instr.findAsking], by simp⟩
  | [], _ :: _, i, h => by cases h
  | _ :: _, [], i, h => by cases h
  | x :: es, k' :: ks, i, hk => by
    simp only [List.map_cons, List.cons.injEq] at hk
    obtain ⟨hk1, hk2⟩ := hk
    by_cases hkk : k = k'
    · subst hkk
      refine .inr ⟨0, x, ?_, rfl, rfl⟩
      simp [Instr.findAsking, hk1, h.equal]
    · rcases h.asking w k es ks (i + 1) hk2 with ⟨h1, h2⟩ | ⟨j, y, h1, h2, h3⟩
      · refine .inl ⟨by simp [Instr.findAsking, hk1, h.equal, hkk, h1], ?_⟩
        rw [List.mem_cons]; rintro (h | h); exact hkk h; exact h2 h
      · refine .inr ⟨j + 1, y, ?_, by simpa using h2, by simpa using h3⟩
        simp [Instr.findAsking, hk1, h.equal, hkk, h1, Nat.add_assoc, Nat.add_comm 1 j]
theorem KeyE.find (h : KeyE κ P kt e n) (w : World) (k : κ) {es : List MapEntry} {ks : List κ} (hk : es.map (·.key) = ks.map (fun k => kval (e k))) :
    ((Instr.findKey kt (kval (e k)) es).run P w = .ok none w ∧ k ∉ ks) ∨ ∃ j x, (Instr.findKey kt (kval (e k)) es).run P w = .ok (some (j, x.val)) w ∧ es[j]? = some x ∧ ks[j]? = some k := by
  have hf : (Instr.findKey kt (kval (e k)) es).run P w = (Instr.findAsking kt (kval (e k)) es).run P w := by
    cases es with
    | nil => simp [Instr.findKey, run_underlying h.et.u, Result.andThen, Instr.findNow, Instr.findAsking]
    | cons x es =>
      have : Instr.findNow (.struct (P.fieldsOf kt)) (kval (e k)) (x :: es) 0 = none := by simp [Instr.findNow, Instr.sameNow]
      simp [Instr.findKey, run_underlying h.et.u, Result.andThen, this]
  rw [hf]
  rcases h.asking w k es ks 0 hk with h | ⟨j, x, h1, h2, h3⟩
  · exact .inl h
  · rw [Nat.zero_add] at h1
    exact .inr ⟨j, x, h1, h2, h3⟩
theorem sameBits_lval (l : Lf) (h : l.tag < 3) (d : Nat) : Instr.sameBits d (lval l) (lval l) = true := by
  cases l <;> simp [Lf.tag] at h <;> cases d <;> simp [lval, Instr.sameBits] <;> exact (bytes_beq _ _).2 rfl
theorem KeyE.stays (h : KeyE κ P kt e n) (w : World) (k : κ) : (Instr.keyThatStays (kval (e k)) (kval (e k))).run P w = .ok (kval (e k)) w := by
  have hs : Instr.sameBits 10000 (kval (e k)) (kval (e k)) = true := by
    show Instr.sameBits (9999 + 1) (.agg _) (.agg _) = true
    simp only [Instr.sameBits, beq_self_eq_true, Bool.true_and, List.all_eq_true]
    intro p hp
    obtain ⟨i, hi, hpe⟩ := List.getElem_of_mem hp
    rw [List.getElem_zip] at hpe
    rw [← hpe]
    simp only [List.getElem_map]
    exact sameBits_lval _ (h.lt k _ (List.getElem_mem _)) 9999
  simp [Instr.keyThatStays, hs]
end
section
variable {κ : Type} [DecidableEq κ]
def ixPut (M : List (κ × Int)) (k : κ) (i : Int) : List (κ × Int) := if M.any (fun x => decide (x.1 = k)) then M.map (fun x => if x.1 = k then (x.1, i) else x) else M ++ [(k, i)]
def ixHas (M : List (κ × Int)) (k : κ) : Bool := M.any (fun x => decide (x.1 = k))
def ixGet (M : List (κ × Int)) (k : κ) : Int := match M.find? (fun x => decide (x.1 = k)) with | some x => x.2 | none => 0
def ixKeys (e : κ → List Lf) (M : List (κ × Int)) : List Value := (M.map (·.1)).map (fun k => kval (e k))
def ixCells (M : List (κ × Int)) : List (List Lf) := M.map fun x => [.i .i64 x.2]
abbrev ixBlk (e : κ → List Lf) (M : List (κ × Int)) : Blk := .tab (mkMap vone (ixKeys e M)) (ixCells M)
theorem ixHas_iff {M : List (κ × Int)} {k : κ} : ixHas M k = true ↔ k ∈ M.map (·.1) := by
  unfold ixHas
  rw [List.any_eq_true, List.mem_map]
  constructor
  · rintro ⟨x, h1, h2⟩; exact ⟨x, h1, of_decide_eq_true h2⟩
  · rintro ⟨x, h1, h2⟩; exact ⟨x, h1, decide_eq_true h2⟩
theorem ixPut_new {M : List (κ × Int)} {k : κ} {i : Int} (h : k ∉ M.map (·.1)) : ixPut M k i = M ++ [(k, i)] := by
  unfold ixPut
  rw [if_neg]
  intro hh
  exact h (ixHas_iff.1 hh)
theorem ixPut_at {M : List (κ × Int)} {k : κ} {i : Int} {j : Nat} (hd : (M.map (·.1)).Nodup) (hj : (M.map (·.1))[j]? = some k) : ixPut M k i = M.set j (k, i) := by
  have hj' := List.getElem?_eq_some_iff.1 hj
  obtain ⟨hlt, hk⟩ := hj'
  have hlt' : j < M.length := by simpa using hlt
  rw [List.getElem_map] at hk
  unfold ixPut
  rw [if_pos (show (M.any fun x => decide (x.1 = k)) = true from ixHas_iff.2 (List.mem_of_getElem? hj))]
  apply List.ext_getElem (by simp)
  intro q h1 h2
  rw [List.getElem_map, List.getElem_set]
  by_cases hq : j = q
  · subst hq; rw [if_pos rfl, if_pos hk, hk]
  · rw [if_neg hq, if_neg]
    intro he
    have h3 : q < M.length := by simpa using h2
    have h4 : q < (M.map (·.1)).length := by simpa using h3
    rcases Nat.lt_trichotomy j q with h5 | h5 | h5
    · exact (List.pairwise_iff_getElem.1 hd) j q hlt h4 h5 (by rw [List.getElem_map, List.getElem_map, hk]; exact he.symm)
    · exact hq h5
    · exact (List.pairwise_iff_getElem.1 hd) q j h4 hlt h5 (by rw [List.getElem_map, List.getElem_map, hk]; exact he)
theorem ixGet_at {M : List (κ × Int)} {k : κ} {j : Nat} (hd : (M.map (·.1)).Nodup) (hj : (M.map (·.1))[j]? = some k) : ∃ x, M[j]? = some x ∧ ixGet M k = x.2 := by
  induction M generalizing j with
  | nil => simp at hj
  | cons y M ih =>
    rw [List.map_cons, List.nodup_cons] at hd
    cases j with
    | zero =>
      have : y.1 = k := by simpa using hj
      refine ⟨y, rfl, ?_⟩
      unfold ixGet
      rw [List.find?_cons, decide_eq_true this]
    | succ j =>
      have hj' : (M.map (·.1))[j]? = some k := by simpa using hj
      obtain ⟨x, h1, h2⟩ := ih hd.2 hj'
      refine ⟨x, by simpa using h1, ?_⟩
      have hne : y.1 ≠ k := fun he => hd.1 (by rw [he]; exact List.mem_of_getElem? hj')
      unfold ixGet at h2 ⊢
      rw [List.find?_cons, decide_eq_false hne]
      exact h2
theorem ixGet_no {M : List (κ × Int)} {k : κ} (h : k ∉ M.map (·.1)) : ixGet M k = 0 := by
  unfold ixGet
  rw [List.find?_eq_none.2 fun x hx => by
    intro hh
    exact h (List.mem_map.2 ⟨x, hx, of_decide_eq_true hh⟩)]
end
section
variable {P : Program} {c : Ctx} {ops : Array Oper} {Q : Exit → AS → Prop} {rest : List Oper} {ty : TypeId} {pos : String} {af : Array Edge} {d : Tmp} {t : Nat → AV} {m : List Blk}
variable {κ : Type} [DecidableEq κ] {e : κ → List Lf} {n : List Nat} {kt : TypeId}
omit [DecidableEq κ] in
theorem smaketab {tm : TypeId} (e : κ → List Lf) (hd : decide (d < c.nt) = true)
    (k : AWL P c ops Q rest ⟨upd t d (.s (.one (.mp 0 m.length))), m ++ [ixBlk e []]⟩) : AWL P c ops Q (⟨some d, .makeMap tm none, ty, pos, af, none⟩ :: rest) ⟨t, m⟩ := by
  intro a w S H r
  refine wpList_plain rfl fun K hK => ?_
  unfold Oper.wp
  have hrun : (execOp a.eval ⟨some d, .makeMap tm none, ty, pos, af, none⟩).run P w = .ok (.value (.map (some w.heap.size))) (w.alloc (.map #[] 0)) := by
    simp [execOp, Instr.makeMap]
  rw [hrun]
  have r1 := r.newObj (o := .map #[] 0) (mk := mkMap vone (ixKeys e [])) (vss := []) (css := []) rfl ⟨#[], 0, rfl, stamped_empty 0, rfl, rfl⟩ ⟨rfl, fun j cs vs h => by simp at h⟩
  have r2 := r1.toTab (p := m.length) (g := w.heap.size) (mk := mkMap vone (ixKeys e [])) (cs := []) (by simp)
  have e2 : (m ++ [Blk.obj w.heap.size (mkMap vone (ixKeys e [])) []]).set m.length (.tab (mkMap vone (ixKeys e [])) []) = m ++ [ixBlk e []] := by simp [ixCells]
  rw [e2] at r2
  exact hK _ _ (k _ _ _ _ (r2.put (d := d) (x := .s (.one (.mp 0 m.length))) (of_decide_eq_true hd) ⟨by simp, w.heap.size, setH_same _ _ _, rfl⟩))
theorem opnd_tab {st : AS} {a : Act} {w : World} {S : Stab} {H : Nat → Value} (r : Rel c st a w S H) {x : Operand} {k p g : Nat} (hx : opnd st x = .s (.one (.mp k p))) (hH : H p = .pointer (some ⟨g, 0, none⟩)) : a.eval x = tabVal k g := by
  have h := opnd_rel r x
  rw [hx] at h
  obtain ⟨_, g', h1, h2⟩ := h
  rw [hH] at h1; cases h1
  exact h2
theorem opnd_key (K : KeyE κ P kt e n) {st : AS} {a : Act} {w : World} {S : Stab} {H : Nat → Value} (r : Rel c st a w S H) {y : Operand} {k : κ} (hy : opnd st y = .s (.agg (e k))) : a.eval y = kval (e k) := by
  have h := opnd_rel r y
  rw [hy] at h
  obtain ⟨vs, h1, h2⟩ := h
  rw [h1]
  unfold kval
  rw [← lvals_of h2 (K.lt k)]
theorem stabput {tm et : TypeId} (K : KeyE κ P kt e n) {x y z : Operand} {p : Nat} {M : List (κ × Int)} {k : κ} {i : Int} (hu : P.underlying tm = some (.map kt et))
    (hx : opnd ⟨t, m⟩ x = .s (.one (.mp 0 p))) (hy : opnd ⟨t, m⟩ y = .s (.agg (e k))) (hz : opnd ⟨t, m⟩ z = .s (.one (.i .i64 i))) (hm : m[p]? = some (ixBlk e M))
    (kk : AWL P c ops Q rest ⟨t, m.set p (ixBlk e (ixPut M k i))⟩) :
    AWL P c ops Q (⟨none, .mapUpdate tm x y z, ty, pos, af, none⟩ :: rest) ⟨t, m⟩ := by
  intro a w S H r0
  have ey0 := opnd_key K r0 hy
  obtain ⟨g, hH, r⟩ := r0.ofTab hm
  have hp : p < m.length := (List.getElem?_eq_some_iff.1 hm).1
  have ex := opnd_tab r0 hx hH
  have ez : a.eval z = .int .i64 i := by
    have h := opnd_rel r0 z
    rw [hz] at h
    exact rep_i h
  have hmo : (m.set p (Blk.obj g (mkMap vone (ixKeys e M)) (ixCells M)))[p]? = some (.obj g (mkMap vone (ixKeys e M)) (ixCells M)) := List.getElem?_set_self hp
  obtain ⟨h1, vss, o, h2, h3, ⟨es, clock, rfl, hst, hks, hvs⟩, h5⟩ := r.bl p _ hmo
  have hkeys : es.toList.map (·.key) = (M.map (·.1)).map (fun k => kval (e k)) := hks
  have hlen : (ixCells M).length = vss.length := h5.1
  have hlM : M.length = vss.length := by rw [← hlen]; simp [ixCells]
  have hesM : es.size = M.length := by
    have := congrArg List.length hkeys
    simpa using this
  have hnd : (M.map (·.1)).Nodup := by
    have h := hst.2.2
    rw [hkeys] at h
    exact nodup_of_map _ h
  have fin : ∀ {w' : World} {H' : Nat → Value} {o : Obj} {M' : List (κ × Int)}, Rel c ⟨t, (m.set p (Blk.obj g (mkMap vone (ixKeys e M)) (ixCells M))).set p (.obj g (mkMap vone (ixKeys e M')) (ixCells M'))⟩ a w' S H' → Rel c ⟨t, m.set p (ixBlk e M')⟩ a w' S H' := fun {w' H' o M'} r' => by
    have r'' := r'.toTab (p := p) (g := g) (mk := mkMap vone (ixKeys e M')) (cs := ixCells M') (by rw [List.set_set, List.getElem?_set_self hp])
    rw [List.set_set, List.set_set] at r''
    exact r''
  refine wpList_plain rfl fun KK hK => ?_
  unfold Oper.wp
  rcases K.find w k hkeys with ⟨f1, f2⟩ | ⟨j, x', f1, f2, f3⟩
  · have hrun : (execOp a.eval ⟨none, .mapUpdate tm x y z, ty, pos, af, none⟩).run P w = .ok .skip (setBlock w g (.map (es.push { key := kval (e k), val := .int .i64 i, born := clock }) (clock + 1))) := by
      simp [execOp, ex, ey0, ez, tabVal, Instr.mapUpdate, run_underlying hu, MapKept.run_getObj_map h2, run_checkS K.et (K.tag k) (K.lt k), f1, run_setObj_map _ h2, Result.andThen, setBlock]
    rw [hrun]
    have hput := ixPut_new (i := i) f2
    have hne : ∀ x ∈ es.toList, x.key ≠ kval (e k) := fun x hx he => by
      have : kval (e k) ∈ (M.map (·.1)).map (fun k => kval (e k)) := by rw [← hkeys, ← he]; exact List.mem_map.2 ⟨x, hx, rfl⟩
      obtain ⟨k', hk', he'⟩ := List.mem_map.1 this
      rw [K.inj he'] at hk'
      exact f2 hk'
    obtain ⟨H', r', _⟩ := r.setObj (mk' := mkMap vone (ixKeys e (ixPut M k i))) (css' := ixCells (ixPut M k i)) (vss := vss ++ [[.int .i64 i]]) (o := .map (es.push { key := kval (e k), val := .int .i64 i, born := clock }) (clock + 1)) hmo rfl
      ⟨_, _, rfl, stamped_push hst hne, by rw [hput]; simp [hkeys, ixKeys], by simp [hvs, vone]⟩ (by
        rw [hput]
        refine ⟨by simp [ixCells, hlM], fun q cs vs e1 e2 => ?_⟩
        rcases Nat.lt_or_ge q M.length with hq | hq
        · refine h5.2 q cs vs ?_ (by rw [List.getElem?_append_left (by omega)] at e2; exact e2)
          have : (ixCells (M ++ [(k, i)]))[q]? = (ixCells M)[q]? := by unfold ixCells; rw [List.map_append, List.getElem?_append_left (by simpa using hq)]
          rw [← this]; exact e1
        · rw [List.getElem?_append_right (by omega), ← hlM] at e2
          have : (ixCells (M ++ [(k, i)]))[q]? = ([[Lf.i .i64 i]] : List (List Lf))[q - M.length]? := by unfold ixCells; rw [List.map_append, List.getElem?_append_right (by simpa using hq)]; simp
          rw [this] at e1
          rcases Nat.eq_zero_or_pos (q - M.length) with h0 | h0
          · rw [h0] at e1 e2
            obtain rfl := Option.some.inj e1
            obtain rfl := Option.some.inj e2
            exact ⟨rfl, fun j l v a b => by
              cases j with
              | zero => obtain rfl := Option.some.inj a; obtain rfl := Option.some.inj b; exact .i _ _
              | succ j => simp at a⟩
          · rw [List.getElem?_eq_none (by rw [List.length_singleton]; omega)] at e1; cases e1)
    exact hK _ _ (kk _ _ _ _ (fin (o := .map #[] 0) r'))
  · have hj : j < es.size := by
      have := (List.getElem?_eq_some_iff.1 f2).1
      simpa using this
    have hjM : j < M.length := by omega
    have hkj : x'.key = kval (e k) := by
      have h6 : (es.toList.map (·.key))[j]? = some x'.key := by rw [List.getElem?_map, f2]; rfl
      rw [hkeys, List.getElem?_map, f3] at h6
      exact (Option.some.inj h6).symm
    have hej : es[j]? = some x' := by rw [← Array.getElem?_toList]; exact f2
    have hrun : (execOp a.eval ⟨none, .mapUpdate tm x y z, ty, pos, af, none⟩).run P w = .ok .skip (setBlock w g (.map (es.modify j fun E => { E with key := kval (e k), val := .int .i64 i }) clock)) := by
      simp [execOp, ex, ey0, ez, tabVal, Instr.mapUpdate, run_underlying hu, MapKept.run_getObj_map h2, run_checkS K.et (K.tag k) (K.lt k), f1, run_setObj_map _ h2, Result.andThen, setBlock, hej, hkj, K.stays]
    rw [hrun]
    have hput := ixPut_at (i := i) hnd f3
    have hmk : (es.modify j fun E => { E with key := kval (e k), val := .int .i64 i }).toList.map (·.key) = ixKeys e (M.set j (k, i)) := by
      rw [Array.toList_modify, map_modify (fun E : MapEntry => { E with key := kval (e k), val := .int .i64 i }) (fun E : MapEntry => E.key) (fun _ => kval (e k)) (fun _ => rfl), modify_const, hkeys]
      unfold ixKeys
      rw [List.map_set, List.map_set]
    have hmv : (es.modify j fun E => { E with key := kval (e k), val := .int .i64 i }).toList.map (·.val) = (vss.set j [.int .i64 i]).map vone := by
      rw [Array.toList_modify, map_modify (fun E : MapEntry => { E with key := kval (e k), val := .int .i64 i }) (fun E : MapEntry => E.val) (fun _ => Value.int .i64 i) (fun _ => rfl), modify_const, hvs, List.map_set]
      rfl
    obtain ⟨H', r', _⟩ := r.setObj (mk' := mkMap vone (ixKeys e (ixPut M k i))) (css' := ixCells (ixPut M k i)) (vss := vss.set j [.int .i64 i]) (o := .map (es.modify j fun E => { E with key := kval (e k), val := .int .i64 i }) clock) hmo rfl
      ⟨_, _, rfl, stamped_modify hst j _ (fun _ _ => rfl) (fun e' _ he' => by rw [hej] at he'; cases he'; exact hkj.symm), by rw [hput]; exact hmk, hmv⟩ (by
        rw [hput]
        refine ⟨by simp [ixCells, hlM], fun q cs vs e1 e2 => ?_⟩
        have e1' : ((ixCells M).set j [.i .i64 i])[q]? = some cs := by rw [← e1]; unfold ixCells; rw [List.map_set]
        rw [List.getElem?_set] at e1' e2
        by_cases hq : j = q
        · subst hq
          rw [if_pos rfl, if_pos (by omega)] at e1' e2
          obtain rfl := Option.some.inj e1'
          obtain rfl := Option.some.inj e2
          exact ⟨rfl, fun j l v a b => by
              cases j with
              | zero => obtain rfl := Option.some.inj a; obtain rfl := Option.some.inj b; exact .i _ _
              | succ j => simp at a⟩
        · rw [if_neg hq] at e1' e2
          exact h5.2 q cs vs e1' e2)
    exact hK _ _ (kk _ _ _ _ (fin (o := .map #[] 0) r'))
omit [DecidableEq κ] in
theorem opv_tablen {tm et : TypeId} {x : Operand} {p : Nat} {M : List (κ × Int)} (hu : P.underlying tm = some (.map kt et)) (hx : opnd ⟨t, m⟩ x = .s (.one (.mp 0 p))) (hm : m[p]? = some (ixBlk e M)) :
    OpV P c ⟨t, m⟩ (.call { callee := .builtin .len, args := #[x], argTypes := #[tm] }) ty (.s (.one (.i .i64 (M.length : Int)))) := by
  intro a w S H r
  obtain ⟨g, hH, vss, o, h2, h3, ⟨es, clock, rfl, hst, hks, hvs⟩, h5⟩ := r.bl p _ hm
  have ex := opnd_tab r hx hH
  have hesM : es.size = M.length := by
    have := congrArg List.length hks
    simpa [ixKeys] using this
  refine ⟨.int .i64 M.length, avr_rep (.i _ _), fun _ _ _ _ => ?_⟩
  simp [execOp, resolve, invoke, builtin, Builtin.len_, run_underlying hu, ex, tabVal, MapKept.run_getObj_map h2, Result.andThen, goInt, hesM]
theorem opv_tabget {tm et : TypeId} (K : KeyE κ P kt e n) {x y : Operand} {p : Nat} {M : List (κ × Int)} {k : κ} (hu : P.underlying tm = some (.map kt et)) (zi : (P.info? et).bind (·.zero) = some (.int .i64 0)) (hx : opnd ⟨t, m⟩ x = .s (.one (.mp 0 p))) (hy : opnd ⟨t, m⟩ y = .s (.agg (e k))) (hm : m[p]? = some (ixBlk e M)) :
    OpV P c ⟨t, m⟩ (.lookup tm x y true) ty (.tup [.one (.i .i64 (ixGet M k)), .one (.b (ixHas M k))]) := by
  intro a w S H r
  have ey0 := opnd_key K r hy
  obtain ⟨g, hH, vss, o, h2, h3, ⟨es, clock, rfl, hst, hks, hvs⟩, h5⟩ := r.bl p _ hm
  have ex := opnd_tab r hx hH
  have hkeys : es.toList.map (·.key) = (M.map (·.1)).map (fun k => kval (e k)) := hks
  have hnd : (M.map (·.1)).Nodup := by
    have h := hst.2.2
    rw [hkeys] at h
    exact nodup_of_map _ h
  have tup : ∀ (n : Int) (b : Bool), AVR (GRep w S m H) (.tup [.one (.i .i64 n), .one (.b b)]) (.tuple #[.int .i64 n, .bool b]) := fun n b => ⟨_, rfl, rfl, fun i x u h1 h2 => by
    match i with
    | 0 => obtain rfl := Option.some.inj h1; obtain rfl := Option.some.inj h2; exact GRep.of_rep (m := m) (H := H) (.i _ _)
    | 1 => obtain rfl := Option.some.inj h1; obtain rfl := Option.some.inj h2; exact GRep.of_rep (m := m) (H := H) (.b _)
    | i + 2 => simp at h1⟩
  rcases K.find w k hkeys with ⟨f1, f2⟩ | ⟨j, x', f1, f2, f3⟩
  · have e1 : ixHas M k = false := by
      cases hh : ixHas M k with
      | false => rfl
      | true => exact absurd (ixHas_iff.1 hh) f2
    rw [e1, ixGet_no f2]
    have hz : (zeroValue et).run P w = .ok (.int .i64 0) w := by
      cases hi : P.info? et with
      | none => rw [hi] at zi; cases zi
      | some inf =>
        rw [hi] at zi
        have hz0 : inf.zero = some (.int .i64 0) := zi
        simp [zeroValue, typeInfo, hi, hz0, Result.andThen]
    refine ⟨_, tup 0 false, fun _ _ _ _ => ?_⟩
    simp [execOp, ex, ey0, tabVal, Instr.lookup, run_underlying hu, MapKept.run_getObj_map h2, run_checkS K.et (K.tag k) (K.lt k), f1, Result.andThen, hz]
  · obtain ⟨y', h6, h7⟩ := ixGet_at hnd f3
    have e1 : ixHas M k = true := ixHas_iff.2 (List.mem_of_getElem? f3)
    rw [e1, h7]
    have hv : x'.val = .int .i64 y'.2 := by
      have h8 : (es.toList.map (·.val))[j]? = some x'.val := by rw [List.getElem?_map, f2]; rfl
      rw [hvs, List.getElem?_map] at h8
      cases hvj : vss[j]? with
      | none => rw [hvj] at h8; cases h8
      | some vs =>
        rw [hvj] at h8
        have h9 := h5.2 j [.i .i64 y'.2] vs (by unfold ixCells; rw [List.getElem?_map, h6]; rfl) hvj
        have h10 : vone vs = x'.val := Option.some.inj h8
        rw [← h10]
        match vs, h9 with
        | [v], h9 => exact rep_i (GRep.of_rep (m := m) (H := H) (h9.2 0 _ v rfl rfl))
        | [], h9 => have := h9.1; cases this
        | _ :: _ :: _, h9 => have := h9.1; simp at this
    refine ⟨_, tup y'.2 true, fun _ _ _ _ => ?_⟩
    simp [execOp, ex, ey0, tabVal, Instr.lookup, run_underlying hu, MapKept.run_getObj_map h2, run_checkS K.et (K.tag k) (K.lt k), f1, Result.andThen, hv]
theorem Rel.fillTab {c : Ctx} {t : Nat → AV} {m : List Blk} {a : Act} {w w' : World} {S S' : Stab} {H H' : Nat → Value} (r : Rel c ⟨t, m⟩ a w S H) {p : Nat} (hm : m[p]? = some .hole) {mk : List (List Value) → Obj → Prop} {cs : List (List Lf)}
    (hx : Ext w S w' S') (hin : InH w' S') (mem : Mem w' S' [.tab mk cs] H') (hown : ∀ g, ownOf (H' 0) = some g → w.heap.size ≤ g) :
    Rel c ⟨t, m.set p (.tab mk cs)⟩ a w' S' (setH H p (H' 0)) := by
  have hp : p < m.length := (List.getElem?_eq_some_iff.1 hm).1
  have hH : H p = undef := r.bl p _ hm
  refine r.changeH (p := p) (b' := .tab mk cs) (v := H' 0) (by simp) (List.getElem?_set_self hp) (fun q hq => List.getElem?_set_ne (fun e => hq e.symm)) (hx.keeps r.sl) (fun g _ h => (undef_ne (hH.symm.trans h)).elim)
    (fun e sz k cs _ h he => by cases he) (fun g hg _ => hx.blk g hg) (mem.bl 0 _ rfl) (fun g hg => ?_)
    (fun q b g i _ hb ho hs => hx.back g i (r.lo q b g hb ho).2 hs) (fun g i hg _ hs => hx.back g i (Nat.lt_of_lt_of_le hg r.ex.size) hs) hin hx.size hx.os hx.tape hx.output
  have hge := hown g hg
  refine ⟨.inl (Nat.le_trans r.ex.size hge), mem.hp 0 _ g rfl hg, fun q b _ hb ho => ?_, fun i hs => mem.sb 0 _ g i rfl hg hs⟩
  have := (r.lo q b g hb ho).2
  omega
theorem scallT_at {M : List Blk} {callee : Operand} {f : FuncId} {args : Array Operand} {ats : Array TypeId} {xs : List SV} {mk : List (List Value) → Obj → Prop} {cs : List (List Lf)} {kd : Nat} (p : Nat) (hd : decide (d < c.nt) = true) (hf : FnI P f) (hcal : Cal ⟨t, M⟩ callee f [] []) (ho : Opnds ⟨t, M⟩ args.toList xs)
    (hc : CallsB P f [] xs (fun y m' => y = .s (.one (.mp kd 0)) ∧ m' = [.tab mk cs])) (hpub : xs.all (fun x => x.inbB 0) = true) (hm : M[p]? = some .hole) (hp0 : Nat.ble c.m0.length p = true)
    (k : AWL P c ops Q rest ⟨upd t d (.s (.one (.mp kd p))), M.set p (.tab mk cs)⟩) : AWL P c ops Q (⟨some d, .call { callee := .value callee, args := args, argTypes := ats }, ty, pos, af, none⟩ :: rest) ⟨t, M⟩ := by
  intro a w S H r
  obtain ⟨vs, hvs, hrun⟩ := callB_run (pos := pos) (af := af) (ty := ty) (ats := ats) r hf hcal ho (some d)
  refine wpList_plain rfl fun K hK => ?_
  unfold Oper.wp
  rw [hrun]
  have hvs' : SvsR (GRep w S [] H) xs vs.toList := by
    have tie : Tie [] M H H (fun j => j) := ⟨fun p h => absurd h (Nat.not_lt_zero _), fun _ _ => rfl, fun p b h => by cases h⟩
    have e : xs.map (SV.ren (fun j => j)) = xs := by
      have hl : ∀ l : Lf, l.ren0 (fun j => j) = l := fun l => by cases l <;> rfl
      have hl2 : ∀ l : Lf, l.ren (fun j => j) = l := fun l => by
        cases l with
        | fn f a b =>
          show Lf.fn f (a.map _) (b.map _) = _
          rw [show (Lf.ren0 fun j => j) = id from funext hl, List.map_id, List.map_id]
        | _ => rfl
      have hs : ∀ x : SV, x.ren (fun j => j) = x := fun x => by
        cases x with
        | one l => show SV.one _ = _; rw [hl2]
        | agg ls => show SV.agg _ = _; rw [show (Lf.ren fun j => j) = id from funext hl2, List.map_id]
      rw [show (SV.ren fun j => j) = id from funext hs, List.map_id]
    exact tie.svsDown hpub (by rw [e]; simpa using hvs)
  refine (hc w S H vs r.sl ⟨fun p b h => by simp at h, fun p b g h => by simp at h, fun p q b b' g h => by simp at h, fun p b g i h => by simp at h⟩ hvs').mono ?_
  rintro e' w' ⟨v, y, m', S', H', rfl, ⟨rfl, rfl⟩, ext, hin, mem', hown', _, hav⟩
  have hx : Ext w S w' S' := ext.toExt (fun b ⟨q, bb, h, _⟩ => by simp at h)
  have r' := r.fillTab hm hx hin mem' (fun g hg => by
    rcases hown' 0 _ g rfl hg with h | ⟨q, bb, h, _⟩
    · exact h
    · simp at h)
  have hp : p < M.length := (List.getElem?_eq_some_iff.1 hm).1
  obtain ⟨_, g, hg, hv⟩ := (show GRep0 w' S' [.tab mk cs] H' (.mp kd 0) v from hav)
  refine hK _ _ (k _ _ _ _ (r'.put (of_decide_eq_true hd) ?_))
  exact ⟨by simpa using hp, g, by rw [setH_same]; exact hg, hv⟩
theorem keyS (a b : List UInt8) : ((⟨a.toArray⟩ : ByteArray).toList == (⟨b.toArray⟩ : ByteArray).toList) = decide (a = b) := by
  have h : ∀ l : List UInt8, (⟨l.toArray⟩ : ByteArray).toList = l := fun l => by rw [ByteArray.toList_eq]
  rw [h, h]
  by_cases e : a = b
  · subst e; simp
  · simp [e]
theorem awl_newArr_at {op : Op} {e sz : Nat} {cs : List Lf} {n : Nat} (p : Nat) (hsz : 0 < sz) (hd : d < c.nt) (hm : m[p]? = some .hole) (hp0 : c.m0.length ≤ p) (hn : n * sz = cs.length)
    (h : NewArr P c ⟨t, m⟩ op ty e sz n cs)
    (k : AWL P c ops Q rest ⟨upd t d (.s (.one (.ls p n))), m.set p (.arr e sz 0 cs)⟩) : AWL P c ops Q (⟨some d, op, ty, pos, af, none⟩ :: rest) ⟨t, m⟩ := by
  intro a w S H r
  obtain ⟨v, w', vals, hrun, hext, hin, hown, hls⟩ := h a w S H r
  refine wpList_plain rfl fun K hK => ?_
  unfold Oper.wp
  rw [hrun]
  have hv1 := ownsRow_one hown
  have hge : ∀ g, ownOf v = some g → w.heap.size ≤ g ∧ g < w'.heap.size := fun g hg => by
    rcases hown.2 with ⟨hv, _⟩ | ⟨g', cap, cur, hv, hb, hh, _⟩
    · rw [hv] at hg; cases hg
    · rw [hv] at hg; cases hg; exact ⟨hb, (Array.getElem?_eq_some_iff.1 hh).1⟩
  have mem : Mem w' S [.arr e sz 0 cs] (fun _ => v) := by
    refine ⟨fun q b hb => ?_, fun q b g hb ho => ?_, fun q q' b b' g hb hb' _ _ => ?_, fun q b g i hb ho hs => ?_⟩
    · match q with
      | 0 => obtain rfl := Option.some.inj hb; exact ⟨hsz, Nat.zero_le _, n, vals, ownsRow_mono (Nat.zero_le _) hown, hls, fun g _ i hi => absurd hi (Nat.not_lt_zero _)⟩
      | q + 1 => simp at hb
    · match q with
      | 0 => obtain rfl := Option.some.inj hb; exact (hge g ho).2
      | q + 1 => simp at hb
    · match q, q' with
      | 0, 0 => rfl
      | 0, q + 1 => simp at hb'
      | q + 1, _ => simp at hb
    · match q with
      | 0 => obtain rfl := Option.some.inj hb; have := (hge g ho).1; have := r.sl.1 g i hs; omega
      | q + 1 => simp at hb
  have r' := r.fillRow hm hp0 hext hin mem (fun g hg => (hge g hg).1)
  have hp : p < m.length := (List.getElem?_eq_some_iff.1 hm).1
  refine hK _ _ (k _ _ _ _ (r'.put (d := d) (x := .s (.one (.ls p n))) hd ?_))
  refine ⟨by simpa using hp, ⟨hv1.1, by rw [setH_same]; exact hv1.2⟩, fun e2 sz2 k2 cs2 h2 => ?_⟩
  rw [List.getElem?_set_self hp] at h2
  cases h2
  exact ⟨Nat.le_of_eq hn, fun _ => by rw [setH_same]⟩
theorem sbuild0_at {t' e sz bytes : Nat} {zl : List Lf} (p : Nat) (hd : decide (d < c.nt) = true) (si : P.underlying t' = some (.slice e)) (ei : EI P e sz bytes zl) (hm : m[p]? = some .hole) (hp0 : Nat.ble c.m0.length p = true)
    (k : AWL P c ops Q rest ⟨upd t d (.s (.one (.ls p 0))), m.set p (.arr e sz 0 [])⟩) : AWL P c ops Q (⟨some d, .buildSlice t' 0 #[], ty, pos, af, none⟩ :: rest) ⟨t, m⟩ :=
  awl_newArr_at p ei.p (of_decide_eq_true hd) hm (Nat.le_of_ble_eq_true hp0) (Nat.zero_mul _) (newArr_build si ei parts_nil (by rw [Nat.zero_mul]; exact .nil _) (fun l h => by cases h) (by omega)) k
theorem beqD {α : Type} [BEq α] [LawfulBEq α] [DecidableEq α] (a b : α) : (a == b) = decide (a = b) := by
  by_cases h : a = b
  · subst h; simp
  · simp [h]
theorem all_nil {Q : List Blk → Prop} : ∀ M ∈ ([] : List (List Blk)), Q M := fun _ h => by cases h
theorem all_cons {Q : List Blk → Prop} {M : List Blk} {l : List (List Blk)} (h : Q M) (h' : ∀ x ∈ l, Q x) : ∀ x ∈ M :: l, Q x := fun x hx => by
  rcases List.mem_cons.1 hx with rfl | hx
  · exact h
  · exact h' x hx
theorem evA {ws es : List Nat} {all : List (List Blk)} {kq : (Nat → AV) → Prop} {Ms : List (List Blk)} {op : Op} {x : AV} {i : Nat} (hi : es.contains i = false) (hd : decide (d < c.nt) = true) (h : ∀ M ∈ all, OpV P c ⟨restr t (Oper.looksAt ops ⟨some d, op, ty, pos, af, none⟩), M⟩ op ty x) (kk : DE P c ops ws es all kq (i + 1) Ms rest (upd t d x)) : DE P c ops ws es all kq i Ms (⟨some d, op, ty, pos, af, none⟩ :: rest) t :=
  .inl ⟨hi, x, d, rfl, of_decide_eq_true hd, .inr fun M hM => .inl ⟨.inl rfl, (h M hM).opD⟩, kk⟩
theorem edA {ws es : List Nat} {all : List (List Blk)} {kq : (Nat → AV) → Prop} {Ms : List (List Blk)} {op : Op} {x : AV} {i : Nat} (hi : es.contains i = false) (hd : decide (d < c.nt) = true) (h : ∀ M ∈ all, OpD P c ⟨restr t (Oper.looksAt ops ⟨some d, op, ty, pos, af, none⟩), M⟩ op ty x) (kk : DE P c ops ws es all kq (i + 1) Ms rest (upd t d x)) : DE P c ops ws es all kq i Ms (⟨some d, op, ty, pos, af, none⟩ :: rest) t :=
  .inl ⟨hi, x, d, rfl, of_decide_eq_true hd, .inr fun M hM => .inl ⟨.inl rfl, h M hM⟩, kk⟩
end
end Go.Proofs.Ytkbkpafidgfhdaa.Abs

/-
  A sort, and a compaction, of an own row of numbers.
-/
namespace Go.Proofs.Ytkbkpafidgfhdaa.Abs
open Go.RowKit Go.Shelf Go.Sort
def encN : Int → Value := Value.int .i64
theorem flat_eI (xs : List Int) : xs.flatMap eI = xs.map fun n => .i .i64 n := by
  induction xs with
  | nil => rfl
  | cons x xs ih => rw [List.flatMap_cons, List.map_cons, ih]; rfl
theorem ints_of {w : World} {S : Stab} {xs : List Int} {vals : List Value} (h : LsR (Rep w S) (xs.flatMap eI) vals) : vals = xs.map encN := by
  rw [flat_eI] at h
  apply List.ext_getElem?
  intro j
  rw [List.getElem?_map]
  rcases Nat.lt_or_ge j xs.length with hj | hj
  · have hv : j < vals.length := by rw [← h.1]; simpa using hj
    rw [List.getElem?_eq_getElem hj, List.getElem?_eq_getElem hv]
    exact congrArg some (rep_i (GRep.of_rep (m := []) (H := fun _ => undef) (h.2 j (.i .i64 xs[j]) vals[j] (by rw [List.getElem?_map, List.getElem?_eq_getElem hj]; rfl) (List.getElem?_eq_getElem hv))))
  · rw [List.getElem?_eq_none hj, List.getElem?_eq_none (by rw [← h.1]; simpa using hj)]; rfl
theorem rep_ints {w : World} {S : Stab} (xs : List Int) : LsR (Rep w S) (xs.flatMap eI) (xs.map encN) := by
  rw [flat_eI]
  refine ⟨by simp, fun j l v h1 h2 => ?_⟩
  rw [List.getElem?_map] at h1 h2
  cases hx : xs[j]? with
  | none => rw [hx] at h1; cases h1
  | some x => rw [hx] at h1 h2; cases h1; cases h2; exact .i _ _
section
variable {w : World} {b n : Nat} {d : Array Int} {os : Array Obj} {cur : Array Value} {e : TypeId}
theorem gw_same (hb : w.heap[b]? = some (.cells cur e (0, 0))) (hd : d.size ≤ cur.size) : (grow (putRow encN (Sort.ahead w n) b 0 d) os).heap[b]? = some (.cells (d.toList.map encN ++ cur.toList.drop d.size).toArray e (0, 0)) := by
  have hlt := (Array.getElem?_eq_some_iff.1 hb).1
  have h1 : (grow (putRow encN (Sort.ahead w n) b 0 d) os).heap[b]? = (putRow encN (Sort.ahead w n) b 0 d).heap[b]? := by
    show ((putRow encN (Sort.ahead w n) b 0 d).heap ++ os)[b]? = _
    rw [Array.getElem?_append_left (by simp [putRow, Sort.ahead, mapBlock]; exact hlt)]
  rw [h1]
  show ((Sort.ahead w n).heap.modify b _)[b]? = _
  rw [Array.getElem?_modify, if_pos rfl]
  show (w.heap[b]?).map _ = _
  rw [hb]
  show some (Obj.cells (putCells encN 0 d cur) e (0, 0)) = _
  congr 2
  apply Array.ext_getElem?
  intro i
  rw [putCells, Array.getElem?_mapIdx]
  simp only [Nat.zero_le, true_and, Nat.zero_add, Nat.sub_zero]
  have hto : (d.toList.map encN ++ cur.toList.drop d.size).toArray[i]? = (d.toList.map encN ++ cur.toList.drop d.size)[i]? := List.getElem?_toArray ..
  rw [hto]
  rcases Nat.lt_or_ge i d.size with hi | hi
  · rw [List.getElem?_append_left (by simpa using hi), Array.getElem?_eq_getElem (show i < cur.size by omega), List.getElem?_map, Array.getElem?_toList, Array.getElem?_eq_getElem hi, Option.map_some, if_pos hi, getElem!_pos d i hi]
    rfl
  · rw [List.getElem?_append_right (by simpa using hi), List.getElem?_drop, Array.getElem?_toList, List.length_map, Array.length_toList, show d.size + (i - d.size) = i by omega]
    cases cur[i]? with
    | none => rfl
    | some v => rw [Option.map_some, if_neg (by omega)]
theorem gw_other {i : Nat} (hi : i < w.heap.size) (hne : i ≠ b) : (grow (putRow encN (Sort.ahead w n) b 0 d) os).heap[i]? = w.heap[i]? := by
  have h1 : (grow (putRow encN (Sort.ahead w n) b 0 d) os).heap[i]? = (putRow encN (Sort.ahead w n) b 0 d).heap[i]? := by
    show ((putRow encN (Sort.ahead w n) b 0 d).heap ++ os)[i]? = _
    rw [Array.getElem?_append_left (by simp [putRow, Sort.ahead, mapBlock]; exact hi)]
  rw [h1]
  show ((Sort.ahead w n).heap.modify b _)[i]? = _
  rw [Array.getElem?_modify, if_neg (fun h => hne h.symm)]
  rfl
theorem gw_size : w.heap.size ≤ (grow (putRow encN (Sort.ahead w n) b 0 d) os).heap.size := by
  show _ ≤ ((putRow encN (Sort.ahead w n) b 0 d).heap ++ os).size
  rw [Array.size_append]
  simp [putRow, Sort.ahead, mapBlock]
end
structure RowN (P : Program) (e : TypeId) (w : World) (S : Stab) (H : Nat → Value) (xs : List Int) (blk cap : Nat) (cur : Array Value) : Prop where
  h : H 0 = .slice (some ⟨blk, 0, none⟩) xs.length cap
  heap : w.heap[blk]? = some (.cells cur e (0, 0))
  fits : xs.length ≤ cap
  most : cap ≤ maxLen
  cs : cur.size = cap * 1
  vals : cur.toList.take xs.length = xs.map encN
  lt : blk < w.heap.size
  noS : ∀ i, ¬ S blk i
theorem RowN.holds {P : Program} {e : TypeId} {w : World} {S : Stab} {H : Nat → Value} {xs : List Int} {blk cap : Nat} {cur : Array Value} (h : RowN P e w S H xs blk cap cur) : Holds (Value.int .i64) w blk 0 xs.toArray := fun j hj => by
  rw [List.size_toArray] at hj
  have hcur : cur.toList[j]? = some (.int .i64 xs[j]) := by
    have : (cur.toList.take xs.length)[j]? = some (encN xs[j]) := by rw [h.vals, List.getElem?_map, List.getElem?_eq_getElem hj]; rfl
    rw [List.getElem?_take, if_pos hj] at this
    exact this
  refine ⟨?_, ?_⟩
  · rw [Nat.zero_add, cell_of_row w _ _ cur e (0, 0) h.heap, getElem!_pos _ _ (by simpa using hj)]
    simpa using hcur
  · rw [Nat.zero_add]
    unfold World.frozen?
    rw [h.heap]
    simp
theorem rowN_of {P : Program} {e : TypeId} {w : World} {S : Stab} {H : Nat → Value} {xs : List Int} (mem : Mem w S [.arr e 1 0 (xs.flatMap eI)] H) : (H 0 = .slice none 0 0 ∧ xs = []) ∨ ∃ blk cap cur, RowN P e w S H xs blk cap cur := by
  have hf : ∀ x : Int, (eI x).length = 1 := fun _ => rfl
  obtain ⟨_, _, n', vals, hown, hls, _⟩ := mem.bl 0 _ rfl
  have hn' : n' = xs.length := ownsRow_n hown (by decide) (by rw [← hls.1, flat_len hf])
  subst hn'
  have hv := ints_of hls
  rcases hown.2 with ⟨hH, h0⟩ | ⟨blk, cap, cur, hH, _, hheap, hcap, hmax, hcs, hvals⟩
  · exact .inl ⟨hH, List.eq_nil_of_length_eq_zero h0⟩
  · refine .inr ⟨blk, cap, cur, hH, hheap, hcap, hmax, hcs, ?_, (Array.getElem?_eq_some_iff.1 hheap).1, fun i hi => absurd (mem.sb 0 _ blk i rfl (by show ownOf (H 0) = _; rw [hH]; rfl) hi) (Nat.not_lt_zero _)⟩
    rw [Nat.mul_one] at hvals
    rw [hvals, hv]
theorem sortN_B {P : Program} {ρ : Ren} (L : Go.Proofs.SlLaysM.n5 P ρ) {e : Nat} {xs : List Int} (hn : xs.length ≤ 1000000000000000000) :
    CallsB P (ρ.f 5) [.arr e 1 0 (xs.flatMap eI)] [.one (.ls 0 xs.length)] (fun y m' => y = .tup [] ∧ m' = [.arr e 1 0 ((xs.mergeSort fun x y => decide (x ≤ y)).flatMap eI)]) := by
  have hf : ∀ x : Int, (eI x).length = 1 := fun _ => rfl
  intro w S H vs hin mem hvs
  obtain ⟨hvl, hvr⟩ := hvs
  obtain ⟨v0, rfl⟩ : ∃ v0, vs = #[v0] := by
    obtain ⟨l⟩ := vs
    match l, hvl with
    | [a], _ => exact ⟨a, rfl⟩
  obtain ⟨_, _, hv0⟩ := (show GRep0 w S [.arr e 1 0 (xs.flatMap eI)] H (.ls 0 xs.length) v0 from hvr 0 _ v0 rfl rfl)
  have hv0' := (hv0 e 1 0 _ rfl).2 (flat_len hf xs).symm
  rcases rowN_of (P := P) mem with ⟨hH, rfl⟩ | ⟨blk, cap, cur, R⟩
  · rw [hv0', hH]
    refine (Go.Proofs.AnyM.slices_Sort_int_none L none 0 w).mono ?_
    rintro e' w' ⟨rfl, rfl⟩
    have hy : ([] : List Int).mergeSort (fun x y => decide (x ≤ y)) = [] := by simp
    rw [hy]
    exact ⟨_, .tup [], _, S, H, rfl, ⟨rfl, rfl⟩, ExtX.refl _ _ _, hin, mem, fun p b g hb ho => .inr ⟨p, b, hb, ho⟩, ⟨Nat.le_refl _, fun _ _ _ _ => rfl, fun p e' sz' k cs _ hm => ⟨k, cs, hm, .inl ⟨rfl, rfl⟩⟩, fun _ _ h => h⟩, avr_undef⟩
  have hH := R.h
  have hcon := Go.Proofs.AnyM.slices_Sort_int L blk 0 cap xs w R.holds R.lt (by omega)
  rw [hv0', hH]
  refine hcon.mono ?_
  rintro e' w' ⟨rfl, n2, os, rfl⟩
  generalize hys : xs.mergeSort (fun x y => decide (x ≤ y)) = ys
  have hyl : ys.length = xs.length := by rw [← hys, List.length_mergeSort]
  have hsame : (grow (putRow encN (Sort.ahead w n2) blk 0 ys.toArray) os).heap[blk]? = _ := gw_same (n := n2) (os := os) (d := ys.toArray) R.heap (by rw [List.size_toArray, hyl, R.cs]; have := R.fits; omega)
  have hkeep : ∀ b i, S b i → S b i ∧ (grow (putRow encN (Sort.ahead w n2) blk 0 ys.toArray) os).cell? ⟨b, i, none⟩ = w.cell? ⟨b, i, none⟩ := fun b i hs =>
    ⟨hs, World.cell?_of_block (w := w) (gw_other (hin.1 b i hs) fun e => R.noS i (e ▸ hs))⟩
  have hin2 : InH (grow (putRow encN (Sort.ahead w n2) blk 0 ys.toArray) os) S := hin.turn gw_size fun b i hs => (hkeep b i hs).2
  have hownX : ownX [.arr e 1 0 (xs.flatMap eI)] H blk := ⟨0, _, rfl, by show ownOf (H 0) = _; rw [hH]; rfl⟩
  refine ⟨_, .tup [], [.arr e 1 0 (ys.flatMap eI)], S, H, rfl, ⟨rfl, rfl⟩, ⟨rfl, rfl, rfl, gw_size, fun b hb hx => gw_other hb fun e => hx (e ▸ hownX), fun b i hs => hs, fun b i hs => (hkeep b i hs).2, fun b i _ _ hs => hs⟩, hin2, ⟨fun p b hb => ?_, fun p b g' hb ho => ?_, fun p q b b' g' hb hb' _ _ => ?_, fun p b g' i hb ho hs => ?_⟩, fun p b g' hb ho => ?_, ⟨Nat.le_refl _, fun _ _ _ _ => rfl, fun p e' sz' k' cs' hp hm => ?_, fun _ _ h => h⟩, avr_undef⟩
  · match p with
    | 0 =>
      obtain rfl := Option.some.inj hb
      refine ⟨by decide, Nat.zero_le _, xs.length, ys.map encN, ⟨by rw [List.length_map, hyl]; omega, .inr ⟨blk, cap, _, hH, Nat.zero_le _, hsame, R.fits, R.most, ?_, ?_⟩⟩, rep_ints ys, fun g' _ i hi => absurd hi (Nat.not_lt_zero _)⟩
      · rw [List.size_toArray, List.length_append, List.length_map, List.length_drop, Array.length_toList, Array.length_toList, List.size_toArray, hyl, R.cs]
        have := R.fits
        omega
      · rw [List.toList_toArray, Nat.mul_one, List.take_append_of_le_length (by rw [List.length_map]; simp [hyl]), ← hyl]
        have : ys.toArray.toList.map encN = ys.map encN := by simp
        rw [this, ← List.length_map (f := encN), List.take_length]
    | p + 1 => simp at hb
  · match p with
    | 0 =>
      obtain rfl := Option.some.inj hb
      have hg' : ownOf (H 0) = some g' := ho
      rw [hH] at hg'
      obtain rfl : blk = g' := by simpa [ownOf] using hg'
      exact Nat.lt_of_lt_of_le R.lt gw_size
    | p + 1 => simp at hb
  · match p, q with
    | 0, 0 => rfl
    | 0, q + 1 => simp at hb'
    | p + 1, _ => simp at hb
  · match p with
    | 0 =>
      obtain rfl := Option.some.inj hb
      have hg' : ownOf (H 0) = some g' := ho
      rw [hH] at hg'
      obtain rfl : blk = g' := by simpa [ownOf] using hg'
      exact absurd hs (R.noS i)
    | p + 1 => simp at hb
  · match p with
    | 0 =>
      obtain rfl := Option.some.inj hb
      exact .inr ⟨0, _, rfl, ho⟩
    | p + 1 => simp at hb
  · match p with
    | 0 =>
      obtain ⟨rfl, rfl, rfl, rfl⟩ : e = e' ∧ 1 = sz' ∧ 0 = k' ∧ ys.flatMap eI = cs' := by simpa using hm
      exact ⟨0, _, rfl, .inl ⟨by rw [flat_len hf, flat_len hf, hyl], rfl⟩⟩
    | p + 1 => simp at hp
def cmpU (xs : List Int) : List Int := Go.Lib.compactUpTo xs.toArray xs.toArray.size
theorem finN {e : Nat} {w w' : World} {S S' : Stab} {H : Nat → Value} {xs zs : List Int} {v : Value} (hx : ExtX (ownX [.arr e 1 0 (xs.flatMap eI)] H) w S w' S') (hin : InH w' S') (hown : w'.ownsRow 0 e 1 v zs.length (zs.map encN))
    (hv : ∀ g, ownOf v = some g → g < w'.heap.size ∧ (w.heap.size ≤ g ∨ ownX [.arr e 1 0 (xs.flatMap eI)] H g) ∧ ∀ i, ¬ S' g i) :
    ∃ v' x m' S'' H', Ending.returned v = .returned v' ∧ (x = .s (.one (.ls 1 zs.length)) ∧ m' = [.dead, .arr e 1 0 (zs.flatMap eI)]) ∧ ExtX (ownX [.arr e 1 0 (xs.flatMap eI)] H) w S w' S'' ∧ InH w' S'' ∧ Mem w' S'' m' H' ∧
      (∀ (p : Nat) (b : Blk) (g : Nat), m'[p]? = some b → b.own (H' p) = some g → w.heap.size ≤ g ∨ ownX [.arr e 1 0 (xs.flatMap eI)] H g) ∧ Kept [.arr e 1 0 (xs.flatMap eI)] H m' H' ∧ AVR (GRep w' S'' m' H') x v' := by
  have hf : ∀ x : Int, (eI x).length = 1 := fun _ => rfl
  have h01 : setH H 1 v 0 = H 0 := setH_other _ _ (by decide)
  obtain ⟨ho1, ho2⟩ := ownsRow_one hown
  refine ⟨v, _, _, S', setH H 1 v, rfl, ⟨rfl, rfl⟩, hx, hin, ⟨fun p b hb => ?_, fun p b g' hb ho => ?_, fun p q b b' g' hb hb' ho ho' => ?_, fun p b g' i hb ho hs => ?_⟩, fun p b g' hb ho => ?_, ⟨by simp, fun p g hp hh => ?_, fun p e' sz' k' cs' hp hm => ?_, fun p hp h => ?_⟩, ?_⟩
  · match p with
    | 0 => obtain rfl := Option.some.inj hb; trivial
    | 1 =>
      obtain rfl := Option.some.inj hb
      rw [setH_same]
      exact ⟨by decide, Nat.zero_le _, _, _, hown, rep_ints zs, fun g' _ i hi => absurd hi (Nat.not_lt_zero _)⟩
    | p + 2 => simp at hb
  · match p with
    | 0 => obtain rfl := Option.some.inj hb; cases ho
    | 1 => obtain rfl := Option.some.inj hb; rw [setH_same] at ho; exact (hv g' ho).1
    | p + 2 => simp at hb
  · match p, q with
    | 0, _ => obtain rfl := Option.some.inj hb; cases ho
    | _, 0 => obtain rfl := Option.some.inj hb'; cases ho'
    | 1, 1 => rfl
    | p + 2, _ => simp at hb
    | _, q + 2 => simp at hb'
  · match p with
    | 0 => obtain rfl := Option.some.inj hb; cases ho
    | 1 => obtain rfl := Option.some.inj hb; rw [setH_same] at ho; exact absurd hs ((hv g' ho).2.2 i)
    | p + 2 => simp at hb
  · match p with
    | 0 => obtain rfl := Option.some.inj hb; cases ho
    | 1 => obtain rfl := Option.some.inj hb; rw [setH_same] at ho; exact (hv g' ho).2.1
    | p + 2 => simp at hb
  · match p with
    | 0 => exact h01
    | p + 1 => simp at hp
  · match p with
    | 0 => cases hm
    | p + 1 => simp at hp
  · match p with
    | 0 => rw [h01]; exact h
    | p + 1 => simp at hp
  · refine ⟨by simp, ⟨ho1, by rw [setH_same]; exact ho2⟩, fun e' sz k cs hm => ?_⟩
    obtain ⟨rfl, rfl, rfl, rfl⟩ : e = e' ∧ 1 = sz ∧ 0 = k ∧ zs.flatMap eI = cs := by simpa using hm
    exact ⟨by rw [flat_len hf]; omega, fun _ => (setH_same _ _ _).symm⟩
theorem compN_B {P : Program} {ρ : Ren} (L : Go.Proofs.SlLaysE.n43 P ρ) {e : Nat} {xs : List Int} (hn : xs.length ≤ 1000000000000000000) (heq : Go.Proofs.EqlAt P (ρ.t 23) (Value.int .i64) (fun x y => decide (x = y))) (hne : Go.Proofs.NeqAt P (ρ.t 23) (Value.int .i64) (fun x y => decide (x = y))) (v23 : ∀ w, (zeroValue (ρ.t 23)).run P w = .ok (.int .i64 0) w)
    (hnil : CallsA P (ρ.f 43) [.one (.raw (.slice none 0 0))] (· = .s (.one (.raw (.slice none 0 0))))) :
    CallsB P (ρ.f 43) [.arr e 1 0 (xs.flatMap eI)] [.one (.ls 0 xs.length)] (fun y m' => y = .s (.one (.ls 1 (cmpU xs).length)) ∧ m' = [.dead, .arr e 1 0 ((cmpU xs).flatMap eI)]) := by
  have hf : ∀ x : Int, (eI x).length = 1 := fun _ => rfl
  intro w S H vs hin mem hvs
  obtain ⟨hvl, hvr⟩ := hvs
  obtain ⟨v0, rfl⟩ : ∃ v0, vs = #[v0] := by
    obtain ⟨l⟩ := vs
    match l, hvl with
    | [a], _ => exact ⟨a, rfl⟩
  obtain ⟨_, _, hv0⟩ := (show GRep0 w S [.arr e 1 0 (xs.flatMap eI)] H (.ls 0 xs.length) v0 from hvr 0 _ v0 rfl rfl)
  have hv0' := (hv0 e 1 0 _ rfl).2 (flat_len hf xs).symm
  rcases rowN_of (P := P) mem with ⟨hH, rfl⟩ | ⟨blk, cap, cur, R⟩
  · rw [hv0', hH]
    refine (hnil w S #[.slice none 0 0] hin ⟨rfl, fun j x u h1 h2 => ?_⟩).mono ?_
    · cases j with
      | zero => obtain rfl := Option.some.inj h1; obtain rfl := Option.some.inj h2; exact .raw _ rfl
      | succ j => simp at h1
    rintro e' w' ⟨v, x, S', rfl, rfl, ext, hin', hav⟩
    have hvn : v = .slice none 0 0 := rep_raw (GRep.of_rep (m := []) (H := H) hav)
    subst hvn
    have hx : ExtX (ownX [.arr e 1 0 (([] : List Int).flatMap eI)] H) w S w' S' := ⟨ext.os, ext.tape, ext.output, ext.size, fun b hb _ => ext.blk b hb, ext.sub, fun b i hs => (ext.keeps hin b i hs).2, fun b i hb _ hs => ext.back b i hb hs⟩
    exact finN (zs := []) hx hin' ⟨rfl, .inl ⟨rfl, rfl⟩⟩ (fun g hg => by cases hg)
  have hH := R.h
  have hO : Go.Proofs.OneCell (Value.int .i64) := fun _ => rfl
  have hcon := Go.Proofs.AnyE.slices_Compact L (Value.int .i64) hO heq hne 0 v23 blk 0 cap xs.toArray w R.holds (by rw [List.size_toArray]; omega) (by rw [List.size_toArray]; exact R.fits)
  rw [hv0', hH]
  rw [List.size_toArray] at hcon
  refine hcon.mono ?_
  rintro e' w' ⟨rfl, n2, rfl⟩
  have hcz : Go.Lib.compactUpTo xs.toArray xs.length = cmpU xs := by unfold cmpU; rw [List.size_toArray]
  rw [hcz]
  have hzl : (cmpU xs).length ≤ xs.length := by
    unfold cmpU Go.Lib.compactUpTo
    rw [List.length_map]
    refine Nat.le_trans (List.length_filter_le _ _) ?_
    rw [List.length_range, List.size_toArray]
    exact Nat.le_refl _
  generalize cmpU xs = zs at hzl
  generalize hds : (zs ++ List.replicate (xs.length - zs.length) (0 : Int)).toArray = ds
  have hdsz : ds.size = xs.length := by rw [← hds, List.size_toArray, List.length_append, List.length_replicate]; omega
  have hdt : ds.toList.take zs.length = zs := by rw [← hds, List.toList_toArray, List.take_left']; rfl
  have hw : putRow (Value.int .i64) (Sort.ahead w n2) blk 0 ds = grow (putRow encN (Sort.ahead w n2) blk 0 ds) #[] := (grow_empty _).symm
  rw [hw]
  have hsame : (grow (putRow encN (Sort.ahead w n2) blk 0 ds) #[]).heap[blk]? = _ := gw_same (n := n2) (os := #[]) (d := ds) R.heap (by rw [hdsz, R.cs]; have := R.fits; omega)
  have hkeep : ∀ b i, S b i → S b i ∧ (grow (putRow encN (Sort.ahead w n2) blk 0 ds) #[]).cell? ⟨b, i, none⟩ = w.cell? ⟨b, i, none⟩ := fun b i hs =>
    ⟨hs, World.cell?_of_block (w := w) (gw_other (hin.1 b i hs) fun e => R.noS i (e ▸ hs))⟩
  have hin2 : InH (grow (putRow encN (Sort.ahead w n2) blk 0 ds) #[]) S := hin.turn gw_size fun b i hs => (hkeep b i hs).2
  have hownX : ownX [.arr e 1 0 (xs.flatMap eI)] H blk := ⟨0, _, rfl, by show ownOf (H 0) = _; rw [hH]; rfl⟩
  refine finN ⟨rfl, rfl, rfl, gw_size, fun b hb hx => gw_other hb fun e => hx (e ▸ hownX), fun b i hs => hs, fun b i hs => (hkeep b i hs).2, fun b i _ _ hs => hs⟩ hin2 ⟨by rw [List.length_map, Nat.mul_one], .inr ⟨blk, cap, _, rfl, Nat.zero_le _, hsame, by have := R.fits; omega, R.most, ?_, ?_⟩⟩ (fun g hg => ?_)
  · rw [List.size_toArray, List.length_append, List.length_map, List.length_drop, Array.length_toList, Array.length_toList, hdsz, R.cs]
    have := R.fits
    omega
  · rw [List.toList_toArray, Nat.mul_one, List.take_append_of_le_length (by simpa [hdsz] using hzl), ← List.map_take]
    exact congrArg (List.map encN) hdt
  · obtain rfl : blk = g := by simpa [ownOf] using hg
    exact ⟨Nat.lt_of_lt_of_le R.lt gw_size, .inr hownX, R.noS⟩
end Go.Proofs.Ytkbkpafidgfhdaa.Abs

/-
  Loops over rows, as most are.
-/
namespace Go.Proofs.Ytkbkpafidgfhdaa.Abs
theorem nn {b : Bool} (h : b = false) : ¬ b = true := fun h' => by rw [h] at h'; cases h'
theorem find_none {α : Type} {xs : List α} {p : α → Bool} (h : ∀ x ∈ xs, p x = false) : xs.find? p = none := List.find?_eq_none.2 fun x hx => by rw [h x hx]; decide
theorem scanR {α ρ : Type} (xs : List α) (p : α → Bool) (g : α → ρ) (f : Int → Option (LR Int Unit ρ)) (hl : xs.length ≤ 1000000000000000000)
    (h : ∀ (i : Nat) x, xs[i]? = some x → f (i : Int) = some (if p x then .ret (g x) else .cont ((i + 1 : Nat) : Int))) (hend : f (xs.length : Int) = some (.brk ())) :
    iter f fuel 0 = some (match xs.find? p with | some x => .inl (g x) | none => .inr ()) := by
  obtain ⟨v, hv, hr⟩ := iter_inv (f := f) (P := fun s => ∃ i : Nat, i ≤ xs.length ∧ s = (i : Int) ∧ xs.find? p = (xs.drop i).find? p) (μ := fun s => xs.length - s.toNat)
    (R := fun r => r = (match xs.find? p with | some x => Sum.inl (g x) | none => Sum.inr ())) (by
      rintro _ ⟨i, hi, rfl, hp⟩
      rcases Nat.lt_or_ge i xs.length with hlt | hge
      · have hx := List.getElem?_eq_getElem hlt
        have hf := h i _ hx
        have hd : xs.drop i = xs[i] :: xs.drop (i + 1) := List.drop_eq_getElem_cons hlt
        cases hpx : p xs[i] with
        | true =>
          rw [hpx, if_pos rfl] at hf
          refine .inr (.inr ⟨_, hf, ?_⟩)
          rw [hp, hd, List.find?_cons, hpx]
        | false =>
          rw [hpx, if_neg (by decide)] at hf
          refine .inl ⟨_, hf, ⟨i + 1, hlt, rfl, ?_⟩, by simp only [Int.toNat_natCast]; omega⟩
          rw [hp, hd, List.find?_cons, hpx]
      · have e : i = xs.length := by omega
        subst e
        refine .inr (.inl ⟨(), hend, ?_⟩)
        rw [hp, List.drop_length]; rfl) fuel 0 ⟨0, Nat.zero_le _, rfl, rfl⟩ (lt_fuel (by show xs.length - 0 ≤ _; omega))
  rw [hv, hr]
theorem allR {α ρ : Type} (xs : List α) (p : α → Bool) (no : ρ) (f : Int → Option (LR Int Unit ρ)) (hl : xs.length ≤ 1000000000000000000)
    (h : ∀ (i : Nat) x, xs[i]? = some x → f (i : Int) = some (if p x then .cont ((i + 1 : Nat) : Int) else .ret no)) (hend : f (xs.length : Int) = some (.brk ())) :
    iter f fuel 0 = some (if xs.all p then .inr () else .inl no) := by
  rw [scanR xs (fun x => !p x) (fun _ => no) f hl (fun i x hx => by
    rw [h i x hx]
    cases p x <;> rfl) hend]
  cases ha : xs.all p with
  | true =>
    rw [find_none fun x hx => by rw [List.all_eq_true.1 ha x hx]; rfl]; rfl
  | false =>
    obtain ⟨x, hx, hp⟩ := List.all_eq_false.1 ha
    cases hf : xs.find? (fun x => !p x) with
    | none => exact absurd (List.find?_eq_none.1 hf x hx) (by simpa using hp)
    | some y => rfl
theorem collB {α β : Type} (xs : List α) (g : α → List β) (f : Int × List β → Option (LB (Int × List β) (List β))) (k : Nat) (hg : ∀ x, (g x).length ≤ k) (hl : xs.length ≤ 1000000000000000000)
    (h : ∀ (i : Nat) x acc, xs[i]? = some x → acc.length ≤ i * k → f ((i : Int), acc) = some (.cont (((i + 1 : Nat) : Int), acc ++ g x))) (hend : ∀ acc, f ((xs.length : Int), acc) = some (.brk acc)) :
    iterB f fuel (0, []) = some (xs.flatMap g) := by
  obtain ⟨v, hv, hr⟩ := iterB_inv (f := f) (P := fun s => ∃ i : Nat, i ≤ xs.length ∧ s = ((i : Int), (xs.take i).flatMap g)) (μ := fun s => xs.length - s.1.toNat) (R := fun v => v = xs.flatMap g) (by
    rintro _ ⟨i, hi, rfl⟩
    rcases Nat.lt_or_ge i xs.length with hlt | hge
    · left
      have hlen : ((xs.take i).flatMap g).length ≤ i * k := by
        have key : ∀ l : List α, (l.flatMap g).length ≤ l.length * k := fun l => by
          induction l with
          | nil => simp
          | cons a l ih =>
            rw [List.flatMap_cons, List.length_append, List.length_cons, Nat.succ_mul]
            have := hg a
            omega
        have := key (xs.take i)
        rwa [List.length_take, Nat.min_eq_left hi] at this
      refine ⟨_, h i _ _ (List.getElem?_eq_getElem hlt) hlen, ⟨i + 1, hlt, ?_⟩, by simp only [Int.toNat_natCast]; omega⟩
      rw [List.take_succ_eq_append_getElem hlt, List.flatMap_append]; simp
    · right
      have e : i = xs.length := by omega
      subst e
      exact ⟨_, hend _, by rw [List.take_length]⟩) fuel (0, []) ⟨0, Nat.zero_le _, by simp⟩ (lt_fuel (by show xs.length - 0 ≤ _; omega))
  rw [hv, hr]
theorem flat_opt {α β : Type} (xs : List α) (p : α → Bool) (g : α → β) : xs.flatMap (fun x => if p x then [g x] else []) = (xs.filter p).map g := by
  induction xs with
  | nil => rfl
  | cons x xs ih =>
    rw [List.flatMap_cons, ih, List.filter_cons]
    cases p x <;> rfl
theorem flat_one {α β : Type} (xs : List α) (g : α → β) : xs.flatMap (fun x => [g x]) = xs.map g := by
  induction xs with
  | nil => rfl
  | cons x xs ih => rw [List.flatMap_cons, ih]; rfl
theorem anyB {α : Type} (xs : List α) (p : α → Bool) (f : Bool × Int → Option (LB (Bool × Int) Bool)) (hl : xs.length ≤ 1000000000000000000)
    (h : ∀ (i : Nat) x b, xs[i]? = some x → f (b, (i : Int)) = some (.cont (b || p x, ((i + 1 : Nat) : Int)))) (hend : ∀ b, f (b, (xs.length : Int)) = some (.brk b)) : iterB f fuel (false, 0) = some (xs.any p) := by
  obtain ⟨v, hv, hr⟩ := iterB_inv (f := f) (P := fun s => ∃ i : Nat, i ≤ xs.length ∧ s = ((xs.take i).any p, (i : Int))) (μ := fun s => xs.length - s.2.toNat) (R := fun x => x = xs.any p) (by
    rintro _ ⟨i, hi, rfl⟩
    rcases Nat.lt_or_ge i xs.length with hlt | hge
    · left
      refine ⟨_, h i _ _ (List.getElem?_eq_getElem hlt), ⟨i + 1, hlt, ?_⟩, by simp only [Int.toNat_natCast]; omega⟩
      rw [List.take_succ_eq_append_getElem hlt, List.any_append]; simp
    · right
      have e : i = xs.length := by omega
      subst e
      exact ⟨_, hend _, by rw [List.take_length]⟩) fuel (false, 0) ⟨0, Nat.zero_le _, by simp⟩ (lt_fuel (by show xs.length - 0 ≤ _; omega))
  rw [hv, hr]
def RiseI (l : List Int) : Prop := l.Pairwise (· < ·)
theorem riseI_ext {a b : List Int} (ha : RiseI a) (hb : RiseI b) (h : ∀ x, x ∈ a ↔ x ∈ b) : a = b := by
  have hna : a.Nodup := ha.imp fun h e => by rw [e] at h; exact Int.lt_irrefl _ h
  have hnb : b.Nodup := hb.imp fun h e => by rw [e] at h; exact Int.lt_irrefl _ h
  exact List.Perm.eq_of_pairwise (le := fun a b : Int => a < b) (fun a b _ _ h1 h2 => by omega) ha hb ((List.perm_ext_iff_of_nodup hna hnb).2 h)
theorem cmpU_spec {xs : List Int} (hs : xs.Pairwise (· ≤ ·)) : RiseI (cmpU xs) ∧ ∀ x, x ∈ cmpU xs ↔ x ∈ xs := by
  have key : ∀ m, m ≤ xs.length → RiseI (Go.Lib.compactUpTo xs.toArray m) ∧ (∀ x, x ∈ Go.Lib.compactUpTo xs.toArray m ↔ x ∈ xs.take m) := fun m => by
    induction m with
    | zero => intro _; exact ⟨by simp [Go.Lib.compactUpTo, RiseI], fun x => by simp [Go.Lib.compactUpTo]⟩
    | succ m ih =>
      intro hm
      obtain ⟨h1, h2⟩ := ih (by omega)
      have hlt : m < xs.length := by omega
      have hU : Go.Lib.compactUpTo xs.toArray (m + 1) = Go.Lib.compactUpTo xs.toArray m ++ (if Go.Lib.keeps xs.toArray m then [xs[m]] else []) := by
        unfold Go.Lib.compactUpTo
        rw [List.range_succ, List.filter_append, List.map_append]
        congr 1
        rw [List.filter_cons]
        cases Go.Lib.keeps xs.toArray m with
        | true =>
          rw [if_pos rfl, if_pos rfl]
          simp [List.getElem?_eq_getElem hlt]
        | false => rfl
      rw [hU, List.take_succ_eq_append_getElem hlt]
      have hle : ∀ x ∈ xs.take m, x ≤ xs[m] := fun x hx => by
        obtain ⟨j, hj, rfl⟩ := List.getElem_of_mem hx
        rw [List.getElem_take]
        have hjm : j < m := by rw [List.length_take] at hj; omega
        exact (List.pairwise_iff_getElem.1 hs) j m (by omega) hlt hjm
      by_cases h0 : m = 0
      · subst h0
        have hk : Go.Lib.keeps xs.toArray 0 = true := by unfold Go.Lib.keeps; simp
        rw [hk, if_pos rfl]
        refine ⟨?_, fun x => by simp [Go.Lib.compactUpTo]⟩
        simp [Go.Lib.compactUpTo, RiseI]
      have hm1 : m - 1 < xs.length := by omega
      have hkk : Go.Lib.keeps xs.toArray m = decide (xs[m] ≠ xs[m - 1]) := by
        unfold Go.Lib.keeps
        rw [getElem!_pos xs.toArray m (by simpa using hlt), getElem!_pos xs.toArray (m - 1) (by simpa using hm1)]
        simp [h0]
      rw [hkk]
      have hlast : xs[m - 1] ∈ xs.take m := List.mem_iff_getElem.2 ⟨m - 1, by rw [List.length_take]; omega, by rw [List.getElem_take]⟩
      by_cases he : xs[m] = xs[m - 1]
      · rw [if_neg (by simp [he]), List.append_nil]
        refine ⟨h1, fun x => ?_⟩
        rw [h2, List.mem_append, List.mem_singleton]
        constructor
        · exact .inl
        · rintro (h | rfl)
          · exact h
          · rw [he]; exact hlast
      · rw [if_pos (by simp [he])]
        have hll : xs[m - 1] ≤ xs[m] := hle _ hlast
        have hlt2 : ∀ x ∈ xs.take m, x < xs[m] := fun x hx => by
          obtain ⟨j, hj, rfl⟩ := List.getElem_of_mem hx
          rw [List.getElem_take]
          have hjm : j < m := by rw [List.length_take] at hj; omega
          have : xs[j] ≤ xs[m - 1] := by
            rcases Nat.lt_or_ge j (m - 1) with h | h
            · exact (List.pairwise_iff_getElem.1 hs) j (m - 1) (by omega) hm1 h
            · have : j = m - 1 := by omega
              subst this; exact Int.le_refl _
          omega
        refine ⟨List.pairwise_append.2 ⟨h1, List.pairwise_singleton _ _, fun a ha b hb => ?_⟩, fun x => ?_⟩
        · rw [List.mem_singleton.1 hb]; exact hlt2 a ((h2 a).1 ha)
        · rw [List.mem_append, List.mem_append, h2]
  have := key xs.length (Nat.le_refl _)
  unfold cmpU
  rw [List.size_toArray]
  rw [List.take_length] at this
  exact this
def riseV (l : List Int) : List Int := cmpU (l.mergeSort fun x y => decide (x ≤ y))
theorem sort_le (l : List Int) : (l.mergeSort fun x y => decide (x ≤ y)).Pairwise (· ≤ ·) := by
  have := List.pairwise_mergeSort (le := fun x y : Int => decide (x ≤ y)) (fun a b c h1 h2 => by rw [decide_eq_true_eq] at *; omega) (fun a b => by simp; omega) l
  exact this.imp fun h => of_decide_eq_true h
theorem riseV_rise (l : List Int) : RiseI (riseV l) := (cmpU_spec (sort_le l)).1
theorem riseV_mem {l : List Int} {x : Int} : x ∈ riseV l ↔ x ∈ l := ((cmpU_spec (sort_le l)).2 x).trans (List.mem_mergeSort ..)
theorem riseV_len (l : List Int) : (riseV l).length ≤ l.length := by
  unfold riseV cmpU Go.Lib.compactUpTo
  rw [List.length_map]
  refine Nat.le_trans (List.length_filter_le _ _) ?_
  rw [List.length_range, List.size_toArray, List.length_mergeSort]
  exact Nat.le_refl _
end Go.Proofs.Ytkbkpafidgfhdaa.Abs

