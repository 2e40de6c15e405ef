/-
  A walk over abstract states: its rules, part C.
-/
import Derived.Test.YtbmciegldpeaiaaAbsB
import Derived.Shelf.SortM.Plain
import Derived.Shelf.SortM.SortNone
import Derived.Shelf.SlicesE.Compact
import Derived.Conc.LoneSelect
import Derived.Test.YtbmciegldpeaiaaAbsA
import Derived.SizedLaws
import Derived.OpenShut
import Derived.ChangeKeysEq
/-
  Own maps told by their place, their keys structures of a few cells.
-/
namespace Go.Proofs.Ytbmciegldpeaiaa.Abs
open Go.RowKit Go.MapKept
open Go.ChangeMaps (setBlock)
theorem setH_self (H : Nat → Value) (p : Nat) : setH H p (H p) = H := by
  funext q
  by_cases h : q = p
  · subst h; rw [setH_same]
  · rw [setH_other _ _ h]
theorem nodup_of_map {α β : Type} (f : α → β) : ∀ {l : List α}, (l.map f).Nodup → l.Nodup
  | [], _ => List.nodup_nil
  | x :: l, h => by
    rw [List.map_cons, List.nodup_cons] at h
    exact List.nodup_cons.2 ⟨fun hx => h.1 (List.mem_map.2 ⟨x, hx, rfl⟩), nodup_of_map f h.2⟩
theorem Rel.retab {c : Ctx} {t : Nat → AV} {m : List Blk} {a : Act} {w : World} {S : Stab} {H : Nat → Value} (r : Rel c ⟨t, m⟩ a w S H) {p g : Nat} {b b' : Blk} {mk : List (List Value) → Obj → Prop} {cs : List (List Lf)}
    (hm : m[p]? = some b) (hbb : b = .obj g mk cs ∨ b = .tab mk cs) (hbb' : b' = .obj g mk cs ∨ b' = .tab mk cs) (hH : H p = .pointer (some ⟨g, 0, none⟩)) : Rel c ⟨t, m.set p b'⟩ a w S H := by
  have hp : p < m.length := (List.getElem?_eq_some_iff.1 hm).1
  have hob : b.own (H p) = some g := by rcases hbb with rfl | rfl <;> rw [hH] <;> rfl
  have hlo := r.lo p _ g hm hob
  have hbl := r.bl p _ hm
  have hcont : ∃ vs o, w.heap[g]? = some o ∧ isTab o = true ∧ mk vs o ∧ LsR2 (Rep w S) cs vs := by
    rcases hbb with rfl | rfl
    · obtain ⟨_, h⟩ := hbl; exact h
    · obtain ⟨g', h1, h⟩ := hbl
      rw [hH] at h1; cases h1
      exact h
  have hst : b'.stab = 0 := by rcases hbb' with rfl | rfl <;> rfl
  have hst0 : b.stab = 0 := by rcases hbb with rfl | rfl <;> rfl
  have := r.change (m' := m.set p b') (b' := b') (v := H p) (w' := w) (S' := S) (by simp) (by rw [List.getElem?_set_self hp]) (fun q hq => by rw [List.getElem?_set_ne (Ne.symm hq)]) (fun b i hs => ⟨hs, rfl⟩) (fun _ _ _ => rfl) (fun e sz k cs _ h => by rcases hbb' with rfl | rfl <;> cases h)
    (fun g' _ hg' => rfl) (by rcases hbb' with rfl | rfl
                              · exact ⟨hH, hcont⟩
                              · exact ⟨g, hH, hcont⟩) (fun g' hg' => ?_) (fun q b g i _ _ _ h => h) (fun g i _ _ h => h) r.sl (Nat.le_refl _) rfl rfl rfl (fun h => by rcases h with h | h <;> rcases hbb' with rfl | rfl <;> cases h)
  · rw [setH_self] at this
    exact this
  · have hg2 : g = g' := by
      have : b'.own (H p) = some g := by rcases hbb' with rfl | rfl <;> rw [hH] <;> rfl
      rw [this] at hg'
      exact Option.some.inj hg'
    subst hg2
    exact ⟨hlo.1, hlo.2, fun q b2 hq hb ho' => hq (r.inj q p b2 _ g hb hm ho' hob), fun i hi => absurd (r.sb p _ g i hm hob hi) (by rw [hst0]; exact Nat.not_lt_zero _)⟩
theorem Rel.toTab {c : Ctx} {t : Nat → AV} {m : List Blk} {a : Act} {w : World} {S : Stab} {H : Nat → Value} (r : Rel c ⟨t, m⟩ a w S H) {p g : Nat} {mk : List (List Value) → Obj → Prop} {cs : List (List Lf)} (hm : m[p]? = some (.obj g mk cs)) : Rel c ⟨t, m.set p (.tab mk cs)⟩ a w S H :=
  r.retab hm (.inl rfl) (.inr rfl) (r.bl p _ hm).1
theorem Rel.ofTab {c : Ctx} {t : Nat → AV} {m : List Blk} {a : Act} {w : World} {S : Stab} {H : Nat → Value} (r : Rel c ⟨t, m⟩ a w S H) {p : Nat} {mk : List (List Value) → Obj → Prop} {cs : List (List Lf)} (hm : m[p]? = some (.tab mk cs)) : ∃ g, H p = .pointer (some ⟨g, 0, none⟩) ∧ Rel c ⟨t, m.set p (.obj g mk cs)⟩ a w S H := by
  obtain ⟨g, h1, _⟩ := r.bl p _ hm
  exact ⟨g, h1, r.retab hm (.inr rfl) (.inl rfl) h1⟩
def lval : Lf → Value
  | .i k n => .int k n
  | .b x => .bool x
  | .s x => .string x
  | _ => undef
def kval (l : List Lf) : Value := .agg (l.map lval).toArray
theorem lval_of {w : World} {S : Stab} {m : List Blk} {H : Nat → Value} {l : Lf} {v : Value} (h : GRep w S m H l v) (ht : l.tag < 3) : v = lval l := by
  cases l <;> simp [Lf.tag] at ht
  · exact rep_i h
  · exact rep_b h
  · exact rep_s h
theorem lvals_of {w : World} {S : Stab} {m : List Blk} {H : Nat → Value} {ls : List Lf} {vs : List Value} (h : LsR (GRep w S m H) ls vs) (ht : ∀ l ∈ ls, l.tag < 3) : vs = ls.map lval := by
  apply List.ext_getElem?
  intro j
  rw [List.getElem?_map]
  rcases Nat.lt_or_ge j ls.length with hj | hj
  · have hv : j < vs.length := by rw [← h.1]; exact hj
    rw [List.getElem?_eq_getElem hj, List.getElem?_eq_getElem hv]
    exact congrArg some (lval_of (h.2 j _ _ (List.getElem?_eq_getElem hj) (List.getElem?_eq_getElem hv)) (ht _ (List.getElem_mem hj)))
  · rw [List.getElem?_eq_none hj, List.getElem?_eq_none (by rw [← h.1]; exact hj)]; rfl
theorem grep_lval {w : World} {S : Stab} {m : List Blk} {H : Nat → Value} {l : Lf} (ht : l.tag < 3) : GRep w S m H l (lval l) := by
  cases l <;> simp [Lf.tag] at ht
  · exact .i _ _
  · exact .b _
  · exact .s _
section
variable {P : Program} {kt : TypeId} {n : List Nat}
theorem run_checkFlat {w : World} {em : Bool} {d : Nat} {xs : Array Value} : ∀ (fs : List Field) (i : Nat) (n : List Nat), flatF P i fs n = true → (∀ k ∈ n, k < 3) → (∀ j, j < n.length → ∃ v, xs[i + j]? = some v) →
    (forIn fs PUnit.unit (fun f (_ : PUnit) => if f.name ≠ "_" then (do
              let v ← part f.type xs f.offset
              Instr.checkKey em (d + 1) f.type v
              pure (ForInStep.yield PUnit.unit) : Sem (ForInStep PUnit))
            else pure (ForInStep.yield PUnit.unit))).run P w = .ok PUnit.unit w
  | [], _, _, _, _, _ => by simp
  | f :: fs, i, [], h, _, _ => by cases h
  | f :: fs, i, k :: ks, h, ht, hx => by
    simp only [flatF, Bool.and_eq_true, bne_iff_ne, ne_eq, beq_iff_eq] at h
    obtain ⟨⟨⟨h1, h2⟩, h3⟩, h4⟩ := h
    obtain ⟨v, hv⟩ := hx 0 (by simp)
    have hk := ht k (List.mem_cons_self ..)
    have ht4 : tagOf (P.underlying f.type) < 4 := by rw [h3]; omega
    have hc : (Instr.checkKey em (d + 1) f.type v).run P w = .ok () w := by
      cases hu : P.underlying f.type with
      | none => rw [hu] at ht4; simp [tagOf] at ht4
      | some dd =>
        rw [hu] at h3 ht4
        cases dd <;> simp [tagOf] at ht4 <;> simp [Instr.checkKey, run_underlying hu]
    have ih := run_checkFlat (w := w) (em := em) (d := d) fs (i + 1) ks h4 (fun x hx => ht x (List.mem_cons_of_mem _ hx)) (fun j hj => by
      obtain ⟨v, hv⟩ := hx (j + 1) (by simpa using hj)
      exact ⟨v, by rw [show i + 1 + j = i + (j + 1) by omega]; exact hv⟩)
    rw [Nat.add_zero] at hv
    rw [List.forIn_cons]
    simp only [Sem.run_bind, h2, h1, ne_eq, not_false_eq_true, if_true, part_flat ht4 hv, Result.andThen_ok, hc, Sem.run_pure]
    exact ih
theorem run_checkS {w : World} {em : Bool} {ls : List Lf} (et : EqT P kt n) (hn : ls.map Lf.tag = n) (ht : ∀ l ∈ ls, l.tag < 3) : (Instr.checkKey em 10000 kt (kval ls)).run P w = .ok () w := by
  show (Instr.checkKey em (9998 + 1 + 1) kt (.agg _)).run P w = _
  rw [Instr.checkKey]
  simp only [Sem.run_bind, run_underlying et.u, Result.andThen_ok]
  rw [← Array.forIn_toList]
  have := run_checkFlat (w := w) (em := em) (d := 9998) (xs := (ls.map lval).toArray) _ 0 n et.f (fun k hk => by
    rw [← hn] at hk
    obtain ⟨l, hl, rfl⟩ := List.mem_map.1 hk
    exact ht l hl) (fun j hj => by
    have hl : j < ls.length := by rw [← hn] at hj; simpa using hj
    exact ⟨lval ls[j], by simp [hl]⟩)
  rw [this]
  simp
structure KeyE (κ : Type) [DecidableEq κ] (P : Program) (kt : TypeId) (e : κ → List Lf) (n : List Nat) : Prop where
  et : EqT P kt n
  tag : ∀ k, (e k).map Lf.tag = n
  low : ∀ x ∈ n, x < 3
  eq : ∀ k k', eqLs (e k) (e k') = some (decide (k = k'))
variable {κ : Type} [DecidableEq κ] {e : κ → List Lf}
theorem KeyE.lt (h : KeyE κ P kt e n) (k : κ) : ∀ l ∈ e k, l.tag < 3 := fun l hl => h.low _ (by rw [← h.tag k]; exact List.mem_map.2 ⟨l, hl, rfl⟩)
theorem KeyE.equal (h : KeyE κ P kt e n) (w : World) (k k' : κ) : (Op.equal kt (kval (e k)) (kval (e k'))).run P w = .ok (decide (k = k')) w := by
  show (Op.equalIn (9999 + 1) kt (.agg _) (.agg _)).run P w = _
  rw [run_equalIn_struct w 9999 kt _ _ h.et.u h.et.h]
  refine eqFields_flat (d := 9998) (S := fun _ _ => False) (m := []) (H := fun _ => undef) _ 0 (e k) (e k') _ (by rw [h.tag]; exact h.et.f) ((h.tag k).trans (h.tag k').symm) (h.eq k k') (fun j l hl => ?_) (fun j l hl => ?_)
  · exact ⟨lval l, by simp [hl], grep_lval (h.lt k l (List.mem_of_getElem? hl))⟩
  · exact ⟨lval l, by simp [hl], grep_lval (h.lt k' l (List.mem_of_getElem? hl))⟩
theorem KeyE.inj (h : KeyE κ P kt e n) {k k' : κ} (hk : kval (e k) = kval (e k')) : k = k' := by
  have h1 := h.equal default k k'
  rw [hk, h.equal default k' k'] at h1
  have : decide (k' = k') = decide (k = k') := by injection h1
  rw [decide_eq_true rfl] at this
  exact of_decide_eq_true this.symm
theorem KeyE.asking (h : KeyE κ P kt e n) (w : World) (k : κ) : ∀ (es : List MapEntry) (ks : List κ) (i : Nat), es.map (·.key) = ks.map (fun k => kval (e k)) →
    ((Instr.findAsking kt (kval (e k)) es i).run P w = .ok none w ∧ k ∉ ks) ∨ ∃ j x, (Instr.findAsking kt (kval (e k)) es i).run P w = .ok (some (i + j, x.val)) w ∧ es[j]? = some x ∧ ks[j]? = some k
  | [], [], i, _ => .inl ⟨by simp [Instr.findAsking], by simp⟩
  | [], _ :: _, i, h => by cases h
  | _ :: _, [], i, h => by cases h
  | x :: es, k' :: ks, i, hk => by
    simp only [List.map_cons, List.cons.injEq] at hk
    obtain ⟨hk1, hk2⟩ := hk
    by_cases hkk : k = k'
    · subst hkk
      refine .inr ⟨0, x, ?_, rfl, rfl⟩
      simp [Instr.findAsking, hk1, h.equal]
    · rcases h.asking w k es ks (i + 1) hk2 with ⟨h1, h2⟩ | ⟨j, y, h1, h2, h3⟩
      · refine .inl ⟨by simp [Instr.findAsking, hk1, h.equal, hkk, h1], ?_⟩
        rw [List.mem_cons]; rintro (h | h); exact hkk h; exact h2 h
      · refine .inr ⟨j + 1, y, ?_, by simpa using h2, by simpa using h3⟩
        simp [Instr.findAsking, hk1, h.equal, hkk, h1, Nat.add_assoc, Nat.add_comm 1 j]
theorem KeyE.find (h : KeyE κ P kt e n) (w : World) (k : κ) {es : List MapEntry} {ks : List κ} (hk : es.map (·.key) = ks.map (fun k => kval (e k))) :
    ((Instr.findKey kt (kval (e k)) es).run P w = .ok none w ∧ k ∉ ks) ∨ ∃ j x, (Instr.findKey kt (kval (e k)) es).run P w = .ok (some (j, x.val)) w ∧ es[j]? = some x ∧ ks[j]? = some k := by
  have hf : (Instr.findKey kt (kval (e k)) es).run P w = (Instr.findAsking kt (kval (e k)) es).run P w := by
    cases es with
    | nil => simp [Instr.findKey, run_underlying h.et.u, Result.andThen, Instr.findNow, Instr.findAsking]
    | cons x es =>
      have : Instr.findNow (.struct (P.fieldsOf kt)) (kval (e k)) (x :: es) 0 = none := by simp [Instr.findNow, Instr.sameNow]
      simp [Instr.findKey, run_underlying h.et.u, Result.andThen, this]
  rw [hf]
  rcases h.asking w k es ks 0 hk with h | ⟨j, x, h1, h2, h3⟩
  · exact .inl h
  · rw [Nat.zero_add] at h1
    exact .inr ⟨j, x, h1, h2, h3⟩
theorem sameBits_lval (l : Lf) (h : l.tag < 3) (d : Nat) : Instr.sameBits d (lval l) (lval l) = true := by
  cases l <;> simp [Lf.tag] at h <;> cases d <;> simp [lval, Instr.sameBits] <;> exact (bytes_beq _ _).2 rfl
theorem KeyE.stays (h : KeyE κ P kt e n) (w : World) (k : κ) : (Instr.keyThatStays (kval (e k)) (kval (e k))).run P w = .ok (kval (e k)) w := by
  have hs : Instr.sameBits 10000 (kval (e k)) (kval (e k)) = true := by
    show Instr.sameBits (9999 + 1) (.agg _) (.agg _) = true
    simp only [Instr.sameBits, beq_self_eq_true, Bool.true_and, List.all_eq_true]
    intro p hp
    obtain ⟨i, hi, hpe⟩ := List.getElem_of_mem hp
    rw [List.getElem_zip] at hpe
    rw [← hpe]
    simp only [List.getElem_map]
    exact sameBits_lval _ (h.lt k _ (List.getElem_mem _)) 9999
  simp [Instr.keyThatStays, hs]
end
section
variable {κ : Type} [DecidableEq κ]
def ixPut (M : List (κ × Int)) (k : κ) (i : Int) : List (κ × Int) := if M.any (fun x => decide (x.1 = k)) then M.map (fun x => if x.1 = k then (x.1, i) else x) else M ++ [(k, i)]
def ixHas (M : List (κ × Int)) (k : κ) : Bool := M.any (fun x => decide (x.1 = k))
def ixGet (M : List (κ × Int)) (k : κ) : Int := match M.find? (fun x => decide (x.1 = k)) with | some x => x.2 | none => 0
def ixKeys (e : κ → List Lf) (M : List (κ × Int)) : List Value := (M.map (·.1)).map (fun k => kval (e k))
def ixCells (M : List (κ × Int)) : List (List Lf) := M.map fun x => [.i .i64 x.2]
abbrev ixBlk (e : κ → List Lf) (M : List (κ × Int)) : Blk := .tab (mkMap vone (ixKeys e M)) (ixCells M)
theorem ixHas_iff {M : List (κ × Int)} {k : κ} : ixHas M k = true ↔ k ∈ M.map (·.1) := by
  unfold ixHas
  rw [List.any_eq_true, List.mem_map]
  constructor
  · rintro ⟨x, h1, h2⟩; exact ⟨x, h1, of_decide_eq_true h2⟩
  · rintro ⟨x, h1, h2⟩; exact ⟨x, h1, decide_eq_true h2⟩
theorem ixPut_new {M : List (κ × Int)} {k : κ} {i : Int} (h : k ∉ M.map (·.1)) : ixPut M k i = M ++ [(k, i)] := by
  unfold ixPut
  rw [if_neg]
  intro hh
  exact h (ixHas_iff.1 hh)
theorem ixPut_at {M : List (κ × Int)} {k : κ} {i : Int} {j : Nat} (hd : (M.map (·.1)).Nodup) (hj : (M.map (·.1))[j]? = some k) : ixPut M k i = M.set j (k, i) := by
  have hj' := List.getElem?_eq_some_iff.1 hj
  obtain ⟨hlt, hk⟩ := hj'
  have hlt' : j < M.length := by simpa using hlt
  rw [List.getElem_map] at hk
  unfold ixPut
  rw [if_pos (show (M.any fun x => decide (x.1 = k)) = true from ixHas_iff.2 (List.mem_of_getElem? hj))]
  apply List.ext_getElem (by simp)
  intro q h1 h2
  rw [List.getElem_map, List.getElem_set]
  by_cases hq : j = q
  · subst hq; rw [if_pos rfl, if_pos hk, hk]
  · rw [if_neg hq, if_neg]
    intro he
    have h3 : q < M.length := by simpa using h2
    have h4 : q < (M.map (·.1)).length := by simpa using h3
    rcases Nat.lt_trichotomy j q with h5 | h5 | h5
    · exact (List.pairwise_iff_getElem.1 hd) j q hlt h4 h5 (by rw [List.getElem_map, List.getElem_map, hk]; exact he.symm)
    · exact hq h5
    · exact (List.pairwise_iff_getElem.1 hd) q j h4 hlt h5 (by rw [List.getElem_map, List.getElem_map, hk]; exact he)
theorem ixGet_at {M : List (κ × Int)} {k : κ} {j : Nat} (hd : (M.map (·.1)).Nodup) (hj : (M.map (·.1))[j]? = some k) : ∃ x, M[j]? = some x ∧ ixGet M k = x.2 := by
  induction M generalizing j with
  | nil => simp at hj
  | cons y M ih =>
    rw [List.map_cons, List.nodup_cons] at hd
    cases j with
    | zero =>
      have : y.1 = k := by simpa using hj
      refine ⟨y, rfl, ?_⟩
      unfold ixGet
      rw [List.find?_cons, decide_eq_true this]
    | succ j =>
      have hj' : (M.map (·.1))[j]? = some k := by simpa using hj
      obtain ⟨x, h1, h2⟩ := ih hd.2 hj'
      refine ⟨x, by simpa using h1, ?_⟩
      have hne : y.1 ≠ k := fun he => hd.1 (by rw [he]; exact List.mem_of_getElem? hj')
      unfold ixGet at h2 ⊢
      rw [List.find?_cons, decide_eq_false hne]
      exact h2
theorem ixGet_no {M : List (κ × Int)} {k : κ} (h : k ∉ M.map (·.1)) : ixGet M k = 0 := by
  unfold ixGet
  rw [List.find?_eq_none.2 fun x hx => by
    intro hh
    exact h (List.mem_map.2 ⟨x, hx, of_decide_eq_true hh⟩)]
end
section
variable {P : Program} {c : Ctx} {ops : Array Oper} {Q : Exit → AS → Prop} {rest : List Oper} {ty : TypeId} {pos : String} {af : Array Edge} {d : Tmp} {t : Nat → AV} {m : List Blk}
variable {κ : Type} [DecidableEq κ] {e : κ → List Lf} {n : List Nat} {kt : TypeId}
omit [DecidableEq κ] in
theorem smaketab {tm : TypeId} (e : κ → List Lf) (hd : decide (d < c.nt) = true)
    (k : AWL P c ops Q rest ⟨upd t d (.s (.one (.mp 0 m.length))), m ++ [ixBlk e []]⟩) : AWL P c ops Q (⟨some d, .makeMap tm none, ty, pos, af, none⟩ :: rest) ⟨t, m⟩ := by
  intro a w S H r
  refine wpList_plain rfl fun K hK => ?_
  unfold Oper.wp
  have hrun : (execOp a.eval ⟨some d, .makeMap tm none, ty, pos, af, none⟩).run P w = .ok (.value (.map (some w.heap.size))) (w.alloc (.map #[] 0)) := by
    simp [execOp, Instr.makeMap]
  rw [hrun]
  have r1 := r.newObj (o := .map #[] 0) (mk := mkMap vone (ixKeys e [])) (vss := []) (css := []) rfl ⟨#[], 0, rfl, stamped_empty 0, rfl, rfl⟩ ⟨rfl, fun j cs vs h => by simp at h⟩
  have r2 := r1.toTab (p := m.length) (g := w.heap.size) (mk := mkMap vone (ixKeys e [])) (cs := []) (by simp)
  have e2 : (m ++ [Blk.obj w.heap.size (mkMap vone (ixKeys e [])) []]).set m.length (.tab (mkMap vone (ixKeys e [])) []) = m ++ [ixBlk e []] := by simp [ixCells]
  rw [e2] at r2
  exact hK _ _ (k _ _ _ _ (r2.put (d := d) (x := .s (.one (.mp 0 m.length))) (of_decide_eq_true hd) ⟨by simp, w.heap.size, setH_same _ _ _, rfl⟩))
theorem opnd_tab {st : AS} {a : Act} {w : World} {S : Stab} {H : Nat → Value} (r : Rel c st a w S H) {x : Operand} {k p g : Nat} (hx : opnd st x = .s (.one (.mp k p))) (hH : H p = .pointer (some ⟨g, 0, none⟩)) : a.eval x = tabVal k g := by
  have h := opnd_rel r x
  rw [hx] at h
  obtain ⟨_, g', h1, h2⟩ := h
  rw [hH] at h1; cases h1
  exact h2
theorem opnd_key (K : KeyE κ P kt e n) {st : AS} {a : Act} {w : World} {S : Stab} {H : Nat → Value} (r : Rel c st a w S H) {y : Operand} {k : κ} (hy : opnd st y = .s (.agg (e k))) : a.eval y = kval (e k) := by
  have h := opnd_rel r y
  rw [hy] at h
  obtain ⟨vs, h1, h2⟩ := h
  rw [h1]
  unfold kval
  rw [← lvals_of h2 (K.lt k)]
theorem stabput {tm et : TypeId} (K : KeyE κ P kt e n) {x y z : Operand} {p : Nat} {M : List (κ × Int)} {k : κ} {i : Int} (hu : P.underlying tm = some (.map kt et))
    (hx : opnd ⟨t, m⟩ x = .s (.one (.mp 0 p))) (hy : opnd ⟨t, m⟩ y = .s (.agg (e k))) (hz : opnd ⟨t, m⟩ z = .s (.one (.i .i64 i))) (hm : m[p]? = some (ixBlk e M))
    (kk : AWL P c ops Q rest ⟨t, m.set p (ixBlk e (ixPut M k i))⟩) :
    AWL P c ops Q (⟨none, .mapUpdate tm x y z, ty, pos, af, none⟩ :: rest) ⟨t, m⟩ := by
  intro a w S H r0
  have ey0 := opnd_key K r0 hy
  obtain ⟨g, hH, r⟩ := r0.ofTab hm
  have hp : p < m.length := (List.getElem?_eq_some_iff.1 hm).1
  have ex := opnd_tab r0 hx hH
  have ez : a.eval z = .int .i64 i := by
    have h := opnd_rel r0 z
    rw [hz] at h
    exact rep_i h
  have hmo : (m.set p (Blk.obj g (mkMap vone (ixKeys e M)) (ixCells M)))[p]? = some (.obj g (mkMap vone (ixKeys e M)) (ixCells M)) := List.getElem?_set_self hp
  obtain ⟨h1, vss, o, h2, h3, ⟨es, clock, rfl, hst, hks, hvs⟩, h5⟩ := r.bl p _ hmo
  have hkeys : es.toList.map (·.key) = (M.map (·.1)).map (fun k => kval (e k)) := hks
  have hlen : (ixCells M).length = vss.length := h5.1
  have hlM : M.length = vss.length := by rw [← hlen]; simp [ixCells]
  have hesM : es.size = M.length := by
    have := congrArg List.length hkeys
    simpa using this
  have hnd : (M.map (·.1)).Nodup := by
    have h := hst.2.2
    rw [hkeys] at h
    exact nodup_of_map _ h
  have fin : ∀ {w' : World} {H' : Nat → Value} {o : Obj} {M' : List (κ × Int)}, Rel c ⟨t, (m.set p (Blk.obj g (mkMap vone (ixKeys e M)) (ixCells M))).set p (.obj g (mkMap vone (ixKeys e M')) (ixCells M'))⟩ a w' S H' → Rel c ⟨t, m.set p (ixBlk e M')⟩ a w' S H' := fun {w' H' o M'} r' => by
    have r'' := r'.toTab (p := p) (g := g) (mk := mkMap vone (ixKeys e M')) (cs := ixCells M') (by rw [List.set_set, List.getElem?_set_self hp])
    rw [List.set_set, List.set_set] at r''
    exact r''
  refine wpList_plain rfl fun KK hK => ?_
  unfold Oper.wp
  rcases K.find w k hkeys with ⟨f1, f2⟩ | ⟨j, x', f1, f2, f3⟩
  · have hrun : (execOp a.eval ⟨none, .mapUpdate tm x y z, ty, pos, af, none⟩).run P w = .ok .skip (setBlock w g (.map (es.push { key := kval (e k), val := .int .i64 i, born := clock }) (clock + 1))) := by
      simp [execOp, ex, ey0, ez, tabVal, Instr.mapUpdate, run_underlying hu, MapKept.run_getObj_map h2, run_checkS K.et (K.tag k) (K.lt k), f1, run_setObj_map _ h2, Result.andThen, setBlock]
    rw [hrun]
    have hput := ixPut_new (i := i) f2
    have hne : ∀ x ∈ es.toList, x.key ≠ kval (e k) := fun x hx he => by
      have : kval (e k) ∈ (M.map (·.1)).map (fun k => kval (e k)) := by rw [← hkeys, ← he]; exact List.mem_map.2 ⟨x, hx, rfl⟩
      obtain ⟨k', hk', he'⟩ := List.mem_map.1 this
      rw [K.inj he'] at hk'
      exact f2 hk'
    obtain ⟨H', r', _⟩ := r.setObj (mk' := mkMap vone (ixKeys e (ixPut M k i))) (css' := ixCells (ixPut M k i)) (vss := vss ++ [[.int .i64 i]]) (o := .map (es.push { key := kval (e k), val := .int .i64 i, born := clock }) (clock + 1)) hmo rfl
      ⟨_, _, rfl, stamped_push hst hne, by rw [hput]; simp [hkeys, ixKeys], by simp [hvs, vone]⟩ (by
        rw [hput]
        refine ⟨by simp [ixCells, hlM], fun q cs vs e1 e2 => ?_⟩
        rcases Nat.lt_or_ge q M.length with hq | hq
        · refine h5.2 q cs vs ?_ (by rw [List.getElem?_append_left (by omega)] at e2; exact e2)
          have : (ixCells (M ++ [(k, i)]))[q]? = (ixCells M)[q]? := by unfold ixCells; rw [List.map_append, List.getElem?_append_left (by simpa using hq)]
          rw [← this]; exact e1
        · rw [List.getElem?_append_right (by omega), ← hlM] at e2
          have : (ixCells (M ++ [(k, i)]))[q]? = ([[Lf.i .i64 i]] : List (List Lf))[q - M.length]? := by unfold ixCells; rw [List.map_append, List.getElem?_append_right (by simpa using hq)]; simp
          rw [this] at e1
          rcases Nat.eq_zero_or_pos (q - M.length) with h0 | h0
          · rw [h0] at e1 e2
            obtain rfl := Option.some.inj e1
            obtain rfl := Option.some.inj e2
            exact ⟨rfl, fun j l v a b => by
              cases j with
              | zero => obtain rfl := Option.some.inj a; obtain rfl := Option.some.inj b; exact .i _ _
              | succ j => simp at a⟩
          · rw [List.getElem?_eq_none (by rw [List.length_singleton]; omega)] at e1; cases e1)
    exact hK _ _ (kk _ _ _ _ (fin (o := .map #[] 0) r'))
  · have hj : j < es.size := by
      have := (List.getElem?_eq_some_iff.1 f2).1
      simpa using this
    have hjM : j < M.length := by omega
    have hkj : x'.key = kval (e k) := by
      have h6 : (es.toList.map (·.key))[j]? = some x'.key := by rw [List.getElem?_map, f2]; rfl
      rw [hkeys, List.getElem?_map, f3] at h6
      exact (Option.some.inj h6).symm
    have hej : es[j]? = some x' := by rw [← Array.getElem?_toList]; exact f2
    have hrun : (execOp a.eval ⟨none, .mapUpdate tm x y z, ty, pos, af, none⟩).run P w = .ok .skip (setBlock w g (.map (es.modify j fun E => { E with key := kval (e k), val := .int .i64 i }) clock)) := by
      simp [execOp, ex, ey0, ez, tabVal, Instr.mapUpdate, run_underlying hu, MapKept.run_getObj_map h2, run_checkS K.et (K.tag k) (K.lt k), f1, run_setObj_map _ h2, Result.andThen, setBlock, hej, hkj, K.stays]
    rw [hrun]
    have hput := ixPut_at (i := i) hnd f3
    have hmk : (es.modify j fun E => { E with key := kval (e k), val := .int .i64 i }).toList.map (·.key) = ixKeys e (M.set j (k, i)) := by
      rw [Array.toList_modify, map_modify (fun E : MapEntry => { E with key := kval (e k), val := .int .i64 i }) (fun E : MapEntry => E.key) (fun _ => kval (e k)) (fun _ => rfl), modify_const, hkeys]
      unfold ixKeys
      rw [List.map_set, List.map_set]
    have hmv : (es.modify j fun E => { E with key := kval (e k), val := .int .i64 i }).toList.map (·.val) = (vss.set j [.int .i64 i]).map vone := by
      rw [Array.toList_modify, map_modify (fun E : MapEntry => { E with key := kval (e k), val := .int .i64 i }) (fun E : MapEntry => E.val) (fun _ => Value.int .i64 i) (fun _ => rfl), modify_const, hvs, List.map_set]
      rfl
    obtain ⟨H', r', _⟩ := r.setObj (mk' := mkMap vone (ixKeys e (ixPut M k i))) (css' := ixCells (ixPut M k i)) (vss := vss.set j [.int .i64 i]) (o := .map (es.modify j fun E => { E with key := kval (e k), val := .int .i64 i }) clock) hmo rfl
      ⟨_, _, rfl, stamped_modify hst j _ (fun _ _ => rfl) (fun e' _ he' => by rw [hej] at he'; cases he'; exact hkj.symm), by rw [hput]; exact hmk, hmv⟩ (by
        rw [hput]
        refine ⟨by simp [ixCells, hlM], fun q cs vs e1 e2 => ?_⟩
        have e1' : ((ixCells M).set j [.i .i64 i])[q]? = some cs := by rw [← e1]; unfold ixCells; rw [List.map_set]
        rw [List.getElem?_set] at e1' e2
        by_cases hq : j = q
        · subst hq
          rw [if_pos rfl, if_pos (by omega)] at e1' e2
          obtain rfl := Option.some.inj e1'
          obtain rfl := Option.some.inj e2
          exact ⟨rfl, fun j l v a b => by
              cases j with
              | zero => obtain rfl := Option.some.inj a; obtain rfl := Option.some.inj b; exact .i _ _
              | succ j => simp at a⟩
        · rw [if_neg hq] at e1' e2
          exact h5.2 q cs vs e1' e2)
    exact hK _ _ (kk _ _ _ _ (fin (o := .map #[] 0) r'))
omit [DecidableEq κ] in
theorem opv_tablen {tm et : TypeId} {x : Operand} {p : Nat} {M : List (κ × Int)} (hu : P.underlying tm = some (.map kt et)) (hx : opnd ⟨t, m⟩ x = .s (.one (.mp 0 p))) (hm : m[p]? = some (ixBlk e M)) :
    OpV P c ⟨t, m⟩ (.call { callee := .builtin .len, args := #[x], argTypes := #[tm] }) ty (.s (.one (.i .i64 (M.length : Int)))) := by
  intro a w S H r
  obtain ⟨g, hH, vss, o, h2, h3, ⟨es, clock, rfl, hst, hks, hvs⟩, h5⟩ := r.bl p _ hm
  have ex := opnd_tab r hx hH
  have hesM : es.size = M.length := by
    have := congrArg List.length hks
    simpa [ixKeys] using this
  refine ⟨.int .i64 M.length, avr_rep (.i _ _), fun _ _ _ _ => ?_⟩
  simp [execOp, resolve, invoke, builtin, Builtin.len_, run_underlying hu, ex, tabVal, MapKept.run_getObj_map h2, Result.andThen, goInt, hesM]
theorem opv_tabget {tm et : TypeId} (K : KeyE κ P kt e n) {x y : Operand} {p : Nat} {M : List (κ × Int)} {k : κ} (hu : P.underlying tm = some (.map kt et)) (zi : (P.info? et).bind (·.zero) = some (.int .i64 0)) (hx : opnd ⟨t, m⟩ x = .s (.one (.mp 0 p))) (hy : opnd ⟨t, m⟩ y = .s (.agg (e k))) (hm : m[p]? = some (ixBlk e M)) :
    OpV P c ⟨t, m⟩ (.lookup tm x y true) ty (.tup [.one (.i .i64 (ixGet M k)), .one (.b (ixHas M k))]) := by
  intro a w S H r
  have ey0 := opnd_key K r hy
  obtain ⟨g, hH, vss, o, h2, h3, ⟨es, clock, rfl, hst, hks, hvs⟩, h5⟩ := r.bl p _ hm
  have ex := opnd_tab r hx hH
  have hkeys : es.toList.map (·.key) = (M.map (·.1)).map (fun k => kval (e k)) := hks
  have hnd : (M.map (·.1)).Nodup := by
    have h := hst.2.2
    rw [hkeys] at h
    exact nodup_of_map _ h
  have tup : ∀ (n : Int) (b : Bool), AVR (GRep w S m H) (.tup [.one (.i .i64 n), .one (.b b)]) (.tuple #[.int .i64 n, .bool b]) := fun n b => ⟨_, rfl, rfl, fun i x u h1 h2 => by
    match i with
    | 0 => obtain rfl := Option.some.inj h1; obtain rfl := Option.some.inj h2; exact GRep.of_rep (m := m) (H := H) (.i _ _)
    | 1 => obtain rfl := Option.some.inj h1; obtain rfl := Option.some.inj h2; exact GRep.of_rep (m := m) (H := H) (.b _)
    | i + 2 => simp at h1⟩
  rcases K.find w k hkeys with ⟨f1, f2⟩ | ⟨j, x', f1, f2, f3⟩
  · have e1 : ixHas M k = false := by
      cases hh : ixHas M k with
      | false => rfl
      | true => exact absurd (ixHas_iff.1 hh) f2
    rw [e1, ixGet_no f2]
    have hz : (zeroValue et).run P w = .ok (.int .i64 0) w := by
      cases hi : P.info? et with
      | none => rw [hi] at zi; cases zi
      | some inf =>
        rw [hi] at zi
        have hz0 : inf.zero = some (.int .i64 0) := zi
        simp [zeroValue, typeInfo, hi, hz0, Result.andThen]
    refine ⟨_, tup 0 false, fun _ _ _ _ => ?_⟩
    simp [execOp, ex, ey0, tabVal, Instr.lookup, run_underlying hu, MapKept.run_getObj_map h2, run_checkS K.et (K.tag k) (K.lt k), f1, Result.andThen, hz]
  · obtain ⟨y', h6, h7⟩ := ixGet_at hnd f3
    have e1 : ixHas M k = true := ixHas_iff.2 (List.mem_of_getElem? f3)
    rw [e1, h7]
    have hv : x'.val = .int .i64 y'.2 := by
      have h8 : (es.toList.map (·.val))[j]? = some x'.val := by rw [List.getElem?_map, f2]; rfl
      rw [hvs, List.getElem?_map] at h8
      cases hvj : vss[j]? with
      | none => rw [hvj] at h8; cases h8
      | some vs =>
        rw [hvj] at h8
        have h9 := h5.2 j [.i .i64 y'.2] vs (by unfold ixCells; rw [List.getElem?_map, h6]; rfl) hvj
        have h10 : vone vs = x'.val := Option.some.inj h8
        rw [← h10]
        match vs, h9 with
        | [v], h9 => exact rep_i (GRep.of_rep (m := m) (H := H) (h9.2 0 _ v rfl rfl))
        | [], h9 => have := h9.1; cases this
        | _ :: _ :: _, h9 => have := h9.1; simp at this
    refine ⟨_, tup y'.2 true, fun _ _ _ _ => ?_⟩
    simp [execOp, ex, ey0, tabVal, Instr.lookup, run_underlying hu, MapKept.run_getObj_map h2, run_checkS K.et (K.tag k) (K.lt k), f1, Result.andThen, hv]
theorem Rel.fillTab {c : Ctx} {t : Nat → AV} {m : List Blk} {a : Act} {w w' : World} {S S' : Stab} {H H' : Nat → Value} (r : Rel c ⟨t, m⟩ a w S H) {p : Nat} (hm : m[p]? = some .hole) {mk : List (List Value) → Obj → Prop} {cs : List (List Lf)}
    (hx : Ext w S w' S') (hin : InH w' S') (mem : Mem w' S' [.tab mk cs] H') (hown : ∀ g, ownOf (H' 0) = some g → w.heap.size ≤ g) :
    Rel c ⟨t, m.set p (.tab mk cs)⟩ a w' S' (setH H p (H' 0)) := by
  have hp : p < m.length := (List.getElem?_eq_some_iff.1 hm).1
  have hH : H p = undef := r.bl p _ hm
  refine r.changeH (p := p) (b' := .tab mk cs) (v := H' 0) (by simp) (List.getElem?_set_self hp) (fun q hq => List.getElem?_set_ne (fun e => hq e.symm)) (hx.keeps r.sl) (fun g _ h => (undef_ne (hH.symm.trans h)).elim)
    (fun e sz k cs _ h he => by cases he) (fun g hg _ => hx.blk g hg) (mem.bl 0 _ rfl) (fun g hg => ?_)
    (fun q b g i _ hb ho hs => hx.back g i (r.lo q b g hb ho).2 hs) (fun g i hg _ hs => hx.back g i (Nat.lt_of_lt_of_le hg r.ex.size) hs) hin hx.size hx.os hx.tape hx.output
  have hge := hown g hg
  refine ⟨.inl (Nat.le_trans r.ex.size hge), mem.hp 0 _ g rfl hg, fun q b _ hb ho => ?_, fun i hs => mem.sb 0 _ g i rfl hg hs⟩
  have := (r.lo q b g hb ho).2
  omega
theorem scallT_at {M : List Blk} {callee : Operand} {f : FuncId} {args : Array Operand} {ats : Array TypeId} {xs : List SV} {mk : List (List Value) → Obj → Prop} {cs : List (List Lf)} {kd : Nat} (p : Nat) (hd : decide (d < c.nt) = true) (hf : FnI P f) (hcal : Cal ⟨t, M⟩ callee f [] []) (ho : Opnds ⟨t, M⟩ args.toList xs)
    (hc : CallsB P f [] xs (fun y m' => y = .s (.one (.mp kd 0)) ∧ m' = [.tab mk cs])) (hpub : xs.all (fun x => x.inbB 0) = true) (hm : M[p]? = some .hole) (hp0 : Nat.ble c.m0.length p = true)
    (k : AWL P c ops Q rest ⟨upd t d (.s (.one (.mp kd p))), M.set p (.tab mk cs)⟩) : AWL P c ops Q (⟨some d, .call { callee := .value callee, args := args, argTypes := ats }, ty, pos, af, none⟩ :: rest) ⟨t, M⟩ := by
  intro a w S H r
  obtain ⟨vs, hvs, hrun⟩ := callB_run (pos := pos) (af := af) (ty := ty) (ats := ats) r hf hcal ho (some d)
  refine wpList_plain rfl fun K hK => ?_
  unfold Oper.wp
  rw [hrun]
  have hvs' : SvsR (GRep w S [] H) xs vs.toList := by
    have tie : Tie [] M H H (fun j => j) := ⟨fun p h => absurd h (Nat.not_lt_zero _), fun _ _ => rfl, fun p b h => by cases h⟩
    have e : xs.map (SV.ren (fun j => j)) = xs := by
      have hl : ∀ l : Lf, l.ren0 (fun j => j) = l := fun l => by cases l <;> rfl
      have hl2 : ∀ l : Lf, l.ren (fun j => j) = l := fun l => by
        cases l with
        | fn f a b =>
          show Lf.fn f (a.map _) (b.map _) = _
          rw [show (Lf.ren0 fun j => j) = id from funext hl, List.map_id, List.map_id]
        | _ => rfl
      have hs : ∀ x : SV, x.ren (fun j => j) = x := fun x => by
        cases x with
        | one l => show SV.one _ = _; rw [hl2]
        | agg ls => show SV.agg _ = _; rw [show (Lf.ren fun j => j) = id from funext hl2, List.map_id]
      rw [show (SV.ren fun j => j) = id from funext hs, List.map_id]
    exact tie.svsDown hpub (by rw [e]; simpa using hvs)
  refine (hc w S H vs r.sl ⟨fun p b h => by simp at h, fun p b g h => by simp at h, fun p q b b' g h => by simp at h, fun p b g i h => by simp at h⟩ hvs').mono ?_
  rintro e' w' ⟨v, y, m', S', H', rfl, ⟨rfl, rfl⟩, ext, hin, mem', hown', _, hav⟩
  have hx : Ext w S w' S' := ext.toExt (fun b ⟨q, bb, h, _⟩ => by simp at h)
  have r' := r.fillTab hm hx hin mem' (fun g hg => by
    rcases hown' 0 _ g rfl hg with h | ⟨q, bb, h, _⟩
    · exact h
    · simp at h)
  have hp : p < M.length := (List.getElem?_eq_some_iff.1 hm).1
  obtain ⟨_, g, hg, hv⟩ := (show GRep0 w' S' [.tab mk cs] H' (.mp kd 0) v from hav)
  refine hK _ _ (k _ _ _ _ (r'.put (of_decide_eq_true hd) ?_))
  exact ⟨by simpa using hp, g, by rw [setH_same]; exact hg, hv⟩
theorem keyS (a b : List UInt8) : ((⟨a.toArray⟩ : ByteArray).toList == (⟨b.toArray⟩ : ByteArray).toList) = decide (a = b) := by
  have h : ∀ l : List UInt8, (⟨l.toArray⟩ : ByteArray).toList = l := fun l => by rw [ByteArray.toList_eq]
  rw [h, h]
  by_cases e : a = b
  · subst e; simp
  · simp [e]
theorem beqD {α : Type} [BEq α] [LawfulBEq α] [DecidableEq α] (a b : α) : (a == b) = decide (a = b) := by
  by_cases h : a = b
  · subst h; simp
  · simp [h]
theorem all_cons {Q : List Blk → Prop} {M : List Blk} {l : List (List Blk)} (h : Q M) (h' : ∀ x ∈ l, Q x) : ∀ x ∈ M :: l, Q x := fun x hx => by
  rcases List.mem_cons.1 hx with rfl | hx
  · exact h
  · exact h' x hx
end
end Go.Proofs.Ytbmciegldpeaiaa.Abs

/-
  A sort, and a compaction, of an own row of numbers.
-/
namespace Go.Proofs.Ytbmciegldpeaiaa.Abs
open Go.RowKit Go.Shelf Go.Sort
def encN : Int → Value := Value.int .i64
theorem flat_eI (xs : List Int) : xs.flatMap eI = xs.map fun n => .i .i64 n := by
  induction xs with
  | nil => rfl
  | cons x xs ih => rw [List.flatMap_cons, List.map_cons, ih]; rfl
theorem ints_of {w : World} {S : Stab} {xs : List Int} {vals : List Value} (h : LsR (Rep w S) (xs.flatMap eI) vals) : vals = xs.map encN := by
  rw [flat_eI] at h
  apply List.ext_getElem?
  intro j
  rw [List.getElem?_map]
  rcases Nat.lt_or_ge j xs.length with hj | hj
  · have hv : j < vals.length := by rw [← h.1]; simpa using hj
    rw [List.getElem?_eq_getElem hj, List.getElem?_eq_getElem hv]
    exact congrArg some (rep_i (GRep.of_rep (m := []) (H := fun _ => undef) (h.2 j (.i .i64 xs[j]) vals[j] (by rw [List.getElem?_map, List.getElem?_eq_getElem hj]; rfl) (List.getElem?_eq_getElem hv))))
  · rw [List.getElem?_eq_none hj, List.getElem?_eq_none (by rw [← h.1]; simpa using hj)]; rfl
theorem rep_ints {w : World} {S : Stab} (xs : List Int) : LsR (Rep w S) (xs.flatMap eI) (xs.map encN) := by
  rw [flat_eI]
  refine ⟨by simp, fun j l v h1 h2 => ?_⟩
  rw [List.getElem?_map] at h1 h2
  cases hx : xs[j]? with
  | none => rw [hx] at h1; cases h1
  | some x => rw [hx] at h1 h2; cases h1; cases h2; exact .i _ _
section
variable {w : World} {b n : Nat} {d : Array Int} {os : Array Obj} {cur : Array Value} {e : TypeId}
theorem gw_same (hb : w.heap[b]? = some (.cells cur e (0, 0))) (hd : d.size ≤ cur.size) : (grow (putRow encN (Sort.ahead w n) b 0 d) os).heap[b]? = some (.cells (d.toList.map encN ++ cur.toList.drop d.size).toArray e (0, 0)) := by
  have hlt := (Array.getElem?_eq_some_iff.1 hb).1
  have h1 : (grow (putRow encN (Sort.ahead w n) b 0 d) os).heap[b]? = (putRow encN (Sort.ahead w n) b 0 d).heap[b]? := by
    show ((putRow encN (Sort.ahead w n) b 0 d).heap ++ os)[b]? = _
    rw [Array.getElem?_append_left (by simp [putRow, Sort.ahead, mapBlock]; exact hlt)]
  rw [h1]
  show ((Sort.ahead w n).heap.modify b _)[b]? = _
  rw [Array.getElem?_modify, if_pos rfl]
  show (w.heap[b]?).map _ = _
  rw [hb]
  show some (Obj.cells (putCells encN 0 d cur) e (0, 0)) = _
  congr 2
  apply Array.ext_getElem?
  intro i
  rw [putCells, Array.getElem?_mapIdx]
  simp only [Nat.zero_le, true_and, Nat.zero_add, Nat.sub_zero]
  have hto : (d.toList.map encN ++ cur.toList.drop d.size).toArray[i]? = (d.toList.map encN ++ cur.toList.drop d.size)[i]? := List.getElem?_toArray ..
  rw [hto]
  rcases Nat.lt_or_ge i d.size with hi | hi
  · rw [List.getElem?_append_left (by simpa using hi), Array.getElem?_eq_getElem (show i < cur.size by omega), List.getElem?_map, Array.getElem?_toList, Array.getElem?_eq_getElem hi, Option.map_some, if_pos hi, getElem!_pos d i hi]
    rfl
  · rw [List.getElem?_append_right (by simpa using hi), List.getElem?_drop, Array.getElem?_toList, List.length_map, Array.length_toList, show d.size + (i - d.size) = i by omega]
    cases cur[i]? with
    | none => rfl
    | some v => rw [Option.map_some, if_neg (by omega)]
theorem gw_other {i : Nat} (hi : i < w.heap.size) (hne : i ≠ b) : (grow (putRow encN (Sort.ahead w n) b 0 d) os).heap[i]? = w.heap[i]? := by
  have h1 : (grow (putRow encN (Sort.ahead w n) b 0 d) os).heap[i]? = (putRow encN (Sort.ahead w n) b 0 d).heap[i]? := by
    show ((putRow encN (Sort.ahead w n) b 0 d).heap ++ os)[i]? = _
    rw [Array.getElem?_append_left (by simp [putRow, Sort.ahead, mapBlock]; exact hi)]
  rw [h1]
  show ((Sort.ahead w n).heap.modify b _)[i]? = _
  rw [Array.getElem?_modify, if_neg (fun h => hne h.symm)]
  rfl
theorem gw_size : w.heap.size ≤ (grow (putRow encN (Sort.ahead w n) b 0 d) os).heap.size := by
  show _ ≤ ((putRow encN (Sort.ahead w n) b 0 d).heap ++ os).size
  rw [Array.size_append]
  simp [putRow, Sort.ahead, mapBlock]
end
structure RowN (P : Program) (e : TypeId) (w : World) (S : Stab) (H : Nat → Value) (xs : List Int) (blk cap : Nat) (cur : Array Value) : Prop where
  h : H 0 = .slice (some ⟨blk, 0, none⟩) xs.length cap
  heap : w.heap[blk]? = some (.cells cur e (0, 0))
  fits : xs.length ≤ cap
  most : cap ≤ maxLen
  cs : cur.size = cap * 1
  vals : cur.toList.take xs.length = xs.map encN
  lt : blk < w.heap.size
  noS : ∀ i, ¬ S blk i
theorem RowN.holds {P : Program} {e : TypeId} {w : World} {S : Stab} {H : Nat → Value} {xs : List Int} {blk cap : Nat} {cur : Array Value} (h : RowN P e w S H xs blk cap cur) : Holds (Value.int .i64) w blk 0 xs.toArray := fun j hj => by
  rw [List.size_toArray] at hj
  have hcur : cur.toList[j]? = some (.int .i64 xs[j]) := by
    have : (cur.toList.take xs.length)[j]? = some (encN xs[j]) := by rw [h.vals, List.getElem?_map, List.getElem?_eq_getElem hj]; rfl
    rw [List.getElem?_take, if_pos hj] at this
    exact this
  refine ⟨?_, ?_⟩
  · rw [Nat.zero_add, cell_of_row w _ _ cur e (0, 0) h.heap, getElem!_pos _ _ (by simpa using hj)]
    simpa using hcur
  · rw [Nat.zero_add]
    unfold World.frozen?
    rw [h.heap]
    simp
theorem rowN_of {P : Program} {e : TypeId} {w : World} {S : Stab} {H : Nat → Value} {xs : List Int} (mem : Mem w S [.arr e 1 0 (xs.flatMap eI)] H) : (H 0 = .slice none 0 0 ∧ xs = []) ∨ ∃ blk cap cur, RowN P e w S H xs blk cap cur := by
  have hf : ∀ x : Int, (eI x).length = 1 := fun _ => rfl
  obtain ⟨_, _, n', vals, hown, hls, _⟩ := mem.bl 0 _ rfl
  have hn' : n' = xs.length := ownsRow_n hown (by decide) (by rw [← hls.1, flat_len hf])
  subst hn'
  have hv := ints_of hls
  rcases hown.2 with ⟨hH, h0⟩ | ⟨blk, cap, cur, hH, _, hheap, hcap, hmax, hcs, hvals⟩
  · exact .inl ⟨hH, List.eq_nil_of_length_eq_zero h0⟩
  · refine .inr ⟨blk, cap, cur, hH, hheap, hcap, hmax, hcs, ?_, (Array.getElem?_eq_some_iff.1 hheap).1, fun i hi => absurd (mem.sb 0 _ blk i rfl (by show ownOf (H 0) = _; rw [hH]; rfl) hi) (Nat.not_lt_zero _)⟩
    rw [Nat.mul_one] at hvals
    rw [hvals, hv]
theorem sortN_B {P : Program} {ρ : Ren} (L : Go.Proofs.SlLaysM.n5 P ρ) {e : Nat} {xs : List Int} (hn : xs.length ≤ 1000000000000000000) :
    CallsB P (ρ.f 5) [.arr e 1 0 (xs.flatMap eI)] [.one (.ls 0 xs.length)] (fun y m' => y = .tup [] ∧ m' = [.arr e 1 0 ((xs.mergeSort fun x y => decide (x ≤ y)).flatMap eI)]) := by
  have hf : ∀ x : Int, (eI x).length = 1 := fun _ => rfl
  intro w S H vs hin mem hvs
  obtain ⟨hvl, hvr⟩ := hvs
  obtain ⟨v0, rfl⟩ : ∃ v0, vs = #[v0] := by
    obtain ⟨l⟩ := vs
    match l, hvl with
    | [a], _ => exact ⟨a, rfl⟩
  obtain ⟨_, _, hv0⟩ := (show GRep0 w S [.arr e 1 0 (xs.flatMap eI)] H (.ls 0 xs.length) v0 from hvr 0 _ v0 rfl rfl)
  have hv0' := (hv0 e 1 0 _ rfl).2 (flat_len hf xs).symm
  rcases rowN_of (P := P) mem with ⟨hH, rfl⟩ | ⟨blk, cap, cur, R⟩
  · rw [hv0', hH]
    refine (Go.Proofs.AnyM.slices_Sort_int_none L none 0 w).mono ?_
    rintro e' w' ⟨rfl, rfl⟩
    have hy : ([] : List Int).mergeSort (fun x y => decide (x ≤ y)) = [] := by simp
    rw [hy]
    exact ⟨_, .tup [], _, S, H, rfl, ⟨rfl, rfl⟩, ExtX.refl _ _ _, hin, mem, fun p b g hb ho => .inr ⟨p, b, hb, ho⟩, ⟨Nat.le_refl _, fun _ _ _ _ => rfl, fun p e' sz' k cs _ hm => ⟨k, cs, hm, .inl ⟨rfl, rfl⟩⟩, fun _ _ h => h⟩, avr_undef⟩
  have hH := R.h
  have hcon := Go.Proofs.AnyM.slices_Sort_int L blk 0 cap xs w R.holds R.lt (by omega)
  rw [hv0', hH]
  refine hcon.mono ?_
  rintro e' w' ⟨rfl, n2, os, rfl⟩
  generalize hys : xs.mergeSort (fun x y => decide (x ≤ y)) = ys
  have hyl : ys.length = xs.length := by rw [← hys, List.length_mergeSort]
  have hsame : (grow (putRow encN (Sort.ahead w n2) blk 0 ys.toArray) os).heap[blk]? = _ := gw_same (n := n2) (os := os) (d := ys.toArray) R.heap (by rw [List.size_toArray, hyl, R.cs]; have := R.fits; omega)
  have hkeep : ∀ b i, S b i → S b i ∧ (grow (putRow encN (Sort.ahead w n2) blk 0 ys.toArray) os).cell? ⟨b, i, none⟩ = w.cell? ⟨b, i, none⟩ := fun b i hs =>
    ⟨hs, World.cell?_of_block (w := w) (gw_other (hin.1 b i hs) fun e => R.noS i (e ▸ hs))⟩
  have hin2 : InH (grow (putRow encN (Sort.ahead w n2) blk 0 ys.toArray) os) S := hin.turn gw_size fun b i hs => (hkeep b i hs).2
  have hownX : ownX [.arr e 1 0 (xs.flatMap eI)] H blk := ⟨0, _, rfl, by show ownOf (H 0) = _; rw [hH]; rfl⟩
  refine ⟨_, .tup [], [.arr e 1 0 (ys.flatMap eI)], S, H, rfl, ⟨rfl, rfl⟩, ⟨rfl, rfl, rfl, gw_size, fun b hb hx => gw_other hb fun e => hx (e ▸ hownX), fun b i hs => hs, fun b i hs => (hkeep b i hs).2, fun b i _ _ hs => hs⟩, hin2, ⟨fun p b hb => ?_, fun p b g' hb ho => ?_, fun p q b b' g' hb hb' _ _ => ?_, fun p b g' i hb ho hs => ?_⟩, fun p b g' hb ho => ?_, ⟨Nat.le_refl _, fun _ _ _ _ => rfl, fun p e' sz' k' cs' hp hm => ?_, fun _ _ h => h⟩, avr_undef⟩
  · match p with
    | 0 =>
      obtain rfl := Option.some.inj hb
      refine ⟨by decide, Nat.zero_le _, xs.length, ys.map encN, ⟨by rw [List.length_map, hyl]; omega, .inr ⟨blk, cap, _, hH, Nat.zero_le _, hsame, R.fits, R.most, ?_, ?_⟩⟩, rep_ints ys, fun g' _ i hi => absurd hi (Nat.not_lt_zero _)⟩
      · rw [List.size_toArray, List.length_append, List.length_map, List.length_drop, Array.length_toList, Array.length_toList, List.size_toArray, hyl, R.cs]
        have := R.fits
        omega
      · rw [List.toList_toArray, Nat.mul_one, List.take_append_of_le_length (by rw [List.length_map]; simp [hyl]), ← hyl]
        have : ys.toArray.toList.map encN = ys.map encN := by simp
        rw [this, ← List.length_map (f := encN), List.take_length]
    | p + 1 => simp at hb
  · match p with
    | 0 =>
      obtain rfl := Option.some.inj hb
      have hg' : ownOf (H 0) = some g' := ho
      rw [hH] at hg'
      obtain rfl : blk = g' := by simpa [ownOf] using hg'
      exact Nat.lt_of_lt_of_le R.lt gw_size
    | p + 1 => simp at hb
  · match p, q with
    | 0, 0 => rfl
    | 0, q + 1 => simp at hb'
    | p + 1, _ => simp at hb
  · match p with
    | 0 =>
      obtain rfl := Option.some.inj hb
      have hg' : ownOf (H 0) = some g' := ho
      rw [hH] at hg'
      obtain rfl : blk = g' := by simpa [ownOf] using hg'
      exact absurd hs (R.noS i)
    | p + 1 => simp at hb
  · match p with
    | 0 =>
      obtain rfl := Option.some.inj hb
      exact .inr ⟨0, _, rfl, ho⟩
    | p + 1 => simp at hb
  · match p with
    | 0 =>
      obtain ⟨rfl, rfl, rfl, rfl⟩ : e = e' ∧ 1 = sz' ∧ 0 = k' ∧ ys.flatMap eI = cs' := by simpa using hm
      exact ⟨0, _, rfl, .inl ⟨by rw [flat_len hf, flat_len hf, hyl], rfl⟩⟩
    | p + 1 => simp at hp
def cmpU (xs : List Int) : List Int := Go.Lib.compactUpTo xs.toArray xs.toArray.size
theorem finN {e : Nat} {w w' : World} {S S' : Stab} {H : Nat → Value} {xs zs : List Int} {v : Value} (hx : ExtX (ownX [.arr e 1 0 (xs.flatMap eI)] H) w S w' S') (hin : InH w' S') (hown : w'.ownsRow 0 e 1 v zs.length (zs.map encN))
    (hv : ∀ g, ownOf v = some g → g < w'.heap.size ∧ (w.heap.size ≤ g ∨ ownX [.arr e 1 0 (xs.flatMap eI)] H g) ∧ ∀ i, ¬ S' g i) :
    ∃ v' x m' S'' H', Ending.returned v = .returned v' ∧ (x = .s (.one (.ls 1 zs.length)) ∧ m' = [.dead, .arr e 1 0 (zs.flatMap eI)]) ∧ ExtX (ownX [.arr e 1 0 (xs.flatMap eI)] H) w S w' S'' ∧ InH w' S'' ∧ Mem w' S'' m' H' ∧
      (∀ (p : Nat) (b : Blk) (g : Nat), m'[p]? = some b → b.own (H' p) = some g → w.heap.size ≤ g ∨ ownX [.arr e 1 0 (xs.flatMap eI)] H g) ∧ Kept [.arr e 1 0 (xs.flatMap eI)] H m' H' ∧ AVR (GRep w' S'' m' H') x v' := by
  have hf : ∀ x : Int, (eI x).length = 1 := fun _ => rfl
  have h01 : setH H 1 v 0 = H 0 := setH_other _ _ (by decide)
  obtain ⟨ho1, ho2⟩ := ownsRow_one hown
  refine ⟨v, _, _, S', setH H 1 v, rfl, ⟨rfl, rfl⟩, hx, hin, ⟨fun p b hb => ?_, fun p b g' hb ho => ?_, fun p q b b' g' hb hb' ho ho' => ?_, fun p b g' i hb ho hs => ?_⟩, fun p b g' hb ho => ?_, ⟨by simp, fun p g hp hh => ?_, fun p e' sz' k' cs' hp hm => ?_, fun p hp h => ?_⟩, ?_⟩
  · match p with
    | 0 => obtain rfl := Option.some.inj hb; trivial
    | 1 =>
      obtain rfl := Option.some.inj hb
      rw [setH_same]
      exact ⟨by decide, Nat.zero_le _, _, _, hown, rep_ints zs, fun g' _ i hi => absurd hi (Nat.not_lt_zero _)⟩
    | p + 2 => simp at hb
  · match p with
    | 0 => obtain rfl := Option.some.inj hb; cases ho
    | 1 => obtain rfl := Option.some.inj hb; rw [setH_same] at ho; exact (hv g' ho).1
    | p + 2 => simp at hb
  · match p, q with
    | 0, _ => obtain rfl := Option.some.inj hb; cases ho
    | _, 0 => obtain rfl := Option.some.inj hb'; cases ho'
    | 1, 1 => rfl
    | p + 2, _ => simp at hb
    | _, q + 2 => simp at hb'
  · match p with
    | 0 => obtain rfl := Option.some.inj hb; cases ho
    | 1 => obtain rfl := Option.some.inj hb; rw [setH_same] at ho; exact absurd hs ((hv g' ho).2.2 i)
    | p + 2 => simp at hb
  · match p with
    | 0 => obtain rfl := Option.some.inj hb; cases ho
    | 1 => obtain rfl := Option.some.inj hb; rw [setH_same] at ho; exact (hv g' ho).2.1
    | p + 2 => simp at hb
  · match p with
    | 0 => exact h01
    | p + 1 => simp at hp
  · match p with
    | 0 => cases hm
    | p + 1 => simp at hp
  · match p with
    | 0 => rw [h01]; exact h
    | p + 1 => simp at hp
  · refine ⟨by simp, ⟨ho1, by rw [setH_same]; exact ho2⟩, fun e' sz k cs hm => ?_⟩
    obtain ⟨rfl, rfl, rfl, rfl⟩ : e = e' ∧ 1 = sz ∧ 0 = k ∧ zs.flatMap eI = cs := by simpa using hm
    exact ⟨by rw [flat_len hf]; omega, fun _ => (setH_same _ _ _).symm⟩
theorem compN_B {P : Program} {ρ : Ren} (L : Go.Proofs.SlLaysE.n43 P ρ) {e : Nat} {xs : List Int} (hn : xs.length ≤ 1000000000000000000) (heq : Go.Proofs.EqlAt P (ρ.t 23) (Value.int .i64) (fun x y => decide (x = y))) (hne : Go.Proofs.NeqAt P (ρ.t 23) (Value.int .i64) (fun x y => decide (x = y))) (v23 : ∀ w, (zeroValue (ρ.t 23)).run P w = .ok (.int .i64 0) w)
    (hnil : CallsA P (ρ.f 43) [.one (.raw (.slice none 0 0))] (· = .s (.one (.raw (.slice none 0 0))))) :
    CallsB P (ρ.f 43) [.arr e 1 0 (xs.flatMap eI)] [.one (.ls 0 xs.length)] (fun y m' => y = .s (.one (.ls 1 (cmpU xs).length)) ∧ m' = [.dead, .arr e 1 0 ((cmpU xs).flatMap eI)]) := by
  have hf : ∀ x : Int, (eI x).length = 1 := fun _ => rfl
  intro w S H vs hin mem hvs
  obtain ⟨hvl, hvr⟩ := hvs
  obtain ⟨v0, rfl⟩ : ∃ v0, vs = #[v0] := by
    obtain ⟨l⟩ := vs
    match l, hvl with
    | [a], _ => exact ⟨a, rfl⟩
  obtain ⟨_, _, hv0⟩ := (show GRep0 w S [.arr e 1 0 (xs.flatMap eI)] H (.ls 0 xs.length) v0 from hvr 0 _ v0 rfl rfl)
  have hv0' := (hv0 e 1 0 _ rfl).2 (flat_len hf xs).symm
  rcases rowN_of (P := P) mem with ⟨hH, rfl⟩ | ⟨blk, cap, cur, R⟩
  · rw [hv0', hH]
    refine (hnil w S #[.slice none 0 0] hin ⟨rfl, fun j x u h1 h2 => ?_⟩).mono ?_
    · cases j with
      | zero => obtain rfl := Option.some.inj h1; obtain rfl := Option.some.inj h2; exact .raw _ rfl
      | succ j => simp at h1
    rintro e' w' ⟨v, x, S', rfl, rfl, ext, hin', hav⟩
    have hvn : v = .slice none 0 0 := rep_raw (GRep.of_rep (m := []) (H := H) hav)
    subst hvn
    have hx : ExtX (ownX [.arr e 1 0 (([] : List Int).flatMap eI)] H) w S w' S' := ⟨ext.os, ext.tape, ext.output, ext.size, fun b hb _ => ext.blk b hb, ext.sub, fun b i hs => (ext.keeps hin b i hs).2, fun b i hb _ hs => ext.back b i hb hs⟩
    exact finN (zs := []) hx hin' ⟨rfl, .inl ⟨rfl, rfl⟩⟩ (fun g hg => by cases hg)
  have hH := R.h
  have hO : Go.Proofs.OneCell (Value.int .i64) := fun _ => rfl
  have hcon := Go.Proofs.AnyE.slices_Compact L (Value.int .i64) hO heq hne 0 v23 blk 0 cap xs.toArray w R.holds (by rw [List.size_toArray]; omega) (by rw [List.size_toArray]; exact R.fits)
  rw [hv0', hH]
  rw [List.size_toArray] at hcon
  refine hcon.mono ?_
  rintro e' w' ⟨rfl, n2, rfl⟩
  have hcz : Go.Lib.compactUpTo xs.toArray xs.length = cmpU xs := by unfold cmpU; rw [List.size_toArray]
  rw [hcz]
  have hzl : (cmpU xs).length ≤ xs.length := by
    unfold cmpU Go.Lib.compactUpTo
    rw [List.length_map]
    refine Nat.le_trans (List.length_filter_le _ _) ?_
    rw [List.length_range, List.size_toArray]
    exact Nat.le_refl _
  generalize cmpU xs = zs at hzl
  generalize hds : (zs ++ List.replicate (xs.length - zs.length) (0 : Int)).toArray = ds
  have hdsz : ds.size = xs.length := by rw [← hds, List.size_toArray, List.length_append, List.length_replicate]; omega
  have hdt : ds.toList.take zs.length = zs := by rw [← hds, List.toList_toArray, List.take_left']; rfl
  have hw : putRow (Value.int .i64) (Sort.ahead w n2) blk 0 ds = grow (putRow encN (Sort.ahead w n2) blk 0 ds) #[] := (grow_empty _).symm
  rw [hw]
  have hsame : (grow (putRow encN (Sort.ahead w n2) blk 0 ds) #[]).heap[blk]? = _ := gw_same (n := n2) (os := #[]) (d := ds) R.heap (by rw [hdsz, R.cs]; have := R.fits; omega)
  have hkeep : ∀ b i, S b i → S b i ∧ (grow (putRow encN (Sort.ahead w n2) blk 0 ds) #[]).cell? ⟨b, i, none⟩ = w.cell? ⟨b, i, none⟩ := fun b i hs =>
    ⟨hs, World.cell?_of_block (w := w) (gw_other (hin.1 b i hs) fun e => R.noS i (e ▸ hs))⟩
  have hin2 : InH (grow (putRow encN (Sort.ahead w n2) blk 0 ds) #[]) S := hin.turn gw_size fun b i hs => (hkeep b i hs).2
  have hownX : ownX [.arr e 1 0 (xs.flatMap eI)] H blk := ⟨0, _, rfl, by show ownOf (H 0) = _; rw [hH]; rfl⟩
  refine finN ⟨rfl, rfl, rfl, gw_size, fun b hb hx => gw_other hb fun e => hx (e ▸ hownX), fun b i hs => hs, fun b i hs => (hkeep b i hs).2, fun b i _ _ hs => hs⟩ hin2 ⟨by rw [List.length_map, Nat.mul_one], .inr ⟨blk, cap, _, rfl, Nat.zero_le _, hsame, by have := R.fits; omega, R.most, ?_, ?_⟩⟩ (fun g hg => ?_)
  · rw [List.size_toArray, List.length_append, List.length_map, List.length_drop, Array.length_toList, Array.length_toList, hdsz, R.cs]
    have := R.fits
    omega
  · rw [List.toList_toArray, Nat.mul_one, List.take_append_of_le_length (by simpa [hdsz] using hzl), ← List.map_take]
    exact congrArg (List.map encN) hdt
  · obtain rfl : blk = g := by simpa [ownOf] using hg
    exact ⟨Nat.lt_of_lt_of_le R.lt gw_size, .inr hownX, R.noS⟩
end Go.Proofs.Ytbmciegldpeaiaa.Abs

/-
  Loops over rows, as most are.
-/
namespace Go.Proofs.Ytbmciegldpeaiaa.Abs
theorem nn {b : Bool} (h : b = false) : ¬ b = true := fun h' => by rw [h] at h'; cases h'
theorem find_none {α : Type} {xs : List α} {p : α → Bool} (h : ∀ x ∈ xs, p x = false) : xs.find? p = none := List.find?_eq_none.2 fun x hx => by rw [h x hx]; decide
theorem scanR {α ρ : Type} (xs : List α) (p : α → Bool) (g : α → ρ) (f : Int → Option (LR Int Unit ρ)) (hl : xs.length ≤ 1000000000000000000)
    (h : ∀ (i : Nat) x, xs[i]? = some x → f (i : Int) = some (if p x then .ret (g x) else .cont ((i + 1 : Nat) : Int))) (hend : f (xs.length : Int) = some (.brk ())) :
    iter f fuel 0 = some (match xs.find? p with | some x => .inl (g x) | none => .inr ()) := by
  obtain ⟨v, hv, hr⟩ := iter_inv (f := f) (P := fun s => ∃ i : Nat, i ≤ xs.length ∧ s = (i : Int) ∧ xs.find? p = (xs.drop i).find? p) (μ := fun s => xs.length - s.toNat)
    (R := fun r => r = (match xs.find? p with | some x => Sum.inl (g x) | none => Sum.inr ())) (by
      rintro _ ⟨i, hi, rfl, hp⟩
      rcases Nat.lt_or_ge i xs.length with hlt | hge
      · have hx := List.getElem?_eq_getElem hlt
        have hf := h i _ hx
        have hd : xs.drop i = xs[i] :: xs.drop (i + 1) := List.drop_eq_getElem_cons hlt
        cases hpx : p xs[i] with
        | true =>
          rw [hpx, if_pos rfl] at hf
          refine .inr (.inr ⟨_, hf, ?_⟩)
          rw [hp, hd, List.find?_cons, hpx]
        | false =>
          rw [hpx, if_neg (by decide)] at hf
          refine .inl ⟨_, hf, ⟨i + 1, hlt, rfl, ?_⟩, by simp only [Int.toNat_natCast]; omega⟩
          rw [hp, hd, List.find?_cons, hpx]
      · have e : i = xs.length := by omega
        subst e
        refine .inr (.inl ⟨(), hend, ?_⟩)
        rw [hp, List.drop_length]; rfl) fuel 0 ⟨0, Nat.zero_le _, rfl, rfl⟩ (lt_fuel (by show xs.length - 0 ≤ _; omega))
  rw [hv, hr]
theorem allR {α ρ : Type} (xs : List α) (p : α → Bool) (no : ρ) (f : Int → Option (LR Int Unit ρ)) (hl : xs.length ≤ 1000000000000000000)
    (h : ∀ (i : Nat) x, xs[i]? = some x → f (i : Int) = some (if p x then .cont ((i + 1 : Nat) : Int) else .ret no)) (hend : f (xs.length : Int) = some (.brk ())) :
    iter f fuel 0 = some (if xs.all p then .inr () else .inl no) := by
  rw [scanR xs (fun x => !p x) (fun _ => no) f hl (fun i x hx => by
    rw [h i x hx]
    cases p x <;> rfl) hend]
  cases ha : xs.all p with
  | true =>
    rw [find_none fun x hx => by rw [List.all_eq_true.1 ha x hx]; rfl]; rfl
  | false =>
    obtain ⟨x, hx, hp⟩ := List.all_eq_false.1 ha
    cases hf : xs.find? (fun x => !p x) with
    | none => exact absurd (List.find?_eq_none.1 hf x hx) (by simpa using hp)
    | some y => rfl
theorem collB {α β : Type} (xs : List α) (g : α → List β) (f : Int × List β → Option (LB (Int × List β) (List β))) (k : Nat) (hg : ∀ x, (g x).length ≤ k) (hl : xs.length ≤ 1000000000000000000)
    (h : ∀ (i : Nat) x acc, xs[i]? = some x → acc.length ≤ i * k → f ((i : Int), acc) = some (.cont (((i + 1 : Nat) : Int), acc ++ g x))) (hend : ∀ acc, f ((xs.length : Int), acc) = some (.brk acc)) :
    iterB f fuel (0, []) = some (xs.flatMap g) := by
  obtain ⟨v, hv, hr⟩ := iterB_inv (f := f) (P := fun s => ∃ i : Nat, i ≤ xs.length ∧ s = ((i : Int), (xs.take i).flatMap g)) (μ := fun s => xs.length - s.1.toNat) (R := fun v => v = xs.flatMap g) (by
    rintro _ ⟨i, hi, rfl⟩
    rcases Nat.lt_or_ge i xs.length with hlt | hge
    · left
      have hlen : ((xs.take i).flatMap g).length ≤ i * k := by
        have key : ∀ l : List α, (l.flatMap g).length ≤ l.length * k := fun l => by
          induction l with
          | nil => simp
          | cons a l ih =>
            rw [List.flatMap_cons, List.length_append, List.length_cons, Nat.succ_mul]
            have := hg a
            omega
        have := key (xs.take i)
        rwa [List.length_take, Nat.min_eq_left hi] at this
      refine ⟨_, h i _ _ (List.getElem?_eq_getElem hlt) hlen, ⟨i + 1, hlt, ?_⟩, by simp only [Int.toNat_natCast]; omega⟩
      rw [List.take_succ_eq_append_getElem hlt, List.flatMap_append]; simp
    · right
      have e : i = xs.length := by omega
      subst e
      exact ⟨_, hend _, by rw [List.take_length]⟩) fuel (0, []) ⟨0, Nat.zero_le _, by simp⟩ (lt_fuel (by show xs.length - 0 ≤ _; omega))
  rw [hv, hr]
theorem flat_opt {α β : Type} (xs : List α) (p : α → Bool) (g : α → β) : xs.flatMap (fun x => if p x then [g x] else []) = (xs.filter p).map g := by
  induction xs with
  | nil => rfl
  | cons x xs ih =>
    rw [List.flatMap_cons, ih, List.filter_cons]
    cases p x <;> rfl
theorem flat_one {α β : Type} (xs : List α) (g : α → β) : xs.flatMap (fun x => [g x]) = xs.map g := by
  induction xs with
  | nil => rfl
  | cons x xs ih => rw [List.flatMap_cons, ih]; rfl
def RiseI (l : List Int) : Prop := l.Pairwise (· < ·)
theorem riseI_ext {a b : List Int} (ha : RiseI a) (hb : RiseI b) (h : ∀ x, x ∈ a ↔ x ∈ b) : a = b := by
  have hna : a.Nodup := ha.imp fun h e => by rw [e] at h; exact Int.lt_irrefl _ h
  have hnb : b.Nodup := hb.imp fun h e => by rw [e] at h; exact Int.lt_irrefl _ h
  exact List.Perm.eq_of_pairwise (le := fun a b : Int => a < b) (fun a b _ _ h1 h2 => by omega) ha hb ((List.perm_ext_iff_of_nodup hna hnb).2 h)
theorem cmpU_spec {xs : List Int} (hs : xs.Pairwise (· ≤ ·)) : RiseI (cmpU xs) ∧ ∀ x, x ∈ cmpU xs ↔ x ∈ xs := by
  have key : ∀ m, m ≤ xs.length → RiseI (Go.Lib.compactUpTo xs.toArray m) ∧ (∀ x, x ∈ Go.Lib.compactUpTo xs.toArray m ↔ x ∈ xs.take m) := fun m => by
    induction m with
    | zero => intro _; exact ⟨by simp [Go.Lib.compactUpTo, RiseI], fun x => by simp [Go.Lib.compactUpTo]⟩
    | succ m ih =>
      intro hm
      obtain ⟨h1, h2⟩ := ih (by omega)
      have hlt : m < xs.length := by omega
      have hU : Go.Lib.compactUpTo xs.toArray (m + 1) = Go.Lib.compactUpTo xs.toArray m ++ (if Go.Lib.keeps xs.toArray m then [xs[m]] else []) := by
        unfold Go.Lib.compactUpTo
        rw [List.range_succ, List.filter_append, List.map_append]
        congr 1
        rw [List.filter_cons]
        cases Go.Lib.keeps xs.toArray m with
        | true =>
          rw [if_pos rfl, if_pos rfl]
          simp [List.getElem?_eq_getElem hlt]
        | false => rfl
      rw [hU, List.take_succ_eq_append_getElem hlt]
      have hle : ∀ x ∈ xs.take m, x ≤ xs[m] := fun x hx => by
        obtain ⟨j, hj, rfl⟩ := List.getElem_of_mem hx
        rw [List.getElem_take]
        have hjm : j < m := by rw [List.length_take] at hj; omega
        exact (List.pairwise_iff_getElem.1 hs) j m (by omega) hlt hjm
      by_cases h0 : m = 0
      · subst h0
        have hk : Go.Lib.keeps xs.toArray 0 = true := by unfold Go.Lib.keeps; simp
        rw [hk, if_pos rfl]
        refine ⟨?_, fun x => by simp [Go.Lib.compactUpTo]⟩
        simp [Go.Lib.compactUpTo, RiseI]
      have hm1 : m - 1 < xs.length := by omega
      have hkk : Go.Lib.keeps xs.toArray m = decide (xs[m] ≠ xs[m - 1]) := by
        unfold Go.Lib.keeps
        rw [getElem!_pos xs.toArray m (by simpa using hlt), getElem!_pos xs.toArray (m - 1) (by simpa using hm1)]
        simp [h0]
      rw [hkk]
      have hlast : xs[m - 1] ∈ xs.take m := List.mem_iff_getElem.2 ⟨m - 1, by rw [List.length_take]; omega, by rw [List.getElem_take]⟩
      by_cases he : xs[m] = xs[m - 1]
      · rw [if_neg (by simp [he]), List.append_nil]
        refine ⟨h1, fun x => ?_⟩
        rw [h2, List.mem_append, List.mem_singleton]
        constructor
        · exact .inl
        · rintro (h | rfl)
          · exact h
          · rw [he]; exact hlast
      · rw [if_pos (by simp [he])]
        have hll : xs[m - 1] ≤ xs[m] := hle _ hlast
        have hlt2 : ∀ x ∈ xs.take m, x < xs[m] := fun x hx => by
          obtain ⟨j, hj, rfl⟩ := List.getElem_of_mem hx
          rw [List.getElem_take]
          have hjm : j < m := by rw [List.length_take] at hj; omega
          have : xs[j] ≤ xs[m - 1] := by
            rcases Nat.lt_or_ge j (m - 1) with h | h
            · exact (List.pairwise_iff_getElem.1 hs) j (m - 1) (by omega) hm1 h
            · have : j = m - 1 := by omega
              subst this; exact Int.le_refl _
          omega
        refine ⟨List.pairwise_append.2 ⟨h1, List.pairwise_singleton _ _, fun a ha b hb => ?_⟩, fun x => ?_⟩
        · rw [List.mem_singleton.1 hb]; exact hlt2 a ((h2 a).1 ha)
        · rw [List.mem_append, List.mem_append, h2]
  have := key xs.length (Nat.le_refl _)
  unfold cmpU
  rw [List.size_toArray]
  rw [List.take_length] at this
  exact this
def riseV (l : List Int) : List Int := cmpU (l.mergeSort fun x y => decide (x ≤ y))
theorem sort_le (l : List Int) : (l.mergeSort fun x y => decide (x ≤ y)).Pairwise (· ≤ ·) := by
  have := List.pairwise_mergeSort (le := fun x y : Int => decide (x ≤ y)) (fun a b c h1 h2 => by rw [decide_eq_true_eq] at *; omega) (fun a b => by simp; omega) l
  exact this.imp fun h => of_decide_eq_true h
theorem riseV_rise (l : List Int) : RiseI (riseV l) := (cmpU_spec (sort_le l)).1
theorem riseV_mem {l : List Int} {x : Int} : x ∈ riseV l ↔ x ∈ l := ((cmpU_spec (sort_le l)).2 x).trans (List.mem_mergeSort ..)
theorem riseV_len (l : List Int) : (riseV l).length ≤ l.length := by
  unfold riseV cmpU Go.Lib.compactUpTo
  rw [List.length_map]
  refine Nat.le_trans (List.length_filter_le _ _) ?_
  rw [List.length_range, List.size_toArray, List.length_mergeSort]
  exact Nat.le_refl _
end Go.Proofs.Ytbmciegldpeaiaa.Abs

/-
  Own channels with a buffer, in one goroutine.
-/
namespace Go.Proofs.Ytbmciegldpeaiaa.Abs
open Go.RowKit Go.MapKept Go.Conc
open Go.ChangeMaps (setBlock)
section
variable {P : Program} {c : Ctx} {ops : Array Oper} {Q : Exit → AS → Prop} {rest : List Oper} {ty : TypeId} {pos : String} {af : Array Edge} {d : Tmp} {t : Nat → AV} {m : List Blk} {α : Type} {e : α → List Lf}
end
end Go.Proofs.Ytbmciegldpeaiaa.Abs

/-
  The frame, where each slice that came is no longer than may be.
-/
namespace Go.Proofs.Ytbmciegldpeaiaa.Abs
open Go.RowKit
def arrF (P : Program) (n : Nat) (e : TypeId) : List Field := (List.range n).map fun i => { name := "", type := e, offset := i * P.cellsOf e, embedded := false, tag := "", pkgPath := "", byteOffset := 0 }
def okZ (P : Program) : Sh → TypeId ⊕ (List Field × Nat) → Bool
  | .int k, .inl t => match P.underlying t with | some (.int k') => k' == k | _ => false
  | .bool, .inl t => match P.underlying t with | some .bool => true | _ => false
  | .str, .inl t => match P.underlying t with | some .string => true | _ => false
  | .sl e, .inl t => match P.underlying t with | some (.slice t') => okZ P e (.inl t') && (P.cellsOf t' == e.cells && decide (0 < e.cells)) | _ => false
  | .st r, .inl t => match P.underlying t with
    | some (.struct fs) => okZ P r (.inr (fs.toList, 0)) && P.cellsOf t == r.cells
    | some (.array n e) => okZ P r (.inr (arrF P n e, 0)) && P.cellsOf t == r.cells
    | _ => false
  | .unit, .inr ([], _) => true
  | .pair a r, .inr (f :: fs, off) => f.offset == off && (P.cellsOf f.type == a.cells && (okZ P a (.inl f.type) && okZ P r (.inr (fs, off + a.cells))))
  | _, _ => false
def okParamsZ (P : Program) : List Sh → List TypeId → Bool
  | [], [] => true
  | sh :: shs, t :: ts => okZ P sh (.inl t) && (P.readableRec t && (decide (t < P.types.size) && okParamsZ P shs ts))
  | _, _ => false
def Fz (P : Program) : Sh → TypeId ⊕ List Field → List Lf → Prop
  | .int k, _, ls => Fits (.int k) ls
  | .bool, _, ls => Fits .bool ls
  | .str, _, ls => Fits .str ls
  | .sl e, .inl t, ls => ∃ (t' : TypeId) (rows : List (List Lf)), P.underlying t = some (.slice t') ∧ rows.length ≤ maxLen ∧ rows.length * P.bytesOf t' ≤ reachBytes ∧ (∀ r ∈ rows, Fz P e (.inl t') r) ∧ ls = [.sl rows.length rows.flatten]
  | .st r, .inl t, ls => (∃ fs, P.underlying t = some (.struct fs) ∧ Fz P r (.inr fs.toList) ls) ∨ ∃ n e, P.underlying t = some (.array n e) ∧ Fz P r (.inr (arrF P n e)) ls
  | .unit, _, ls => ls = []
  | .pair a r, .inr (f :: fs), ls => ∃ x y, Fz P a (.inl f.type) x ∧ Fz P r (.inr fs) y ∧ ls = x ++ y
  | _, _, _ => False
theorem fz_fits {P : Program} : ∀ {sh : Sh} {m : TypeId ⊕ List Field} {ls : List Lf}, Fz P sh m ls → Fits sh ls := by
  intro sh
  induction sh with
  | int k => intro m ls h; exact h
  | bool => intro m ls h; exact h
  | str => intro m ls h; exact h
  | sl e ih =>
    intro m ls h
    cases m with
    | inr _ => exact h.elim
    | inl t =>
      obtain ⟨t', rows, _, h1, _, h2, rfl⟩ := h
      exact ⟨rows, h1, fun r hr => ih (h2 r hr), rfl⟩
  | st r ih =>
    intro m ls h
    cases m with
    | inr _ => exact h.elim
    | inl t =>
      rcases h with ⟨fs, _, h⟩ | ⟨n, e, _, h⟩ <;> exact ih h
  | unit => intro m ls h; exact h
  | pair a r iha ihr =>
    intro m ls h
    cases m with
    | inl t => exact h.elim
    | inr fs =>
      cases fs with
      | nil => exact h.elim
      | cons f fs =>
        obtain ⟨x, y, h1, h2, rfl⟩ := h
        exact ⟨x, y, iha h1, ihr h2, rfl⟩
section
variable {H : Type} {enc : TypeId × Value → H} {P : Program} {w : World} {spare : Nat → Bool} {held : Bool} {base : Nat}
theorem weights_mem_all {e : TypeId} : ∀ {l : List (DataW H)} {d : DataW H}, d ∈ l → ∀ n ∈ d.weights P e, n ∈ DataW.weightsAll P e l
  | x :: l, d, h, n, hn => by
    simp only [DataW.weightsAll, List.mem_append]
    rcases List.mem_cons.1 h with rfl | h
    · exact .inl hn
    · exact .inr (weights_mem_all h n hn)
theorem openedz (sh : Sh) :
    (∀ (t : TypeId) (fuel : Nat) (cs : List Value) (x : DataW H × List MemPlace), okZ P sh (.inl t) = true → DataW.trod enc P w base spare held fuel t cs = some x → (∀ n ∈ x.1.weights P t, n ≤ reachBytes) →
      ∃ ls, Fz P sh (.inl t) ls ∧ ls.length = sh.cells ∧ LsR (Rep w (allS w)) ls cs) ∧
    (∀ (fs : List Field) (off fuel : Nat) (cs : List Value), okZ P sh (.inr (fs, off)) = true → off + sh.cells = cs.length →
      (∀ f ∈ fs, ∃ x, DataW.trod enc P w base spare held fuel f.type ((cs.drop f.offset).take (P.cellsOf f.type)) = some x ∧ ∀ n ∈ x.1.weights P f.type, n ≤ reachBytes) →
      ∃ ls, Fz P sh (.inr fs) ls ∧ ls.length = sh.cells ∧ LsR (Rep w (allS w)) ls (cs.drop off)) := by
  have lsone : ∀ {l : Lf} {v : Value}, Rep w (allS w) l v → LsR (Rep w (allS w)) [l] [v] := fun {l v} h => ⟨rfl, fun j a b h1 h2 => by
    cases j with
    | zero => simp at h1 h2; subst h1; subst h2; exact h
    | succ j => simp at h1⟩
  induction sh with
  | int k =>
    refine ⟨fun t fuel cs x ht h hz => ?_, fun fs off fuel cs ht => by simp [okZ] at ht⟩
    simp only [okZ] at ht
    split at ht
    · rename_i k' hu
      have hk : k' = k := by simpa using ht
      subst hk
      obtain ⟨n, hcs, hx, hw⟩ := DataW.trod_int hu h
      subst hcs
      exact ⟨_, ⟨n, hw, rfl⟩, rfl, lsone (.i _ _)⟩
    · cases ht
  | bool =>
    refine ⟨fun t fuel cs x ht h hz => ?_, fun fs off fuel cs ht => by simp [okZ] at ht⟩
    simp only [okZ] at ht
    split at ht
    · rename_i hu
      obtain ⟨b, hcs, _⟩ := DataW.trod_bool hu h
      subst hcs
      exact ⟨_, ⟨b, rfl⟩, rfl, lsone (.b _)⟩
    · cases ht
  | str =>
    refine ⟨fun t fuel cs x ht h hz => ?_, fun fs off fuel cs ht => by simp [okZ] at ht⟩
    simp only [okZ] at ht
    split at ht
    · rename_i hu
      obtain ⟨b, hcs, _, hs⟩ := DataW.trod_string hu h
      subst hcs
      exact ⟨_, ⟨b, hs, rfl⟩, rfl, lsone (.s _)⟩
    · cases ht
  | sl e ih =>
    refine ⟨fun t fuel cs x ht h hz => ?_, fun fs off fuel cs ht => by simp [okZ] at ht⟩
    simp only [okZ] at ht
    split at ht
    · rename_i t' hu
      simp only [Bool.and_eq_true, beq_iff_eq, decide_eq_true_eq] at ht
      obtain ⟨hok, hcell, hpos⟩ := ht
      rcases DataW.trod_slice hu h with ⟨hcs, _⟩ | ⟨a, len, cap, elems, rest, fuel, rfl, hcs, hxe, _, hlc, hcm, hl, hi, _⟩
      · subst hcs
        exact ⟨[.sl 0 []], ⟨t', [], hu, by simp, by simp, fun r hr => by simp at hr, rfl⟩, rfl, lsone (.sl0 _ _)⟩
      · subst hcs
        by_cases h0 : len = 0
        · subst h0
          exact ⟨[.sl 0 []], ⟨t', [], hu, by simp, by simp, fun r hr => by simp at hr, rfl⟩, rfl, lsone (.sl0 _ _)⟩
        · have helem : ∀ i, i < len → ∃ ys, w.cells? base (a.add (i * P.cellsOf t')) (P.cellsOf t') = some ys ∧ ∃ x, DataW.trod enc P w base spare held fuel t' ys = some x ∧ ∀ n ∈ x.1.weights P t', n ≤ reachBytes := by
            intro i hlt
            have hx := hi i hlt
            have : elems[i]? = some (elems[i]'(by omega)) := List.getElem?_eq_getElem _
            rw [this] at hx
            cases hc : w.cells? base (a.add (i * P.cellsOf t')) (P.cellsOf t') with
            | none => rw [hc] at hx; simp at hx
            | some ys =>
              rw [hc] at hx
              refine ⟨ys, rfl, _, hx, fun m hm => hz m ?_⟩
              rw [hxe]
              simp only [DataW.weights, hu]
              exact List.mem_cons_of_mem _ (List.mem_append_left _ (weights_mem_all (List.mem_map.2 ⟨_, List.getElem_mem _, rfl⟩) m hm))
          have hspot : a.spot = none := by
            obtain ⟨ys, hc, _⟩ := helem 0 (by omega)
            obtain ⟨hyl, hyc⟩ := cells_get hc
            have hy := hyc 0 (by omega)
            rw [List.getElem?_eq_getElem (by omega)] at hy
            have := (cell_lt hy).2
            simpa [Addr.add] using this
          have hadd : ∀ n m, (a.add n).add m = ⟨a.block, a.off + (n + m), none⟩ := by
            intro n m
            obtain ⟨ab, ao, asp⟩ := a
            simp only at hspot
            subst hspot
            unfold Addr.add
            by_cases hn : n = 0 <;> by_cases hm : m = 0 <;> simp [hn, hm] <;> omega
          obtain ⟨rows, r1, r2, r3, r4⟩ := rows_built (w := w) (bk := a.block) (off := a.off) (sz := e.cells) (Q := Fz P e (.inl t')) len (fun i hlt => by
            obtain ⟨ys, hc, x, hx, hw⟩ := helem i hlt
            obtain ⟨ls, f1, f2, f3⟩ := ih.1 t' fuel ys x hok hx hw
            obtain ⟨hyl, hyc⟩ := cells_get hc
            refine ⟨ls, f1, f2, fun j l hj => ?_⟩
            obtain ⟨v, hv, hr⟩ := f3.get hj
            have hjl : j < ys.length := (List.getElem?_eq_some_iff.1 hv).1
            have := hyc j (by omega)
            rw [hadd, hv, hcell] at this
            exact ⟨v, this, hr⟩)
          have hb : rows.length * P.bytesOf t' ≤ reachBytes := by
            have := hz ((elems.length + rest.length) * P.bytesOf t') (by rw [hxe]; simp [DataW.weights, hu])
            rw [r1, ← hl]
            exact Nat.le_trans (Nat.mul_le_mul_right _ (Nat.le_add_right _ _)) this
          refine ⟨[.sl rows.length rows.flatten], ⟨t', rows, hu, by omega, hb, r2, rfl⟩, rfl, lsone ?_⟩
          have ea : a = ⟨a.block, a.off, none⟩ := by
            obtain ⟨ab, ao, asp⟩ := a
            simp only at hspot
            subst hspot
            rfl
          rw [ea, r1]
          refine Rep.sl len rows.flatten a.block a.off cap (fun j => (w.cell? ⟨a.block, a.off + j, none⟩).getD undef) hlc hcm (fun j l hj => ?_) (fun j l hj => ?_)
          · obtain ⟨v, hv, _⟩ := r4 j l hj
            exact ⟨(cell_lt hv).1, by rw [hv]; rfl⟩
          · obtain ⟨v, hv, hr⟩ := r4 j l hj
            show Rep w (allS w) l ((w.cell? ⟨a.block, a.off + j, none⟩).getD undef)
            rw [hv]; exact hr
    · cases ht
  | st r ih =>
    refine ⟨fun t fuel cs x ht h hz => ?_, fun fs off fuel cs ht => by simp [okZ] at ht⟩
    simp only [okZ] at ht
    split at ht
    · rename_i fs hu
      simp only [Bool.and_eq_true, beq_iff_eq] at ht
      obtain ⟨xs, n, rfl, hxe, hlen, hxl, hi⟩ := DataW.trod_struct hu h
      obtain ⟨ls, f1, f2, f3⟩ := ih.2 fs.toList 0 n cs ht.1 (by omega) (fun f hf => by
        obtain ⟨i, hlt, rfl⟩ := List.mem_iff_getElem.1 hf
        have := hi i fs[i] (by simp)
        simp only [Array.getElem_toList] at this ⊢
        rw [this]
        refine ⟨xs[i]'(by simp at hlt; omega), List.getElem?_eq_getElem _, fun m hm => hz m ?_⟩
        rw [hxe]
        simp only [DataW.weights, hu]
        have hlt' : i < fs.size := by simpa using hlt
        exact DataW.weights_mem_each (j := i) (t := fs[i].type) (d := (xs[i]'(by omega)).1) (by rw [List.getElem?_map, List.getElem?_eq_getElem hlt]; simp) (by rw [List.getElem?_map, List.getElem?_eq_getElem (by omega)]; rfl) m hm)
      exact ⟨ls, .inl ⟨fs, hu, f1⟩, f2, by simpa using f3⟩
    · rename_i n e hu
      simp only [Bool.and_eq_true, beq_iff_eq] at ht
      obtain ⟨xs, m, rfl, hxe, hlen, hxl, hi⟩ := DataW.trod_array hu h
      obtain ⟨ls, f1, f2, f3⟩ := ih.2 (arrF P n e) 0 m cs ht.1 (by omega) (fun f hf => by
        obtain ⟨i, hlt, rfl⟩ := List.mem_map.1 hf
        have hlt := List.mem_range.1 hlt
        have := hi i hlt
        refine ⟨xs[i]'(by omega), by rw [this]; exact List.getElem?_eq_getElem _, fun k hk => hz k ?_⟩
        rw [hxe]
        simp only [DataW.weights, hu]
        exact weights_mem_all (List.mem_map.2 ⟨xs[i]'(by omega), List.getElem_mem _, rfl⟩) k hk)
      exact ⟨ls, .inr ⟨n, e, hu, f1⟩, f2, by simpa using f3⟩
    · cases ht
  | unit =>
    refine ⟨fun t fuel cs x ht => by simp [okZ] at ht, fun fs off fuel cs ht hl h => ?_⟩
    refine ⟨[], rfl, rfl, ?_⟩
    rw [List.drop_of_length_le (by simp only [Sh.cells] at hl; omega)]
    exact ⟨rfl, fun j l v h1 => by simp at h1⟩
  | pair a r iha ihr =>
    refine ⟨fun t fuel cs x ht => by simp [okZ] at ht, fun fs off fuel cs ht hl h => ?_⟩
    cases fs with
    | nil => simp [okZ] at ht
    | cons f fs =>
      simp only [okZ, Bool.and_eq_true, beq_iff_eq] at ht
      obtain ⟨h1, h2, h3, h4⟩ := ht
      simp only [Sh.cells] at hl
      obtain ⟨x, hx, hz⟩ := h f (List.mem_cons_self ..)
      obtain ⟨l1, a1, a2, a3⟩ := iha.1 f.type fuel _ x h3 hx hz
      obtain ⟨l2, b1, b2, b3⟩ := ihr.2 fs (off + a.cells) fuel cs h4 (by omega) (fun g hg => h g (List.mem_cons_of_mem _ hg))
      rw [h1, h2] at a3
      refine ⟨l1 ++ l2, ⟨l1, l2, a1, b1, rfl⟩, by simp [Sh.cells, a2, b2], ?_⟩
      refine ⟨by rw [List.length_append, a2, b2, List.length_drop]; omega, fun j l v hj hv => ?_⟩
      by_cases hlt : j < l1.length
      · rw [List.getElem?_append_left hlt] at hj
        refine a3.2 j l v hj ?_
        rw [List.getElem?_take, if_pos (by omega)]
        exact hv
      · rw [List.getElem?_append_right (by omega)] at hj
        refine b3.2 (j - l1.length) l v hj ?_
        rw [← hv, List.getElem?_drop, List.getElem?_drop, a2]
        congr 1
        omega
theorem opened_argz {sh : Sh} {t : TypeId} {v : Value} {d : DataW H} {ps : List MemPlace} {r : Reach} {b0 : Nat} (ht : okZ P sh (.inl t) = true) (hval : Value.okWide P w r b0 t v) (h : DataW.Trod enc P w base spare held t v d ps) (hz : ∀ n ∈ d.weights P t, n ≤ reachBytes) :
    ∃ ls, Fz P sh (.inl t) ls ∧ SVR (Rep w (allS w)) (svOf sh ls) v := by
  obtain ⟨fuel, h⟩ := h
  obtain ⟨ls, f1, f2, f3⟩ := (openedz sh).1 t fuel _ _ ht h hz
  refine ⟨ls, f1, ?_⟩
  have one : ∀ {l : Lf}, ls = [l] → (∀ cs, v ≠ .agg cs) → SVR (Rep w (allS w)) (.one l) v := by
    intro l hl hne
    subst hl
    have hc : v.cells = #[v] := by
      cases v <;> first | rfl | exact absurd rfl (hne _)
    rw [hc] at f3
    exact f3.2 0 l v rfl rfl
  cases sh with
  | int k =>
    simp only [okZ] at ht
    split at ht
    · rename_i k' hu
      obtain ⟨n, rfl⟩ := WideShapes.okWide_int hu hval
      obtain ⟨m, _, rfl⟩ := f1
      exact one rfl (fun _ h => by cases h)
    · cases ht
  | bool =>
    simp only [okZ] at ht
    split at ht
    · rename_i hu
      obtain ⟨n, rfl⟩ := WideShapes.okWide_bool hu hval
      obtain ⟨m, rfl⟩ := f1
      exact one rfl (fun _ h => by cases h)
    · cases ht
  | str =>
    simp only [okZ] at ht
    split at ht
    · rename_i hu
      obtain ⟨n, rfl⟩ := WideShapes.okWide_string hu hval
      obtain ⟨m, _, rfl⟩ := f1
      exact one rfl (fun _ h => by cases h)
    · cases ht
  | sl e =>
    simp only [okZ] at ht
    split at ht
    · rename_i t' hu
      obtain ⟨a, n, c, rfl⟩ := WideShapes.okWide_slice hu hval
      obtain ⟨_, rows, _, _, _, _, rfl⟩ := f1
      exact one rfl (fun _ h => by cases h)
    · cases ht
  | st r =>
    simp only [okZ] at ht
    split at ht
    · rename_i fs hu
      obtain ⟨cs, rfl, _⟩ := WideShapes.okWide_struct hu hval
      exact ⟨cs, rfl, f3⟩
    · rename_i n e hu
      obtain ⟨cs, rfl, _⟩ : ∃ cs, v = .agg cs ∧ cs.size = P.cellsOf t := by
        simp only [Value.okWide, hu] at hval
        obtain ⟨cs, h1, h2, _⟩ := hval
        exact ⟨cs, h1, h2⟩
      exact ⟨cs, rfl, f3⟩
    · cases ht
  | unit => simp [okZ] at ht
  | pair a r => simp [okZ] at ht
end
def FzAll (P : Program) : List Sh → List TypeId → List SV → Prop
  | [], [], [] => True
  | sh :: shs, t :: ts, x :: xs => (∃ ls, Fz P sh (.inl t) ls ∧ x = svOf sh ls) ∧ FzAll P shs ts xs
  | _, _, _ => False
section
variable {H : Type} {enc : TypeId × Value → H} {P : Program} {W W' : World}
theorem open_allz : ∀ {shs : List Sh} {ts us : List TypeId} {vs : List Value} {ds gs : List (DataW H)} {ps : List MemPlace} {base : Nat}, okParamsZ P shs ts = true → DataW.TrodAll enc P W 0 (fun _ => true) true ts vs ds ps →
    (∀ (j : Nat) t v, ts[j]? = some t → vs[j]? = some v → Value.okWide P W .any base t v) → (∀ n ∈ DataW.weightsEach P (ts ++ us) (ds ++ gs), n ≤ reachBytes) → ∃ xs, FzAll P shs ts xs ∧ SvsR (Rep W (allS W)) xs vs
  | [], [], _, [], [], _, _, _, _, _, _, _ => ⟨[], trivial, rfl, fun j x v h => by simp at h⟩
  | [], _ :: _, _, _, _, _, _, _, h, _, _, _ => by simp [okParamsZ] at h
  | _ :: _, [], _, _, _, _, _, _, h, _, _, _ => by simp [okParamsZ] at h
  | sh :: shs, t :: ts, us, v :: vs, d :: ds, gs, ps, base, h, hd, hv, hz => by
    simp only [okParamsZ, Bool.and_eq_true] at h
    obtain ⟨p, q, h1, h2, _⟩ := hd
    obtain ⟨ls, f1, f2⟩ := opened_argz h.1 (hv 0 t v rfl rfl) h1 (fun n hn => hz n (by simp only [List.cons_append, DataW.weightsEach, List.mem_append]; exact .inl hn))
    obtain ⟨xs, g1, g2⟩ := open_allz (us := us) (gs := gs) h.2.2.2 h2 (fun j t' v' e1 e2 => hv (j + 1) t' v' e1 e2) (fun n hn => hz n (by simp only [List.cons_append, DataW.weightsEach, List.mem_append]; exact .inr hn))
    refine ⟨svOf sh ls :: xs, ⟨⟨ls, f1, rfl⟩, g1⟩, by simp [g2.1], fun j x u e1 e2 => ?_⟩
    cases j with
    | zero => simp at e1 e2; subst e1; subst e2; exact f2
    | succ j => exact g2.2 j x u e1 e2
theorem again_allz (hl : laidOutB P = true) (hb : Below W.heap.size W W') : ∀ {shs : List Sh} {ts : List TypeId} {vs : List Value} {ds : List (DataW H)} {ps : List MemPlace}, okParamsZ P shs ts = true → DataW.TrodAll enc P W 0 (fun _ => true) true ts vs ds ps → (∀ x ∈ ps, x.block < W.heap.size) →
    DataW.TrodAll enc P W' 0 (fun b => decide (b < W.heap.size)) true ts vs ds ps
  | [], [], [], [], _, _, h, _ => h
  | [], _ :: _, _, _, _, h, _, _ => by simp [okParamsZ] at h
  | _ :: _, [], _, _, _, h, _, _ => by simp [okParamsZ] at h
  | sh :: shs, t :: ts, v :: vs, d :: ds, ps, h, hd, hlt => by
    simp only [okParamsZ, Bool.and_eq_true, decide_eq_true_eq] at h
    obtain ⟨p, q, h1, h2, rfl⟩ := hd
    exact ⟨p, q, Below.trod hl h.2.1 h.2.2.1 h1 hb (fun x hx => hlt x (List.mem_append_left _ hx)), again_allz hl hb h.2.2.2 h2 (fun x hx => hlt x (List.mem_append_right _ hx)), rfl⟩
theorem law_contractz {f : FuncId} {fn : Func} {s : ChangeSpec} {apart fresh handsOn : Bool} {tb : TypeId} (hl : laidOutB P = true) (shs : List Sh) (hp : okParamsZ P shs fn.params.toList = true) (hres : fn.resultTypes = #[tb]) (htb : P.underlying tb = some .bool)
    (hvars : s.vars = []) (hs : ∀ ds : List (DataW H), ds.length = fn.params.toList.length → s.fn H ds = { results := [.lit (.bool true)], args := ds })
    (hf : ∀ xs, FzAll P shs fn.params.toList xs → CallsA P f xs (· = .s (.one (.b true)))) (hG : GLR W (allS W))
    (base : Nat) (args : Array Value) (ds gs : List (DataW H)) (before : List MemPlace)
    (hval : ∀ (j : Nat) t v, fn.params[j]? = some t → args[j]? = some v → Value.okWide P W .any base t v) (hW : DataW.Whole enc P fn.params.toList s.vars apart W args.toList ds gs before)
    {us : List TypeId} (hz : (DataW.weightsEach P (fn.params.toList ++ us) (ds ++ gs)).all (· ≤ reachBytes) = true) :
    Calls P f args W fun e W' => ∃ v, e = .returned v ∧ s.post enc P fn apart fresh handsOn false W args v W' := by
  have hlt := hW.lt
  have hW' := hW
  obtain ⟨p, q, hA, hV, hpq, _, _⟩ := hW'
  obtain ⟨xs, h1, h2⟩ := open_allz (us := us) (gs := gs) hp hA (fun j t v e1 e2 => hval j t v (by simpa using e1) (by simpa using e2)) (fun n hn => by simpa using List.all_eq_true.1 hz n hn)
  refine (hf xs h1 W (allS W) args (allS_in W hG) h2).mono ?_
  rintro e W' ⟨v, x, S', rfl, rfl, hext, _, hv⟩
  have hv : v = .bool true := rep_b hv
  subst hv
  have hlen : ds.length = fn.params.toList.length := by
    have : ∀ {ts : List TypeId} {vs : List Value} {ds : List (DataW H)} {ps : List MemPlace}, DataW.TrodAll enc P W 0 (fun _ => true) true ts vs ds ps → ds.length = ts.length := by
      intro ts
      induction ts with
      | nil => intro vs ds ps h; cases vs <;> cases ds <;> simp_all [DataW.TrodAll]
      | cons t ts ih =>
        intro vs ds ps h
        cases vs <;> cases ds <;> simp only [DataW.TrodAll] at h
        obtain ⟨p, q, _, h2, _⟩ := h
        simp [ih h2]
    exact this hA
  rw [hvars] at hV
  have hgs : gs = [] ∧ q = [] := by
    cases gs with
    | nil => exact ⟨rfl, hV⟩
    | cons g gs => exact hV.elim
  obtain ⟨rfl, rfl⟩ := hgs
  refine ⟨_, rfl, ds, [], before, [], p, [], hW, ?_, ?_, ?_, hext.below.frame _, fun h => by cases h⟩
  · rw [List.append_nil, hs ds hlen, hres]
    exact ⟨[], [], ⟨1, by simp [DataW.trod, Value.cells, htb]⟩, rfl, rfl⟩
  · rw [List.append_nil, hs ds hlen]
    exact again_allz hl hext.below hp hA (fun x hx => hlt x (by rw [hpq]; exact List.mem_append_left _ hx))
  · rw [List.append_nil, hs ds hlen, hvars]
    rfl
end
end Go.Proofs.Ytbmciegldpeaiaa.Abs

/-
  Small arrays, as structs of equal parts: their places.
-/
namespace Go.Proofs.Ytbmciegldpeaiaa.Abs
open Go.RowKit
section
variable {P : Program} {c : Ctx} {st : AS} {ty : TypeId}
end
end Go.Proofs.Ytbmciegldpeaiaa.Abs

/-
  Structures and small arrays held against one another, nested.
-/
namespace Go.Proofs.Ytbmciegldpeaiaa.Abs
open Go.RowKit
def efields (P : Program) (r : TypeId → Option (List Nat)) : Nat → List Field → Option (List Nat)
  | _, [] => some []
  | off, f :: fs => if f.name != "_" && f.offset == off then
      match r f.type with
      | some g => if (P.info? f.type).map (·.size) == some g.length then (efields P r (off + g.length) fs).map (g ++ ·) else none
      | none => none
    else none
def etags (P : Program) : Nat → TypeId → Option (List Nat)
  | 0, _ => none
  | d + 1, t => match P.underlying t with
    | some (.int _) => some [0]
    | some .bool => some [1]
    | some .string => some [2]
    | some (.struct fs) => if P.stoodInHeld t then none else efields P (etags P d) 0 fs.toList
    | some (.array n e) => match etags P d e with
      | some g => if (P.info? e).map (·.size) == some g.length then some ((List.replicate n g).flatten) else none
      | none => none
    | _ => none
def At (w : World) (S : Stab) (m : List Blk) (H : Nat → Value) (xs : Array Value) (off : Nat) (ls : List Lf) : Prop := ∀ j l, ls[j]? = some l → ∃ v, xs[off + j]? = some v ∧ GRep w S m H l v
theorem At.take {w : World} {S : Stab} {m : List Blk} {H : Nat → Value} {xs : Array Value} {off : Nat} {ls : List Lf} (h : At w S m H xs off ls) (k : Nat) : At w S m H xs off (ls.take k) := fun j l hj => by
  rw [List.getElem?_take] at hj
  split at hj
  · exact h j l hj
  · cases hj
theorem At.drop {w : World} {S : Stab} {m : List Blk} {H : Nat → Value} {xs : Array Value} {off : Nat} {ls : List Lf} (h : At w S m H xs off ls) (k : Nat) : At w S m H xs (off + k) (ls.drop k) := fun j l hj => by
  rw [List.getElem?_drop] at hj
  obtain ⟨v, hv, hr⟩ := h _ l hj
  exact ⟨v, by rw [← hv, Nat.add_assoc], hr⟩
theorem At.part {w : World} {S : Stab} {m : List Blk} {H : Nat → Value} {xs : Array Value} {off n : Nat} {ls : List Lf} (h : At w S m H xs off ls) (hl : ls.length = n) : At w S m H (xs.extract off (off + n)) 0 ls := fun j l hj => by
  obtain ⟨v, hv, hr⟩ := h j l hj
  have hjl := (List.getElem?_eq_some_iff.1 hj).1
  have hx := (Array.getElem?_eq_some_iff.1 hv).1
  refine ⟨v, ?_, hr⟩
  rw [Array.getElem?_extract, if_pos (by omega), Nat.zero_add, hv]
end Go.Proofs.Ytbmciegldpeaiaa.Abs

/-
  Structures with small arrays: held against one another, built, read and written at an index.
-/
namespace Go.Proofs.Ytbmciegldpeaiaa.Abs
open Go.RowKit
section
variable {P : Program} {c : Ctx} {st : AS} {ty : TypeId} {xt yt : TypeId} {x y : Operand}
structure EqD (P : Program) (t : TypeId) (g : List Nat) : Prop where
  u : etags P 8 t = some g
  s : (P.info? t).map (·.size) = some g.length
  g : P.eqGuardType P.depth t = false
  a : (match P.underlying t with | some (.struct _) => true | some (.array _ _) => true | _ => false) = true
end
end Go.Proofs.Ytbmciegldpeaiaa.Abs

