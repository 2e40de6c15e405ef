/-
  A walk over abstract states: its rules, part C.
-/
import Derived.Test.YtbojepclnfnmcaaAbsB
import Derived.WalkKit
import Derived.Lib.Walk
import Derived.Lib.SliceRun
import Derived.Lib.JoinLaws
import Derived.Lib.AppendZeros
import Derived.Lib.AppendZerosOnto
import Derived.Lib.Overlaps
import Derived.Laws.Externs
import Derived.Laws.IdiomCopy
import Derived.Laws.NewBlocks
import Derived.Shelf.RegionOpenPlain
import Derived.Shelf.Spec.SlicesInsert
/-
  A region that draws its order, with effects that stand in no order to one another: what the memory is hangs on which of them are done.
-/
namespace Go.Proofs.Ytbojepclnfnmcaa.Abs
open Go.RowKit
abbrev MTbl := List (List Bool × List Blk)
def look : MTbl → List Bool → Option (List Blk)
  | [], _ => none
  | (b, M) :: r, bits => if b == bits then some M else look r bits
theorem look_mem : ∀ {tbl : MTbl} {bits : List Bool} {M : List Blk}, look tbl bits = some M → (bits, M) ∈ tbl
  | (b, N) :: r, bits, M, h => by
    unfold look at h
    by_cases hb : (b == bits) = true
    · rw [if_pos hb] at h
      cases h
      have : b = bits := by simpa using hb
      subst this
      exact List.mem_cons_self ..
    · rw [if_neg hb] at h
      exact List.mem_cons_of_mem _ (look_mem h)
theorem zip_self_mem : ∀ {es : List Nat} {a b : Nat}, (a, b) ∈ es.zip es → a = b ∧ a ∈ es
  | [], _, _, h => by simp at h
  | e :: r, a, b, h => by
    rw [List.zip_cons_cons] at h
    rcases List.mem_cons.1 h with h | h
    · cases h; exact ⟨rfl, List.mem_cons_self ..⟩
    · obtain ⟨h1, h2⟩ := zip_self_mem h
      exact ⟨h1, List.mem_cons_of_mem _ h2⟩
def bitsOf (es : List Nat) (listed : Array Bool) : List Bool := es.map fun e => listed.getD e false
def consB (ws es : List Nat) (i : Nat) (bits : List Bool) : Bool := (es.zip bits).all fun x => (!((ws.getD i 0).testBit x.1) || x.2) && (!(x.1 == i || (ws.getD x.1 0).testBit i) || !x.2)
def closedB (ws es : List Nat) (bits : List Bool) : Bool := (es.zip bits).all fun x => !x.2 || (es.zip bits).all fun y => !((ws.getD x.1 0).testBit y.1) || y.2
def allBits : Nat → List (List Bool)
  | 0 => [[]]
  | n + 1 => (allBits n).map (false :: ·) ++ (allBits n).map (true :: ·)
theorem mem_allBits : ∀ {n : Nat} {bits : List Bool}, bits.length = n → bits ∈ allBits n
  | 0, [], _ => List.mem_singleton.2 rfl
  | 0, _ :: _, h => by simp at h
  | n + 1, [], h => by simp at h
  | n + 1, b :: bits, h => by
    have ih := mem_allBits (n := n) (bits := bits) (by simpa using h)
    unfold allBits
    rw [List.mem_append]
    cases b with
    | false => exact .inl (List.mem_map.2 ⟨bits, ih, rfl⟩)
    | true => exact .inr (List.mem_map.2 ⟨bits, ih, rfl⟩)
def fullB (ws es : List Nat) (tbl : MTbl) : Bool := (allBits es.length).all fun bits => !closedB ws es bits || (look tbl bits).isSome
def AllE (p : List Bool → Bool) (Q : List Bool → List Blk → Prop) (tbl : MTbl) : Prop := ∀ e ∈ tbl, p e.1 = true → Q e.1 e.2
theorem alle_nil {p : List Bool → Bool} {Q : List Bool → List Blk → Prop} : AllE p Q [] := fun e h => by cases h
theorem alle_t {p : List Bool → Bool} {Q : List Bool → List Blk → Prop} {b : List Bool} {M : List Blk} {r : MTbl} (_ : p b = true) (q : Q b M) (h : AllE p Q r) : AllE p Q ((b, M) :: r) := fun e he hp => by
  rcases List.mem_cons.1 he with rfl | he
  · exact q
  · exact h e he hp
theorem alle_f {p : List Bool → Bool} {Q : List Bool → List Blk → Prop} {b : List Bool} {M : List Blk} {r : MTbl} (hf : p b = false) (h : AllE p Q r) : AllE p Q ((b, M) :: r) := fun e he hp => by
  rcases List.mem_cons.1 he with rfl | he
  · have hp' : p b = true := hp
    rw [hf] at hp'; cases hp'
  · exact h e he hp
section
variable {P : Program} {c : Ctx} {t : Nat → AV} {m : List Blk} {Q : Exit → AS → Prop}
def GoodM (P : Program) (c : Ctx) (ops : Array Oper) (ws es : List Nat) (tbl : MTbl) (i : Nat) (t : Nat → AV) (o : Oper) (x : AV) : Prop :=
  (∃ md, Good1 P c md ops t o x ∧ AllE (consB ws es i) (fun _ M => Lift md M) tbl) ∨ AllE (consB ws es i) (fun _ M => Good1 P c M ops t o x) tbl
theorem GoodM.congr {ops : Array Oper} {ws es : List Nat} {tbl : MTbl} {i : Nat} {t t' : Nat → AV} {o : Oper} {x : AV} (h : GoodM P c ops ws es tbl i t o x) (ht : ∀ y ∈ o.looksAt ops, t y = t' y) : GoodM P c ops ws es tbl i t' o x := by
  rcases h with ⟨md, h1, h2⟩ | h
  · exact .inl ⟨md, h1.congr ht, h2⟩
  · exact .inr fun e he hp => (h e he hp).congr ht
def DM (P : Program) (c : Ctx) (ops : Array Oper) (ws es : List Nat) (tbl : MTbl) (k : (Nat → AV) → Prop) : Nat → List Oper → (Nat → AV) → Prop
  | _, [], t => k t
  | i, o :: rest, t =>
    (es.contains i = false ∧ ∃ x d, o.dst = some d ∧ d < c.nt ∧ GoodM P c ops ws es tbl i t o x ∧ DM P c ops ws es tbl k (i + 1) rest (upd t d x)) ∨
    (∃ j x, es[j]? = some i ∧ GYes ops t o ∧ AllE (consB ws es i) (fun b M => ∃ M', look tbl (b.set j true) = some M' ∧ EffS P c ops t M M' o x) tbl ∧ (∀ d, o.dst = some d → d < c.nt) ∧
      DM P c ops ws es tbl k (i + 1) rest (match o.dst with | some d => upd t d x | none => t))
theorem DM.get {ops : Array Oper} {ws es : List Nat} {tbl : MTbl} {k : (Nat → AV) → Prop} : ∀ {l : List Oper} {i : Nat} {t : Nat → AV}, DM P c ops ws es tbl k i l t → (dsts l).Nodup → (∀ (q : Nat) (o : Oper), l[q]? = some o → ∀ y ∈ o.looksAt ops, y ∉ dsts (l.drop q)) →
    ∃ T, k T ∧ (∀ y, y ∉ dsts l → T y = t y) ∧ ∀ (q : Nat) (o : Oper), l[q]? = some o →
      (es.contains (i + q) = false ∧ ∃ d, o.dst = some d ∧ d < c.nt ∧ GoodM P c ops ws es tbl (i + q) T o (T d)) ∨
      (∃ j x, es[j]? = some (i + q) ∧ GYes ops T o ∧ AllE (consB ws es (i + q)) (fun b M => ∃ M', look tbl (b.set j true) = some M' ∧ EffS P c ops T M M' o x) tbl ∧ ∀ d, o.dst = some d → d < c.nt ∧ T d = x)
  | [], i, t, h, _, _ => ⟨t, h, fun _ _ => rfl, fun q o h => by simp at h⟩
  | o :: rest, i, t, h, hnd, hl => by
    have hlook : ∀ y ∈ o.looksAt ops, y ∉ dsts (o :: rest) := fun y hy => by simpa using hl 0 o rfl y hy
    have hlt : ∀ (q : Nat) (o' : Oper), rest[q]? = some o' → ∀ y ∈ o'.looksAt ops, y ∉ dsts (rest.drop q) := fun q o' h' y hy => by
      have := hl (q + 1) o' (by simpa using h') y hy
      simpa using this
    rcases h with ⟨hne, x, d, hd, hdn, hg, hr⟩ | ⟨j, x, h1, h6, h7, h8, hr⟩
    · have hds : dsts (o :: rest) = d :: dsts rest := by simp [dsts, hd]
      rw [hds] at hnd hlook
      have hnd' := List.nodup_cons.1 hnd
      obtain ⟨T, hk, hT, hG⟩ := DM.get hr hnd'.2 hlt
      have hTl : ∀ y ∈ o.looksAt ops, t y = T y := fun y hy => by
        have := hlook y hy
        simp only [List.mem_cons, not_or] at this
        rw [hT y this.2, upd_def, if_neg this.1]
      have hTd : T d = x := by rw [hT d hnd'.1, upd_def, if_pos rfl]
      refine ⟨T, hk, fun y hy => ?_, fun q o' h' => ?_⟩
      · rw [hds] at hy
        simp only [List.mem_cons, not_or] at hy
        rw [hT y hy.2, upd_def, if_neg hy.1]
      · cases q with
        | zero =>
          simp only [List.getElem?_cons_zero, Option.some.injEq] at h'
          subst h'
          exact .inl ⟨hne, d, hd, hdn, by rw [hTd]; exact hg.congr hTl⟩
        | succ q =>
          have := hG q o' (by simpa using h')
          rw [show i + 1 + q = i + (q + 1) by omega] at this
          exact this
    · have fin : ∀ {T : Nat → AV}, (∀ y ∈ o.looksAt ops, t y = T y) → AllE (consB ws es i) (fun b M => ∃ M', look tbl (b.set j true) = some M' ∧ EffS P c ops T M M' o x) tbl := fun hTl e he hp => by
        obtain ⟨M', h3, h4⟩ := h7 e he hp
        exact ⟨M', h3, h4.congr hTl⟩
      cases hd : o.dst with
      | none =>
        have hds : dsts (o :: rest) = dsts rest := by simp [dsts, hd]
        rw [hds] at hnd hlook
        rw [hd] at hr
        obtain ⟨T, hk, hT, hG⟩ := DM.get hr hnd hlt
        have hTl : ∀ y ∈ o.looksAt ops, t y = T y := fun y hy => (hT y (hlook y hy)).symm
        refine ⟨T, hk, fun y hy => hT y (by rw [hds] at hy; exact hy), fun q o' h' => ?_⟩
        cases q with
        | zero =>
          simp only [List.getElem?_cons_zero, Option.some.injEq] at h'
          subst h'
          exact .inr ⟨j, x, h1, h6.congr hTl, fin hTl, fun d h => by rw [hd] at h; cases h⟩
        | succ q =>
          have := hG q o' (by simpa using h')
          rw [show i + 1 + q = i + (q + 1) by omega] at this
          exact this
      | some d =>
        have hds : dsts (o :: rest) = d :: dsts rest := by simp [dsts, hd]
        rw [hds] at hnd hlook
        have hnd' := List.nodup_cons.1 hnd
        rw [hd] at hr
        obtain ⟨T, hk, hT0, hG⟩ := DM.get hr hnd'.2 hlt
        have hT : ∀ y, y ∉ dsts rest → T y = upd t d x y := hT0
        have hTl : ∀ y ∈ o.looksAt ops, t y = T y := fun y hy => by
          have := hlook y hy
          simp only [List.mem_cons, not_or] at this
          rw [hT y this.2, upd_def, if_neg this.1]
        have hTd : T d = x := by rw [hT d hnd'.1, upd_def, if_pos rfl]
        refine ⟨T, hk, fun y hy => ?_, fun q o' h' => ?_⟩
        · rw [hds] at hy
          simp only [List.mem_cons, not_or] at hy
          rw [hT y hy.2, upd_def, if_neg hy.1]
        · cases q with
          | zero =>
            simp only [List.getElem?_cons_zero, Option.some.injEq] at h'
            subst h'
            refine .inr ⟨j, x, h1, h6.congr hTl, fin hTl, fun d' h => ?_⟩
            rw [hd] at h
            cases h
            exact ⟨h8 d hd, hTd⟩
          | succ q =>
            have := hG q o' (by simpa using h')
            rw [show i + 1 + q = i + (q + 1) by omega] at this
            exact this
theorem cdraw_mD {l : List Oper} (es ws : List Nat) (tbl : MTbl) {last : List Blk} (hws : waitsL l [] = ws) (hok : okDrawC l.toArray = true) (hnd : es.Nodup) (hes : (es.all fun e => decide (e < l.length)) = true) (hfull : fullB ws es tbl = true) (h0 : look tbl (es.map fun _ => false) = some m) (hlast : look tbl (es.map fun _ => true) = some last)
    (h : DM P c l.toArray ws es tbl (fun T => Q .normal ⟨T, last⟩) 0 l t) : AWD P c Q l ⟨t, m⟩ := by
  subst hws
  have ok := drawOkC_of hok
  have hdn : (dsts l).Nodup := by
    have key : ∀ (k : List Oper) (n : Nat), (∀ i o, k[i]? = some o → l[n + i]? = some o) → (dsts k).Nodup := by
      intro k
      induction k with
      | nil => intro n _; exact List.nodup_nil
      | cons o r ih =>
        intro n hk
        have ih' := ih (n + 1) (fun i o' h' => by have := hk (i + 1) o' (by simpa using h'); rw [← this]; congr 1; omega)
        cases hd : o.dst with
        | none => simpa [dsts, hd] using ih'
        | some d =>
          have hds : dsts (o :: r) = d :: dsts r := by simp [dsts, hd]
          rw [hds]
          refine List.nodup_cons.2 ⟨fun hmem => ?_, ih'⟩
          unfold dsts at hmem
          rw [List.mem_filterMap] at hmem
          obtain ⟨p, hp, hpd⟩ := hmem
          obtain ⟨q, hq, hqp⟩ := List.getElem_of_mem hp
          have h1 := hk 0 o rfl
          have h2 := hk (q + 1) p (by simp [hq, hqp])
          exact ok.ne n o (n + (q + 1)) p (by simpa using h1) (by simpa using h2) (by omega) d hd hpd
    exact key l 0 (fun i o h => by simpa using h)
  obtain ⟨T, hQ, hTt, hG⟩ := DM.get h hdn (later ok)
  let B : Array Bool → List Blk := fun listed => (look tbl (bitsOf es listed)).getD []
  let HI : Array Bool → (Nat → Value) → Prop := fun listed _ => Closed l.toArray listed
  have hws : ∀ {listed : Array Bool}, Closed l.toArray listed → ∀ i, listed.getD i false = true → ∀ j, ((waitsL l []).getD i 0).testBit j = true → listed.getD j false = true := fun hc =>
    waitsL_ok hc l [] (fun i o h => by simpa using h) (fun i h => by simp at h)
  have huf : ∀ {listed : Array Bool} {i : Nat}, listed.size = l.toArray.size → i < l.length → listed.getD i true = false → listed.getD i false = false := by
    intro listed i hs hi h
    simp only [Array.getD_eq_getD_getElem?] at h ⊢
    rw [Array.getElem?_eq_getElem (by rw [hs]; simpa using hi)] at h ⊢
    exact h
  have hzip : ∀ {listed : Array Bool} {x : Nat × Bool}, x ∈ es.zip (bitsOf es listed) → x.2 = listed.getD x.1 false ∧ x.1 ∈ es := by
    intro listed x hx
    unfold bitsOf at hx
    rw [List.zip_map_right] at hx
    obtain ⟨y, hy, rfl⟩ := List.mem_map.1 hx
    obtain ⟨a, b⟩ := y
    have hab := zip_self_mem hy
    obtain ⟨rfl, hm⟩ := hab
    exact ⟨rfl, hm⟩
  have hclosed : ∀ {listed : Array Bool}, Closed l.toArray listed → closedB (waitsL l []) es (bitsOf es listed) = true := by
    intro listed hc
    unfold closedB
    rw [List.all_eq_true]
    intro x hx
    obtain ⟨h1, _⟩ := hzip hx
    cases hb : x.2 with
    | false => rfl
    | true =>
      simp only [Bool.not_true, Bool.false_or]
      rw [List.all_eq_true]
      intro y hy
      obtain ⟨h2, _⟩ := hzip hy
      cases hw : ((waitsL l []).getD x.1 0).testBit y.1 with
      | false => rfl
      | true =>
        rw [h1] at hb
        rw [h2, hws hc x.1 hb y.1 hw]
        rfl
  have hmem : ∀ {listed : Array Bool}, Closed l.toArray listed → (bitsOf es listed, B listed) ∈ tbl := by
    intro listed hc
    have hf := (List.all_eq_true.1 hfull) (bitsOf es listed) (mem_allBits (by simp [bitsOf]))
    rw [hclosed hc] at hf
    simp only [Bool.not_true, Bool.false_or, Option.isSome_iff_exists] at hf
    obtain ⟨M, hM⟩ := hf
    have : B listed = M := by show (look tbl (bitsOf es listed)).getD [] = M; rw [hM]; rfl
    rw [this]
    exact look_mem hM
  have hcons : ∀ {listed : Array Bool} {i : Nat} {o : Oper}, Closed l.toArray listed → l[i]? = some o → Met listed o → listed.getD i false = false → consB (waitsL l []) es i (bitsOf es listed) = true := by
    intro listed i o hc ho hmt hun
    unfold consB
    rw [List.all_eq_true]
    intro x hx
    obtain ⟨h1, _⟩ := hzip hx
    rw [Bool.and_eq_true, Bool.or_eq_true, Bool.or_eq_true]
    constructor
    · cases hw : ((waitsL l []).getD i 0).testBit x.1 with
      | false => exact .inl rfl
      | true =>
        right
        rw [h1]
        exact waits_met (ops := l.toArray) hc (i := i) (o := o) (by simpa using ho) hmt (j := x.1) hw
    · cases hb : x.2 with
      | false => exact .inr rfl
      | true =>
        left
        rw [h1] at hb
        simp only [Bool.not_eq_true', Bool.or_eq_false_iff]
        constructor
        · cases he : (x.1 == i) with
          | false => rfl
          | true =>
            have : x.1 = i := by simpa using he
            rw [this, hun] at hb; cases hb
        · cases hw : ((waitsL l []).getD x.1 0).testBit i with
          | false => rfl
          | true =>
            have := hws hc x.1 hb i hw
            rw [hun] at this; cases this
  have hbsame : ∀ {listed : Array Bool} {i : Nat}, es.contains i = false → bitsOf es (listed.setIfInBounds i true) = bitsOf es listed := by
    intro listed i hi
    unfold bitsOf
    refine List.map_congr_left fun e he => ?_
    have : i ≠ e := fun e' => by subst e'; have : es.contains i = true := by simpa using he
                                 rw [hi] at this; cases this
    simp only [Array.getD_eq_getD_getElem?, Array.getElem?_setIfInBounds_ne this]
  have hlk : ∀ {i : Nat} {o : Oper}, l.toArray[i]? = some o → l[i]? = some o ∧ i < l.length := fun {i o} h => by
    have h' : l[i]? = some o := by simpa using h
    exact ⟨h', (List.getElem?_eq_some_iff.1 h').1⟩
  refine draw_open (T := T) (B := B) (HI := HI) ok (fun i o ho => ?_) hTt (fun a w S H r => ⟨H, ?_, ?_⟩) (fun listed hs hl => ?_)
  · obtain ⟨ho', hil⟩ := hlk ho
    rcases hG i o ho' with ⟨hne, d, hd, hdn, hg⟩ | ⟨j, x, h1, h5, h6, h7⟩
    · rw [Nat.zero_add] at hne hg
      refine .inl fun listed H hs hun hmt hc => ?_
      have hBs : B (listed.setIfInBounds i true) = B listed := by
        show (look tbl (bitsOf es (listed.setIfInBounds i true))).getD [] = _
        rw [hbsame hne]
      have hm := hmem hc
      have hcs := hcons hc ho' hmt (huf hs hil hun)
      rcases hg with ⟨md, hg, hmd⟩ | hg
      · exact ⟨md, ⟨d, hd, hdn, hg⟩, hmd _ hm hcs, hBs, hc.set ho hmt⟩
      · exact ⟨B listed, ⟨d, hd, hdn, hg _ hm hcs⟩, Lift.refl _, hBs, hc.set ho hmt⟩
    · rw [Nat.zero_add] at h1 h6
      refine .inr ⟨h5, fun listed hs hun hmt a w S H r hc K Qn hK => ?_⟩
      have hm := hmem hc
      have hcs := hcons hc ho' hmt (huf hs hil hun)
      obtain ⟨M', hM', h6⟩ := h6 _ hm hcs
      have hbits : bitsOf es (listed.setIfInBounds i true) = (bitsOf es listed).set j true := by
        refine List.ext_getElem? fun q => ?_
        unfold bitsOf
        rw [List.getElem?_map, List.getElem?_set, List.length_map, List.getElem?_map]
        have hjl := (List.getElem?_eq_some_iff.1 h1).1
        by_cases e : j = q
        · subst e
          rw [if_pos rfl, if_pos hjl, h1]
          simp only [Option.map_some, Option.some.injEq, Array.getD_eq_getD_getElem?]
          rw [Array.getElem?_setIfInBounds_self_of_lt (by rw [hs]; simpa using hil)]
          rfl
        · rw [if_neg e]
          cases hq : es[q]? with
          | none => rfl
          | some e' =>
            have hne : i ≠ e' := fun e'' => by
              subst e''
              have hql := (List.getElem?_eq_some_iff.1 hq).1
              have h8 := (List.getElem?_eq_some_iff.1 hq).2
              have h9 := (List.getElem?_eq_some_iff.1 h1).2
              exact e ((List.getElem_inj hnd).1 (h9.trans h8.symm))
            simp only [Option.map_some, Option.some.injEq, Array.getD_eq_getD_getElem?]
            rw [Array.getElem?_setIfInBounds_ne hne]
      have hB2 : B (listed.setIfInBounds i true) = M' := by
        show (look tbl (bitsOf es (listed.setIfInBounds i true))).getD [] = M'
        rw [hbits, hM']
        rfl
      have hlook := TL_look (T := T) ok hs ho hmt
      have hmix : mix T (o.looksAt l.toArray) (TL l.toArray T listed) = TL l.toArray T listed := by
        funext y
        unfold mix
        cases hc' : (o.looksAt l.toArray).contains y with
        | false => rfl
        | true => exact (hlook y (by simpa using hc')).symm
      have heff := h6 (TL l.toArray T listed)
      rw [hmix] at heff
      have hw := heff a w S H r
      unfold wpList at hw
      rw [if_pos (by rfl)] at hw
      rcases hw with hw | ⟨_, a', w', st', S', H', _, he, _⟩
      · refine oper_mono (P := P) (o := o) ?_ ?_ (show o.wp P a w _ _ from hw)
        · rintro a' w' ⟨st', S', H', r', _, rfl⟩
          refine hK a' w' S' H' ?_ (hc.set ho hmt)
          rw [hB2]
          cases hd : o.dst with
          | none =>
            rw [hd] at r'
            rw [← TL_set_none ho hd]
            exact r'
          | some d =>
            rw [hd] at r'
            rw [← TL_set (T := T) ok hs ho hun hd, (h7 d hd).2]
            exact r'
        · rintro e a' w' hne ⟨st', S', H', r', he, _⟩
          exact absurd he hne
      · cases he
  · have : B (Array.replicate l.toArray.size false) = m := by
      have e1 : bitsOf es (Array.replicate l.toArray.size false) = es.map fun _ => false := by
        unfold bitsOf
        refine List.map_congr_left fun e _ => ?_
        simp only [Array.getD_eq_getD_getElem?, Array.getElem?_replicate]
        split <;> rfl
      show (look tbl (bitsOf es (Array.replicate l.toArray.size false))).getD [] = m
      rw [e1, h0]
      rfl
    rw [this]
    exact r
  · intro i o _ hl
    simp only [Array.getD_eq_getD_getElem?, Array.getElem?_replicate] at hl
    split at hl <;> simp at hl
  · have hin : ∀ e ∈ es, e < l.length := fun e he => by simpa using List.all_eq_true.1 hes e he
    have e1 : bitsOf es listed = es.map fun _ => true := by
      unfold bitsOf
      refine List.map_congr_left fun e he => ?_
      have h1 := hl e (by simpa using hin e he)
      have h2 : e < listed.size := by rw [hs]; simpa using hin e he
      simp only [Array.getD_eq_getD_getElem?, Array.getElem?_eq_getElem h2, Option.getD_some] at h1 ⊢
      exact h1
    have : B listed = last := by
      show (look tbl (bitsOf es listed)).getD [] = last
      rw [e1, hlast]
      rfl
    rw [this]
    exact hQ
theorem cdraw_m {id : Nat} {l : List Oper} (es ws : List Nat) (tbl : MTbl) {last : List Blk} (hws : waitsL l [] = ws) (hm : P.follows .mixedOrders = true) (hok : okDrawC l.toArray = true) (hnd : es.Nodup) (hes : (es.all fun e => decide (e < l.length)) = true) (hfull : fullB ws es tbl = true) (h0 : look tbl (es.map fun _ => false) = some m) (hlast : look tbl (es.map fun _ => true) = some last)
    (h : DM P c l.toArray ws es tbl (fun T => Q .normal ⟨T, last⟩) 0 l t) : AWC P c (.region id l.toArray true) Q ⟨t, m⟩ := (cdraw_mD es ws tbl hws hok hnd hes hfull h0 hlast h).awc hm
variable {ops : Array Oper} {ws es : List Nat} {tbl : MTbl} {k : (Nat → AV) → Prop} {rest : List Oper} {op : Op} {ty : TypeId} {pos : String} {af : Array Edge} {d : Tmp} {x : AV} {i : Nat}
theorem mnil2 (h : k t) : DM P c ops ws es tbl k i [] t := h
theorem mem2 (hi : es.contains i = false) (hd : decide (d < c.nt) = true) (h : ∀ md, OpV P c ⟨restr t (Oper.looksAt ops ⟨some d, op, ty, pos, af, none⟩), md⟩ op ty x) (kk : DM P c ops ws es tbl k (i + 1) rest (upd t d x)) : DM P c ops ws es tbl k i (⟨some d, op, ty, pos, af, none⟩ :: rest) t :=
  .inl ⟨hi, x, d, rfl, of_decide_eq_true hd, .inr fun _ _ _ => .inl ⟨.inl rfl, (h _).opD⟩, kk⟩
theorem mee (j : Nat) (he : es[j]? = some i) (hd : decide (d < c.nt) = true)
    (h : AllE (consB ws es i) (fun b M => ∃ M', look tbl (b.set j true) = some M' ∧ ∀ ζ, AWL P c ops (fun e st => e = .normal ∧ st = ⟨upd (mix t (Oper.looksAt ops ⟨some d, op, ty, pos, af, none⟩) ζ) d x, M'⟩) [⟨some d, op, ty, pos, af, none⟩] ⟨mix t (Oper.looksAt ops ⟨some d, op, ty, pos, af, none⟩) ζ, M⟩) tbl)
    (kk : DM P c ops ws es tbl k (i + 1) rest (upd t d x)) : DM P c ops ws es tbl k i (⟨some d, op, ty, pos, af, none⟩ :: rest) t :=
  .inr ⟨j, x, he, .inl rfl, h, fun d' h' => by cases h'; exact of_decide_eq_true hd, kk⟩
theorem mee0 (j : Nat) (he : es[j]? = some i)
    (h : AllE (consB ws es i) (fun b M => ∃ M', look tbl (b.set j true) = some M' ∧ ∀ ζ, AWL P c ops (fun e st => e = .normal ∧ st = ⟨mix t (Oper.looksAt ops ⟨none, op, ty, pos, af, none⟩) ζ, M'⟩) [⟨none, op, ty, pos, af, none⟩] ⟨mix t (Oper.looksAt ops ⟨none, op, ty, pos, af, none⟩) ζ, M⟩) tbl)
    (kk : DM P c ops ws es tbl k (i + 1) rest t) : DM P c ops ws es tbl k i (⟨none, op, ty, pos, af, none⟩ :: rest) t :=
  .inr ⟨j, .top, he, .inl rfl, h, (fun d' h' => by cases h'), kk⟩
end
end Go.Proofs.Ytbojepclnfnmcaa.Abs

/-
  An iterator's round that lays a block of its own, and forgets it ahead of yield.
-/
namespace Go.Proofs.Ytbojepclnfnmcaa.Abs
open Go.RowKit
section
variable {P : Program} {nt : Nat} {Q : Exit → (Nat → AV) → YK → Prop} {K : YK} {t : Nat → AV}
end
section
variable {P : Program} {c : Ctx} {ops : Array Oper} {ws es : List Nat} {tbl : MTbl} {k : (Nat → AV) → Prop} {t : Nat → AV} {rest : List Oper} {op : Op} {ty : TypeId} {pos : String} {af : Array Edge} {d : Tmp} {x : AV} {i : Nat}
theorem mevA (hi : es.contains i = false) (hd : decide (d < c.nt) = true) (h : AllE (consB ws es i) (fun _ M => OpV P c ⟨restr t (Oper.looksAt ops ⟨some d, op, ty, pos, af, none⟩), M⟩ op ty x) tbl) (kk : DM P c ops ws es tbl k (i + 1) rest (upd t d x)) : DM P c ops ws es tbl k i (⟨some d, op, ty, pos, af, none⟩ :: rest) t :=
  .inl ⟨hi, x, d, rfl, of_decide_eq_true hd, .inr fun e he hp => .inl ⟨.inl rfl, (h e he hp).opD⟩, kk⟩
end
end Go.Proofs.Ytbojepclnfnmcaa.Abs

/-
  What the library's Insert leans on: copies of elements of any size.
-/
namespace Go.Proofs.Ytbojepclnfnmcaa.Abs
open Go.RowKit Go.Proofs Go.Lib
theorem run_copy_k {P : Program} (w : World) (dT sT ty elem : TypeId) (b o dLen dCap : Nat) (a : Addr) (sLen sCap sz q : Nat) (cs : List Value)
    (hu : P.underlying dT = some (.slice elem)) (hs : (P.info? elem).map (·.size) = some sz) (hq : Nat.min sLen dLen = q) (hn : cs.length = q * sz)
    (hsrc : ∀ j v, cs[j]? = some v → w.cell? (a.add j) = some v) (hc : ∀ j, j < cs.length → (w.cell? ⟨b, o + j, none⟩).isSome = true) (hf : ∀ j, j < cs.length → w.frozen? ⟨b, o + j, none⟩ = false) (h1 : ∀ v ∈ cs, v.oneCell' = true) :
    (Builtin.copy_ #[dT, sT] ty #[.slice (some ⟨b, o, none⟩) dLen dCap, .slice (some a) sLen sCap]).run P w = .ok (goInt q) (w.setCells b o cs) := by
  have ld := run_loadCells_list (P := P) w a cs hsrc
  have sd := run_storeCells_cells (P := P) b o cs 0 w (by simpa using hc) (by simpa using hf) h1
  rw [hn] at ld
  cases hi : P.info? elem with
  | none => simp [hi] at hs
  | some i =>
    have e : i.size = sz := by simpa [hi] using hs
    simp [Builtin.copy_, run_underlying hu, Builtin.lenOf, Builtin.firstCells, sizeOf, typeInfo, hi, e, hq, ld, sd]
def putL {α : Type} (o : Nat) (vs L : List α) : List α := L.take o ++ vs ++ L.drop (o + vs.length)
theorem putL_len {α : Type} {o : Nat} {vs L : List α} (h : o + vs.length ≤ L.length) : (putL o vs L).length = L.length := by
  simp only [putL, List.length_append, List.length_take, List.length_drop]; omega
theorem setL_one {α : Type} (L : List α) (o : Nat) (v : α) (h : o < L.length) : L.set o v = L.take o ++ v :: L.drop (o + 1) := by
  rw [List.set_eq_take_append_cons_drop, if_pos h]
theorem heap_setCells (b : Nat) (t : TypeId) : ∀ (vs : List Value) (o : Nat) (w : World) (cur : Array Value), w.heap[b]? = some (.cells cur t (0, 0)) → o + vs.length ≤ cur.size →
    (w.setCells b o vs).heap[b]? = some (.cells (putL o vs cur.toList).toArray t (0, 0)) ∧ (w.setCells b o vs).heap.size = w.heap.size ∧ (∀ g, g ≠ b → (w.setCells b o vs).heap[g]? = w.heap[g]?) ∧
      (w.setCells b o vs).os = w.os ∧ (w.setCells b o vs).tape = w.tape ∧ (w.setCells b o vs).output = w.output
  | [], o, w, cur, h, hl => by
    refine ⟨?_, rfl, fun _ _ => rfl, rfl, rfl, rfl⟩
    show w.heap[b]? = _
    rw [h]
    simp [putL, List.take_append_drop]
  | v :: vs, o, w, cur, h, hl => by
    rw [List.length_cons] at hl
    have hb := Array.getElem?_eq_some_iff.1 h
    have h1 : (w.setCell ⟨b, o, none⟩ v).heap[b]? = some (.cells (cur.setIfInBounds o v) t (0, 0)) := by
      simp only [World.setCell, Array.getElem?_modify, if_true, h, Option.map_some]
      rfl
    obtain ⟨h2, h3, h4, h5, h6, h7⟩ := heap_setCells b t vs (o + 1) (w.setCell ⟨b, o, none⟩ v) (cur.setIfInBounds o v) h1 (by rw [Array.size_setIfInBounds]; omega)
    have e0 : w.setCells b o (v :: vs) = (w.setCell ⟨b, o, none⟩ v).setCells b (o + 1) vs := rfl
    rw [e0]
    refine ⟨?_, by rw [h3]; simp [World.setCell], fun g hg => by rw [h4 g hg]; simp only [World.setCell, Array.getElem?_modify]; rw [if_neg (fun e => hg e.symm)], h5, h6, h7⟩
    rw [h2]
    congr 3
    have ho : o < cur.toList.length := by rw [Array.length_toList]; omega
    have es : (cur.setIfInBounds o v).toList = cur.toList.take o ++ v :: cur.toList.drop (o + 1) := by
      rw [Array.toList_setIfInBounds, setL_one _ _ _ ho]
    unfold putL
    rw [es, List.length_cons]
    have hto : (cur.toList.take o).length = o := by rw [List.length_take]; omega
    have e1 : (cur.toList.take o ++ v :: cur.toList.drop (o + 1)).take (o + 1) = cur.toList.take o ++ [v] := by
      rw [List.take_append, List.take_of_length_le (by omega), hto, show o + 1 - o = 1 by omega]; rfl
    have e2 : (cur.toList.take o ++ v :: cur.toList.drop (o + 1)).drop (o + 1 + vs.length) = cur.toList.drop (o + (vs.length + 1)) := by
      rw [List.drop_append, List.drop_of_length_le (by omega), hto, show o + 1 + vs.length - o = vs.length + 1 by omega, List.drop_succ_cons, List.drop_drop, List.nil_append]
      congr 1; omega
    rw [e1, e2]
    simp
theorem putL_two {α : Type} (L vs D : List α) (a s m : Nat) (hv : vs.length = s) (hD : D.length = m) (hL : a + s + m ≤ L.length) :
    (putL a vs (putL (a + s) D L)).take (a + s + m) = L.take a ++ vs ++ D := by
  unfold putL
  have h1 : (L.take (a + s) ++ D ++ L.drop (a + s + D.length)).take a = L.take a := by
    rw [List.append_assoc, List.take_append_of_le_length (by rw [List.length_take]; omega), List.take_take, Nat.min_eq_left (by omega)]
  have h2 : (L.take (a + s) ++ D ++ L.drop (a + s + D.length)).drop (a + vs.length) = D ++ L.drop (a + s + D.length) := by
    rw [List.append_assoc, hv, List.drop_left' (by rw [List.length_take]; omega)]
  rw [h1, h2, ← List.append_assoc, List.take_left' (by simp only [List.length_append, List.length_take]; omega)]
theorem putL_end {α : Type} (L vs : List α) (a s : Nat) (hv : vs.length = s) (hL : a + s ≤ L.length) : (putL a vs L).take (a + s) = L.take a ++ vs := by
  unfold putL
  rw [List.take_left' (by simp only [List.length_append, List.length_take]; omega)]
structure RowLeft (E sz b n : Nat) (w w' : World) (v : Value) (vals : List Value) : Prop where
  os : w'.os = w.os
  tape : w'.tape = w.tape
  output : w'.output = w.output
  size : w.heap.size ≤ w'.heap.size
  blk : ∀ g, g < w.heap.size → g ≠ b → w'.heap[g]? = w.heap[g]?
  row : ∃ G cap cur, (G = b ∨ w.heap.size ≤ G) ∧ v = .slice (some ⟨G, 0, none⟩) n cap ∧ w'.heap[G]? = some (.cells cur E (0, 0)) ∧ n ≤ cap ∧ cap ≤ maxLen ∧ cur.size = cap * sz ∧ cur.toList.take (n * sz) = vals
theorem rowLeft_end {E sz b n c : Nat} {w : World} {cur : Array Value} {vs : List Value} (hg : w.heap[b]? = some (.cells cur E (0, 0))) (hc : n + 1 ≤ c) (hm : c ≤ maxLen) (hs : cur.size = c * sz) (hv : vs.length = sz) :
    RowLeft E sz b (n + 1) w (w.setCells b (n * sz) vs) (.slice (some ⟨b, 0, none⟩) (n + 1) c) (cur.toList.take (n * sz) ++ vs) := by
  have hfit : n * sz + vs.length ≤ cur.size := by
    rw [hs, hv]
    have := Nat.mul_le_mul_right sz hc
    rw [Nat.add_mul, Nat.one_mul] at this
    exact this
  obtain ⟨h1, h2, h3, h4, h5, h6⟩ := heap_setCells b E vs (n * sz) w cur hg hfit
  refine ⟨h4, h5, h6, by rw [h2]; exact Nat.le_refl _, fun g _ hne => h3 g hne, b, c, _, .inl rfl, rfl, h1, hc, hm, ?_, ?_⟩
  · rw [List.size_toArray, putL_len (by rw [Array.length_toList]; exact hfit), Array.length_toList, hs]
  · rw [List.toList_toArray, Nat.add_mul, Nat.one_mul]
    exact putL_end _ _ _ _ hv (by rw [Array.length_toList]; omega)
theorem rowLeft_shift {E sz b n c i : Nat} {w : World} {cur : Array Value} {vs : List Value} (hg : w.heap[b]? = some (.cells cur E (0, 0))) (hi : i < n) (hc : n + 1 ≤ c) (hm : c ≤ maxLen) (hs : cur.size = c * sz) (hv : vs.length = sz) :
    RowLeft E sz b (n + 1) w ((w.drew.setCells b ((i + 1) * sz) ((cur.toList.take (n * sz)).drop (i * sz))).setCells b (i * sz) vs) (.slice (some ⟨b, 0, none⟩) (n + 1) c)
      ((cur.toList.take (n * sz)).take (i * sz) ++ vs ++ (cur.toList.take (n * sz)).drop (i * sz)) := by
  have hle : (n + 1) * sz ≤ cur.size := by rw [hs]; exact Nat.mul_le_mul_right sz hc
  have hin : i * sz ≤ n * sz := Nat.mul_le_mul_right sz (Nat.le_of_lt hi)
  have ei : (i + 1) * sz = i * sz + sz := by rw [Nat.add_mul, Nat.one_mul]
  have en : (n + 1) * sz = n * sz + sz := by rw [Nat.add_mul, Nat.one_mul]
  have hdl : ((cur.toList.take (n * sz)).drop (i * sz)).length = n * sz - i * sz := by rw [List.length_drop, List.length_take, Array.length_toList]; omega
  have hl0 : cur.toList.length = cur.size := Array.length_toList
  obtain ⟨h1, h2, h3, h4, h5, h6⟩ := heap_setCells b E ((cur.toList.take (n * sz)).drop (i * sz)) ((i + 1) * sz) w.drew cur hg (by omega)
  have hp1 := putL_len (o := (i + 1) * sz) (vs := (cur.toList.take (n * sz)).drop (i * sz)) (L := cur.toList) (by omega)
  obtain ⟨k1, k2, k3, k4, k5, k6⟩ := heap_setCells b E vs (i * sz) _ _ h1 (by rw [List.size_toArray, hp1]; omega)
  rw [List.toList_toArray] at k1
  have hp2 := putL_len (o := i * sz) (vs := vs) (L := putL ((i + 1) * sz) ((cur.toList.take (n * sz)).drop (i * sz)) cur.toList) (by rw [hp1]; omega)
  refine ⟨k4.trans h4, k5.trans h5, k6.trans h6, by rw [k2, h2]; exact Nat.le_refl _, fun g _ hne => (k3 g hne).trans (h3 g hne), b, c, _, .inl rfl, rfl, k1, hc, hm, ?_, ?_⟩
  · rw [List.size_toArray, hp2, hp1, hl0, hs]
  · rw [List.toList_toArray, List.take_take, Nat.min_eq_left hin]
    have := putL_two cur.toList vs ((cur.toList.take (n * sz)).drop (i * sz)) (i * sz) sz (n * sz - i * sz) hv hdl (by omega)
    rw [← ei, show (i + 1) * sz + (n * sz - i * sz) = (n + 1) * sz by omega] at this
    exact this
theorem rowLeft_new {E sz b n c : Nat} {w : World} {row : Array Value} {vals : List Value} (hc : n ≤ c) (hm : c ≤ maxLen) (hs : row.size = c * sz) (hv : row.toList.take (n * sz) = vals) :
    RowLeft E sz b n w (w.drew.alloc (.cells row E)) (.slice (some ⟨w.heap.size, 0, none⟩) n c) vals := by
  refine ⟨rfl, rfl, rfl, by simp, fun g hg _ => Below.heap_alloc w.drew _ g hg, w.heap.size, c, row, .inr (Nat.le_refl _), rfl, ?_, hc, hm, hs, hv⟩
  show (w.heap.push (.cells row E))[w.heap.size]? = _
  simp
theorem putL_grow {α : Type} (L vs D : List α) (a s m : Nat) (hv : vs.length = s) (hD : D.length = m) (hL : a + s + m ≤ L.length) :
    (putL (a + s) D (putL a vs L)).take (a + s + m) = L.take a ++ vs ++ D := by
  have h1 : (putL a vs L).take (a + s) = L.take a ++ vs := putL_end _ _ _ _ hv (by omega)
  show ((putL a vs L).take (a + s) ++ D ++ _).take (a + s + m) = _
  rw [h1, List.take_left' (by simp only [List.length_append, List.length_take]; omega)]
theorem rowLeft_grow {E sz n c i : Nat} {w : World} {row : Array Value} {xs vs D : List Value} (hi : i < n) (hc : n + 1 ≤ c) (hm : c ≤ maxLen) (hs : row.size = c * sz) (hv : vs.length = sz) (hD : D.length = (n - i) * sz) (ht : row.toList.take (i * sz) = xs) :
    RowLeft E sz w.heap.size (n + 1) w ((((w.alloc (.cells row E)).drew.setCells w.heap.size (i * sz) vs).drew).setCells w.heap.size ((i + 1) * sz) D) (.slice (some ⟨w.heap.size, 0, none⟩) (n + 1) c) (xs ++ vs ++ D) := by
  have hle : (n + 1) * sz ≤ row.size := by rw [hs]; exact Nat.mul_le_mul_right sz hc
  have ei : (i + 1) * sz = i * sz + sz := by rw [Nat.add_mul, Nat.one_mul]
  have e3 : (i + 1) * sz + (n - i) * sz = (n + 1) * sz := by rw [← Nat.add_mul]; congr 1; omega
  have hl0 : row.toList.length = row.size := Array.length_toList
  have hg : (w.alloc (.cells row E)).drew.heap[w.heap.size]? = some (.cells row E (0, 0)) := by
    show (w.heap.push (.cells row E))[w.heap.size]? = _
    simp
  obtain ⟨h1, h2, h3, h4, h5, h6⟩ := heap_setCells w.heap.size E vs (i * sz) _ row hg (by omega)
  have hp1 := putL_len (o := i * sz) (vs := vs) (L := row.toList) (by omega)
  obtain ⟨k1, k2, k3, k4, k5, k6⟩ := heap_setCells w.heap.size E D ((i + 1) * sz) (((w.alloc (.cells row E)).drew.setCells w.heap.size (i * sz) vs).drew) _ h1 (by rw [List.size_toArray, hp1]; omega)
  rw [List.toList_toArray] at k1
  have hp2 := putL_len (o := (i + 1) * sz) (vs := D) (L := putL (i * sz) vs row.toList) (by rw [hp1]; omega)
  refine ⟨k4.trans h4, k5.trans h5, k6.trans h6, ?_, fun g hg2 hne => ((k3 g hne).trans (h3 g hne)).trans (Below.heap_alloc w _ g hg2), w.heap.size, c, _, .inl rfl, rfl, k1, hc, hm, ?_, ?_⟩
  · rw [k2]
    show w.heap.size ≤ ((w.alloc (.cells row E)).drew.setCells w.heap.size (i * sz) vs).heap.size
    rw [h2]
    show w.heap.size ≤ (w.heap.push _).size
    rw [Array.size_push]; omega
  · rw [List.size_toArray, hp2, hp1, hl0, hs]
  · rw [List.toList_toArray, ← ht, ← e3, ei]
    exact putL_grow row.toList vs D (i * sz) sz ((n - i) * sz) hv hD (by omega)
theorem callsB_ins {P : Program} {F E sz : Nat} {cs vs : List Lf} {n i : Nat} (hsz : 0 < sz) (hcl : cs.length = n * sz) (hvl : vs.length = sz)
    (hmain : ∀ (w : World) (v1 : Value) (vb vc : Nat) (cur2 : Array Value) (xs ys : List Value), w.ownsRow 0 E sz v1 n xs → w.heap[vb]? = some (.cells cur2 E (0, 0)) → (∀ j y, ys[j]? = some y → w.cell? ⟨vb, j, none⟩ = some y) → ys.length = sz → ownOf v1 ≠ some vb →
      (∀ x ∈ xs, x.oneCell' = true) → (∀ y ∈ ys, y.oneCell' = true) →
      Calls P F #[v1, .int .i64 i, .slice (some ⟨vb, 0, none⟩) 1 vc] w fun e w' => ∃ v b, e = .returned v ∧ RowLeft E sz b (n + 1) w w' v (xs.take (i * sz) ++ ys ++ xs.drop (i * sz)) ∧ (ownOf v1 = some b ∨ w.heap.size ≤ b)) :
    CallsB P F [.arr E sz 0 cs, .arr E sz 0 vs] [.one (.ls 0 n), .one (.i .i64 (i : Int)), .one (.ls 1 1)] (fun y m' => y = .s (.one (.ls 0 (n + 1))) ∧ m' = [.arr E sz 0 (cs.take (i * sz) ++ vs ++ cs.drop (i * sz)), .dead]) := by
  intro w S H args hS hm hv
  obtain ⟨hl, hv⟩ := hv
  obtain ⟨v1, v2, v3, rfl⟩ : ∃ a b c, args = #[a, b, c] := by
    obtain ⟨l⟩ := args
    have h3 : l.length = 3 := hl.symm
    match l, h3 with
    | [a, b, c], _ => exact ⟨a, b, c, rfl⟩
  have g0 := hv 0 _ v1 rfl rfl
  have g1 := hv 1 _ v2 rfl rfl
  have g2 := hv 2 _ v3 rfl rfl
  obtain ⟨_, _, h0⟩ := (show GRep w S _ H (.ls 0 n) v1 from g0)
  have hv1 : v1 = H 0 := (h0 E sz 0 cs rfl).2 hcl.symm
  obtain ⟨_, _, h2⟩ := (show GRep w S _ H (.ls 1 1) v3 from g2)
  have hv3 : v3 = H 1 := (h2 E sz 0 vs rfl).2 (by rw [Nat.one_mul]; exact hvl.symm)
  have hv2 : v2 = .int .i64 i := by
    cases (show Rep w S (.i .i64 i) v2 from g1)
    rfl
  subst hv1 hv3 hv2
  obtain ⟨_, _, n0, xs, hown, hxs, _⟩ := hm.bl 0 _ rfl
  obtain ⟨_, _, m0, ys, hown2, hys, _⟩ := hm.bl 1 _ rfl
  have hn0 : n0 = n := ownsRow_n hown hsz (by rw [← hxs.1]; exact hcl.symm)
  have hm0 : m0 = 1 := ownsRow_n hown2 hsz (by rw [← hys.1, Nat.one_mul]; exact hvl.symm)
  subst hn0 hm0
  rcases hown2.2 with ⟨_, h⟩ | ⟨vb, vc, cur2, e2, _, hg2, hc2, _, hs2, ht2⟩
  · omega
  have hyl : ys.length = sz := by rw [← hys.1]; exact hvl
  have hlsO : ∀ {ls : List Lf} {us : List Value}, LsR (Rep w S) ls us → ∀ u ∈ us, u.oneCell' = true := fun {ls us} h u hu => by
    obtain ⟨j, hj⟩ := List.mem_iff_getElem?.1 hu
    have hjl : j < ls.length := by rw [h.1]; exact (List.getElem?_eq_some_iff.1 hj).1
    exact (h.2 j _ u (List.getElem?_eq_getElem hjl) hj).oneCell
  have hcell : ∀ j y, ys[j]? = some y → w.cell? ⟨vb, j, none⟩ = some y := fun j y hj => by
    unfold World.cell?
    rw [hg2]
    have hjl := (List.getElem?_eq_some_iff.1 hj).1
    rw [← ht2, List.getElem?_take] at hj
    split at hj
    · simpa using hj
    · cases hj
  have hown0 : ownOf (H 0) ≠ some vb := fun h => by
    have h1 : Blk.own (.arr E sz 0 vs) (H 1) = some vb := by rw [e2]; rfl
    have := hm.inj 0 1 _ _ vb rfl rfl h h1
    cases this
  have hpk : ∀ p g, p < 2 → H p ≠ .pointer (some ⟨g, 0, none⟩) := fun p g hp e => by
    match p, hp with
    | 0, _ => rcases hown.2 with ⟨h, _⟩ | ⟨_, _, _, h, _⟩ <;> (rw [h] at e; cases e)
    | 1, _ => rw [e2] at e; cases e
  rw [e2] at hown2 ⊢
  refine (hmain w (H 0) vb vc cur2 xs ys hown hg2 hcell hyl hown0 (hlsO hxs) (hlsO hys)).mono ?_
  rintro e w' ⟨v, b, rfl, r, hb⟩
  obtain ⟨G, cap, cur, hG, hve, hrow, hcn, hcm, hcs, hct⟩ := r.row
  have hSb : ∀ g j, S g j → g < w.heap.size ∧ g ≠ b := fun g j hs => by
    refine ⟨hS.1 g j hs, fun e => ?_⟩
    subst e
    rcases hb with h | h
    · have := hm.sb 0 _ g j rfl h hs
      exact Nat.not_lt_zero _ this
    · have := hS.1 g j hs; omega
  have hkeep : ∀ g j, S g j → S g j ∧ w'.cell? ⟨g, j, none⟩ = w.cell? ⟨g, j, none⟩ := fun g j hs => ⟨hs, World.cell?_of_block (w := w) (r.blk g (hSb g j hs).1 (hSb g j hs).2)⟩
  have hGS : ∀ j, ¬ S G j := fun j hs => by
    rcases hG with rfl | h
    · exact (hSb _ j hs).2 rfl
    · have := hS.1 G j hs; omega
  have hbX : ∀ g, g = b → g < w.heap.size → ownX [.arr E sz 0 cs, .arr E sz 0 vs] H g := fun g e hlt => by
    subst e
    rcases hb with h | h
    · exact ⟨0, _, rfl, h⟩
    · omega
  have hexists : ∃ o, w'.heap[G]? = some o := ⟨_, hrow⟩
  have hnl : (cs.take (i * sz) ++ vs ++ cs.drop (i * sz)).length = (n0 + 1) * sz := by
    simp only [List.length_append, List.length_take, List.length_drop, hvl, hcl, Nat.add_mul, Nat.one_mul]
    omega
  refine ⟨v, _, _, S, fun p => if p = 0 then v else H p, rfl, ⟨rfl, rfl⟩, ⟨r.os, r.tape, r.output, r.size, fun g hlt hx => r.blk g hlt (fun e => hx (hbX g e hlt)), fun _ _ h => h, fun g j hs => (hkeep g j hs).2, fun _ _ _ _ h => h⟩,
    hS.turn r.size (fun g j hs => (hkeep g j hs).2), ⟨?_, ?_, ?_, ?_⟩, ?_, ⟨show 2 ≤ 2 by decide, fun p g hp h => absurd h (hpk p g hp), fun p e' sz' k cs' hp h => ?_, fun p hp hne => ?_⟩, ?_⟩
  · intro p bb hbb
    match p, hbb with
    | 1, hbb => cases hbb; trivial
    | 0, hbb =>
      cases hbb
      refine ⟨hsz, Nat.zero_le _, n0 + 1, xs.take (i * sz) ++ ys ++ xs.drop (i * sz), ⟨?_, .inr ⟨G, cap, cur, hve, Nat.zero_le _, hrow, hcn, hcm, hcs, hct⟩⟩, ?_, fun _ _ _ h => absurd h (Nat.not_lt_zero _)⟩
      · have : xs.length = n0 * sz := by rw [← hxs.1]; exact hcl
        simp only [List.length_append, List.length_take, List.length_drop, hyl, this, Nat.add_mul, Nat.one_mul]
        omega
      · have key : ∀ {l1 l2 : List Lf} {u1 u2 : List Value}, LsR (Rep w' S) l1 u1 → LsR (Rep w' S) l2 u2 → LsR (Rep w' S) (l1 ++ l2) (u1 ++ u2) := fun {l1 l2 u1 u2} h1 h2 => by
          refine ⟨by rw [List.length_append, List.length_append, h1.1, h2.1], fun j l u hl hu => ?_⟩
          rw [List.getElem?_append] at hl hu
          rw [h1.1] at hl
          split at hl
          · next hj => rw [if_pos hj] at hu; exact h1.2 j l u hl hu
          · next hj => rw [if_neg hj] at hu; exact h2.2 _ l u hl hu
        have hx' : LsR (Rep w' S) cs xs := hxs.mono fun _ _ => Rep.mono hkeep
        have hy' : LsR (Rep w' S) vs ys := hys.mono fun _ _ => Rep.mono hkeep
        refine key (key ⟨by rw [List.length_take, List.length_take, hx'.1], fun j l u hl hu => ?_⟩ hy') ⟨by rw [List.length_drop, List.length_drop, hx'.1], fun j l u hl hu => ?_⟩
        · rw [List.getElem?_take] at hl hu
          split at hl
          · next hj => rw [if_pos hj] at hu; exact hx'.2 j l u hl hu
          · cases hl
        · rw [List.getElem?_drop] at hl hu
          exact hx'.2 _ l u hl hu
    | p + 2, hbb => cases hbb
  · intro p bb g hbb ho
    match p, hbb with
    | 1, hbb => cases hbb; cases ho
    | 0, hbb =>
      cases hbb
      have : some G = some g := by rw [← ho]; show _ = ownOf v; rw [hve]; rfl
      cases this
      exact (Array.getElem?_eq_some_iff.1 hrow).1
    | p + 2, hbb => cases hbb
  · intro p q b1 b2 g h1 h2 o1 o2
    match p, q, h1, h2 with
    | 1, _, h1, _ => cases h1; cases o1
    | 0, 1, _, h2 => cases h2; cases o2
    | 0, 0, _, _ => rfl
    | 0, q + 2, _, h2 => cases h2
    | p + 2, _, h1, _ => cases h1
  · intro p bb g j hbb ho hs
    match p, hbb with
    | 1, hbb => cases hbb; cases ho
    | 0, hbb =>
      cases hbb
      have : some G = some g := by rw [← ho]; show _ = ownOf v; rw [hve]; rfl
      cases this
      exact absurd hs (hGS j)
    | p + 2, hbb => cases hbb
  · intro p bb g hbb ho
    match p, hbb with
    | 1, hbb => cases hbb; cases ho
    | 0, hbb =>
      cases hbb
      have : some G = some g := by rw [← ho]; show _ = ownOf v; rw [hve]; rfl
      cases this
      rcases hG with h | h
      · by_cases hlt : G < w.heap.size
        · exact .inr (hbX G h hlt)
        · exact .inl (by omega)
      · exact .inl h
    | p + 2, hbb => cases hbb
  · match p, hp, h with
    | 0, _, h =>
      cases h
      exact ⟨0, cs, rfl, .inr (by rw [hnl, hcl]; exact Nat.mul_lt_mul_of_pos_right (Nat.lt_succ_self _) hsz)⟩
    | 1, _, h => cases h
  · match p, hp, hne with
    | 0, _, _ => show v ≠ undef; rw [hve]; exact fun h => by cases h
    | 1, _, hne => exact hne
  · show GRep0 w' S [.arr E sz 0 (cs.take (i * sz) ++ vs ++ cs.drop (i * sz)), .dead] (fun p => if p = 0 then v else H p) (.ls 0 (n0 + 1)) v
    refine ⟨show 0 < 2 by decide, ⟨by rw [hve]; rfl, by show v ≠ undef; rw [hve]; exact fun h => by cases h⟩, fun e' sz' k cs' h => ?_⟩
    cases h
    exact ⟨Nat.le_of_eq hnl.symm, fun _ => rfl⟩
section
variable {P : Program} {c : Ctx} {Q : Exit → AS → Prop} {t : Nat → AV} {m : List Blk}
theorem clabel {l : Nat} (h : Q .normal ⟨t, m⟩) : AWC P c (.label l) Q ⟨t, m⟩ := fun _ _ S H r => wp_label ⟨⟨t, m⟩, S, H, r, h⟩
theorem cscope {x : Code} (hg : ∀ l st, ¬ Q (.goto l) st) (h : AWC P c x Q ⟨t, m⟩) : AWC P c (.scope x) Q ⟨t, m⟩ := fun a w S H r =>
  wp_scope_straight (wp_mono (h a w S H r) fun e a' w' hq => by
    cases e with
    | goto l =>
      obtain ⟨st, S', H', hr, hq⟩ := hq
      exact absurd hq (hg l _)
    | _ => exact hq)
end
def insM {α : Type} (by_ : Nat) (xs : List α) (i : Int) (vs : List α) : Option (List α) := match vs with
  | [x] => if (0 ≤ i ∧ i ≤ (xs.length : Int)) ∧ (xs.length + 1) * by_ ≤ 140737488355328 then some (xs.take i.toNat ++ x :: xs.drop i.toNat) else none
  | _ => none
theorem insM_c {P : Program} {F E sz by_ : Nat} {α : Type} {f : α → List Lf} (hf : ∀ x, (f x).length = sz) (hB : ∀ {cs vs : List Lf} {n i : Nat}, cs.length = n * sz → vs.length = sz → i ≤ n → (n + 1) * by_ ≤ 140737488355328 →
      CallsB P F [.arr E sz 0 cs, .arr E sz 0 vs] [.one (.ls 0 n), .one (.i .i64 (i : Int)), .one (.ls 1 1)] (fun y m' => y = .s (.one (.ls 0 (n + 1))) ∧ m' = [.arr E sz 0 (cs.take (i * sz) ++ vs ++ cs.drop (i * sz)), .dead]))
    {xs : List α} {i : Int} {vs r : List α} (h : insM by_ xs i vs = some r) :
    CallsB P F [.arr E sz 0 (xs.flatMap f), .arr E sz 0 (vs.flatMap f)] [.one (.ls 0 xs.length), .one (.i .i64 i), .one (.ls 1 vs.length)] (fun y m' => y = .s (.one (.ls 0 r.length)) ∧ m' = [.arr E sz 0 (r.flatMap f), .dead]) := by
  unfold insM at h
  match vs, h with
  | [x], h =>
    obtain ⟨⟨⟨h0, h1⟩, h2⟩, h⟩ := chk_eq h
    obtain rfl := Option.some.inj h
    have hb := hB (cs := xs.flatMap f) (vs := [x].flatMap f) (n := xs.length) (i := i.toNat) (flat_len hf xs) (by rw [flat_len hf, List.length_singleton, Nat.one_mul]) (by omega) h2
    rw [Int.toNat_of_nonneg h0] at hb
    refine hb.mono ?_
    rintro y m' ⟨rfl, rfl⟩
    have e1 : (xs.take i.toNat ++ x :: xs.drop i.toNat).length = xs.length + 1 := by
      rw [List.length_append, List.length_cons, List.length_take, List.length_drop]; omega
    rw [e1]
    refine ⟨rfl, ?_⟩
    rw [List.flatMap_append, flat_take hf, List.flatMap_cons, flat_drop hf, ← List.append_assoc]
    simp
theorem Rel.fillRow {c : Ctx} {t : Nat → AV} {m : List Blk} {a : Act} {w w' : World} {S S' : Stab} {H H' : Nat → Value} (r : Rel c ⟨t, m⟩ a w S H) {p : Nat} (hm : m[p]? = some .hole) (hp0 : c.m0.length ≤ p) {e sz : Nat} {cs : List Lf}
    (hx : Ext w S w' S') (hin : InH w' S') (mem : Mem w' S' [.arr e sz 0 cs] H') (hown : ∀ g, ownOf (H' 0) = some g → w.heap.size ≤ g) :
    Rel c ⟨t, m.set p (.arr e sz 0 cs)⟩ a w' S' (setH H p (H' 0)) := by
  have hp : p < m.length := (List.getElem?_eq_some_iff.1 hm).1
  have hH : H p = undef := r.bl p _ hm
  obtain ⟨hsz, hk, n, vals, h1, h2, h3⟩ := mem.bl 0 _ rfl
  refine r.changeH (p := p) (b' := .arr e sz 0 cs) (v := H' 0) (by simp) (List.getElem?_set_self hp) (fun q hq => List.getElem?_set_ne (fun e => hq e.symm)) (hx.keeps r.sl) (fun g _ h => (undef_ne (hH.symm.trans h)).elim)
    (fun e sz k cs _ h _ => by rcases h with h | h; exact absurd hH h; omega) (fun g hg _ => hx.blk g hg) ⟨hsz, Nat.zero_le _, n, vals, h1, h2, fun _ _ _ h => absurd h (Nat.not_lt_zero _)⟩ (fun g hg => ?_)
    (fun q b g i _ hb ho hs => hx.back g i (r.lo q b g hb ho).2 hs) (fun g i hg _ hs => hx.back g i (Nat.lt_of_lt_of_le hg r.ex.size) hs) hin hx.size hx.os hx.tape hx.output
  have hge := hown g hg
  refine ⟨.inl (Nat.le_trans r.ex.size hge), mem.hp 0 _ g rfl hg, fun q b _ hb ho => ?_, fun i hs => mem.sb 0 _ g i rfl hg hs⟩
  have := (r.lo q b g hb ho).2
  omega
section
variable {P : Program} {c : Ctx} {t : Nat → AV} {M : List Blk} {ops : Array Oper} {Q : Exit → AS → Prop} {rest : List Oper} {ty : TypeId} {pos : String} {af : Array Edge} {d : Tmp}
theorem scallB_at {callee : Operand} {f : FuncId} {args : Array Operand} {ats : Array TypeId} {xs : List SV} {e sz n : Nat} {cs : List Lf} {α : Type} {g : α → List Lf} {ys : List α} (p : Nat) (hd : decide (d < c.nt) = true) (hf : FnI P f) (hcal : Cal ⟨t, M⟩ callee f [] []) (ho : Opnds ⟨t, M⟩ args.toList xs)
    (hc : CallsB P f [] xs (fun y m' => y = .s (.one (.ls 0 n)) ∧ m' = [.arr e sz 0 cs])) (hpub : xs.all (fun x => x.inbB 0) = true) (hg : ∀ x, (g x).length = sz) (hcs : cs = ys.flatMap g) (hn : n = ys.length) (hm : M[p]? = some .hole) (hp0 : Nat.ble c.m0.length p = true)
    (k : AWL P c ops Q rest ⟨upd t d (.s (.one (.ls p n))), M.set p (.arr e sz 0 cs)⟩) : AWL P c ops Q (⟨some d, .call { callee := .value callee, args := args, argTypes := ats }, ty, pos, af, none⟩ :: rest) ⟨t, M⟩ := by
  subst hcs hn
  intro a w S H r
  obtain ⟨vs, hvs, hrun⟩ := callB_run (pos := pos) (af := af) (ty := ty) (ats := ats) r hf hcal ho (some d)
  refine wpList_plain rfl fun K hK => ?_
  unfold Oper.wp
  rw [hrun]
  have hvs' : SvsR (GRep w S [] H) xs vs.toList := by
    have tie : Tie [] M H H (fun j => j) := ⟨fun p h => absurd h (Nat.not_lt_zero _), fun _ _ => rfl, fun p b h => by cases h⟩
    have e : xs.map (SV.ren (fun j => j)) = xs := by
      have hl : ∀ l : Lf, l.ren0 (fun j => j) = l := fun l => by cases l <;> rfl
      have hl2 : ∀ l : Lf, l.ren (fun j => j) = l := fun l => by
        cases l with
        | fn f a b =>
          show Lf.fn f (a.map _) (b.map _) = _
          rw [show (Lf.ren0 fun j => j) = id from funext hl, List.map_id, List.map_id]
        | _ => rfl
      have hs : ∀ x : SV, x.ren (fun j => j) = x := fun x => by
        cases x with
        | one l => show SV.one _ = _; rw [hl2]
        | agg ls => show SV.agg _ = _; rw [show (Lf.ren fun j => j) = id from funext hl2, List.map_id]
      rw [show (SV.ren fun j => j) = id from funext hs, List.map_id]
    exact tie.svsDown hpub (by rw [e]; simpa using hvs)
  refine (hc w S H vs r.sl ⟨fun p b h => by simp at h, fun p b g h => by simp at h, fun p q b b' g h => by simp at h, fun p b g i h => by simp at h⟩ hvs').mono ?_
  rintro e' w' ⟨v, y, m', S', H', rfl, ⟨rfl, rfl⟩, ext, hin, mem', hown', _, hav⟩
  have hx : Ext w S w' S' := ext.toExt (fun b ⟨q, bb, h, _⟩ => by simp at h)
  have r' := r.fillRow hm (Nat.le_of_ble_eq_true hp0) hx hin mem' (fun g hg => by
    rcases hown' 0 _ g rfl hg with h | ⟨q, bb, h, _⟩
    · exact h
    · simp at h)
  have hp : p < M.length := (List.getElem?_eq_some_iff.1 hm).1
  obtain ⟨_, ho1, hv⟩ := (show GRep0 w' S' [.arr e sz 0 (ys.flatMap g)] H' (.ls 0 ys.length) v from hav)
  have hvH := (hv e sz 0 _ rfl).2 (flat_len hg ys).symm
  refine hK _ _ (k _ _ _ _ (r'.put (of_decide_eq_true hd) ?_))
  show GRep0 w' S' (M.set p (.arr e sz 0 (ys.flatMap g))) (setH H p (H' 0)) (.ls p ys.length) v
  refine ⟨by simpa using hp, ⟨ho1.1, by rw [setH_same]; exact ho1.2⟩, fun e2 sz2 k2 cs2 h2 => ?_⟩
  rw [List.getElem?_set_self hp] at h2
  cases h2
  exact ⟨Nat.le_of_eq (flat_len hg ys).symm, fun _ => by rw [setH_same]; exact hvH⟩
end
end Go.Proofs.Ytbojepclnfnmcaa.Abs

/-
  What arguments of each kind are.
-/
namespace Go.Proofs.Ytbojepclnfnmcaa.Abs
open Go.RowKit
theorem ft_i64 {ls : List Lf} (h : Fits (.int .i64) ls) : ∃ n : Int, (-9223372036854775808 ≤ n ∧ n ≤ 9223372036854775807) ∧ ls = eI n := by
  obtain ⟨n, hw, rfl⟩ := h
  exact ⟨n, lit_i64 hw, rfl⟩
theorem lit_un {k : IntKind} {n : Int} (h : (Lit.int k n).wf = true) : k.min ≤ n ∧ n ≤ k.max := by
  simp only [Lit.wf, Bool.and_eq_true, decide_eq_true_eq] at h
  exact h
theorem ft_u8 {ls : List Lf} (h : Fits (.int .u8) ls) : ∃ a : UInt8, True ∧ ls = eU8 a := by
  obtain ⟨n, hw, rfl⟩ := h
  obtain ⟨h1, h2⟩ := lit_un hw
  simp [IntKind.min, IntKind.max, IntKind.bits, IntKind.signed] at h1 h2
  refine ⟨UInt8.ofNat n.toNat, trivial, ?_⟩
  show _ = [Lf.i .u8 _]
  rw [show ((UInt8.ofNat n.toNat).toNat : Int) = n by rw [UInt8.toNat_ofNat']; omega]
theorem ft_b8 {ls : List Lf} (h : Fits (.int .u8) ls) : ∃ a : BitVec 8, True ∧ ls = [.i .u8 (a.toNat : Int)] := by
  obtain ⟨a, _, rfl⟩ := ft_u8 h
  exact ⟨a.toBitVec, trivial, rfl⟩
theorem ft_u16 {ls : List Lf} (h : Fits (.int .u16) ls) : ∃ a : BitVec 16, True ∧ ls = eU16 a := by
  obtain ⟨n, hw, rfl⟩ := h
  obtain ⟨h1, h2⟩ := lit_un hw
  simp [IntKind.min, IntKind.max, IntKind.bits, IntKind.signed] at h1 h2
  refine ⟨BitVec.ofNat 16 n.toNat, trivial, ?_⟩
  show _ = [Lf.i .u16 _]
  rw [show ((BitVec.ofNat 16 n.toNat).toNat : Int) = n by rw [BitVec.toNat_ofNat]; omega]
theorem ft_u32 {ls : List Lf} (h : Fits (.int .u32) ls) : ∃ a : BitVec 32, True ∧ ls = eU32 a := by
  obtain ⟨n, hw, rfl⟩ := h
  obtain ⟨h1, h2⟩ := lit_un hw
  simp [IntKind.min, IntKind.max, IntKind.bits, IntKind.signed] at h1 h2
  refine ⟨BitVec.ofNat 32 n.toNat, trivial, ?_⟩
  show _ = [Lf.i .u32 _]
  rw [show ((BitVec.ofNat 32 n.toNat).toNat : Int) = n by rw [BitVec.toNat_ofNat]; omega]
theorem ft_u64 {ls : List Lf} (h : Fits (.int .u64) ls) : ∃ a : BitVec 64, True ∧ ls = eU64 a := by
  obtain ⟨n, hw, rfl⟩ := h
  obtain ⟨h1, h2⟩ := lit_un hw
  simp [IntKind.min, IntKind.max, IntKind.bits, IntKind.signed] at h1 h2
  refine ⟨BitVec.ofNat 64 n.toNat, trivial, ?_⟩
  show _ = [Lf.i .u64 _]
  rw [show ((BitVec.ofNat 64 n.toNat).toNat : Int) = n by rw [BitVec.toNat_ofNat]; omega]
theorem ft_bool {ls : List Lf} (h : Fits .bool ls) : ∃ b : Bool, True ∧ ls = eB b := by
  obtain ⟨b, rfl⟩ := h
  exact ⟨b, trivial, rfl⟩
theorem ft_str {ls : List Lf} (h : Fits .str ls) : ∃ s : List UInt8, s.length ≤ maxLen ∧ ls = eS s := by
  obtain ⟨s, hs, rfl⟩ := h
  exact ⟨s.data.toList, by simpa using hs, by simp [eS]⟩
theorem ft_sl {α : Type} {e : Sh} {f : α → List Lf} {Q : α → Prop} (he : ∀ {r}, Fits e r → ∃ x, Q x ∧ r = f x) {ls : List Lf} (h : Fits (.sl e) ls) : ∃ xs : List α, (xs.length ≤ maxLen ∧ ∀ x ∈ xs, Q x) ∧ ls = eL f xs := by
  obtain ⟨rows, hl, hr, rfl⟩ := h
  have : ∃ xs : List α, (∀ x ∈ xs, Q x) ∧ rows = xs.map f := by
    clear hl
    induction rows with
    | nil => exact ⟨[], fun _ h => by simp at h, rfl⟩
    | cons r rs ih =>
      obtain ⟨x, hq, hx⟩ := he (hr r (List.mem_cons_self ..))
      obtain ⟨xs, hqs, hxs⟩ := ih (fun r h => hr r (List.mem_cons_of_mem _ h))
      exact ⟨x :: xs, fun y hy => by rcases List.mem_cons.1 hy with rfl | hy; exact hq; exact hqs y hy, by rw [hx, hxs]; rfl⟩
  obtain ⟨xs, hq, rfl⟩ := this
  exact ⟨xs, ⟨by simpa using hl, hq⟩, by rw [eL, List.flatMap, List.length_map]⟩
end Go.Proofs.Ytbojepclnfnmcaa.Abs

/-
  How rounds are reckoned with.
-/
namespace Go.Proofs.Ytbojepclnfnmcaa.Abs
theorem wI_id {n : Int} (h1 : -9223372036854775808 ≤ n) (h2 : n ≤ 9223372036854775807) : wI n = n := by
  unfold wI IntKind.wrap
  simp [IntKind.bits, IntKind.signed]
  omega
theorem lt_fuel {n : Nat} (h : n ≤ 1000000000000000000) : n < fuel := by unfold fuel; omega
theorem idx_nat {α : Type} (xs : List α) (i : Nat) : idx xs (i : Int) = xs[i]? := by
  unfold idx
  rw [if_pos (Int.natCast_nonneg i), Int.toNat_natCast]
theorem idx_of {α : Type} {xs : List α} {j : Int} {x : α} (h0 : 0 ≤ j) (h : xs[j.toNat]? = some x) : idx xs j = some x := by
  unfold idx
  rw [if_pos h0, h]
theorem cut_of {α : Type} {xs : List α} {lo hi : Int} (h0 : 0 ≤ lo) (h1 : lo ≤ hi) (h2 : hi ≤ xs.length) : cut xs lo hi = some ((xs.drop lo.toNat).take (hi.toNat - lo.toNat)) := by
  unfold cut
  rw [if_pos ⟨h0, h1, h2⟩]
theorem iterB_inv {σ β : Type} {f : σ → Option (LB σ β)} {P : σ → Prop} {μ : σ → Nat} {R : β → Prop}
    (h : ∀ s, P s → (∃ s', f s = some (.cont s') ∧ P s' ∧ μ s' < μ s) ∨ ∃ b, f s = some (.brk b) ∧ R b) : ∀ (n : Nat) (s : σ), P s → μ s < n → ∃ b, iterB f n s = some b ∧ R b
  | 0, s, _, hm => by omega
  | n + 1, s, hp, hm => by
    rcases h s hp with ⟨s', hf, hp', hlt⟩ | ⟨b, hf, hr⟩
    · obtain ⟨b, hb, hr⟩ := iterB_inv h n s' hp' (by omega)
      exact ⟨b, by rw [iterB, hf]; exact hb, hr⟩
    · exact ⟨b, by rw [iterB, hf], hr⟩
theorem iter_inv {σ β ρ : Type} {f : σ → Option (LR σ β ρ)} {P : σ → Prop} {μ : σ → Nat} {R : Sum ρ β → Prop}
    (h : ∀ s, P s → (∃ s', f s = some (.cont s') ∧ P s' ∧ μ s' < μ s) ∨ (∃ b, f s = some (.brk b) ∧ R (.inr b)) ∨ ∃ r, f s = some (.ret r) ∧ R (.inl r)) : ∀ (n : Nat) (s : σ), P s → μ s < n → ∃ b, iter f n s = some b ∧ R b
  | 0, s, _, hm => by omega
  | n + 1, s, hp, hm => by
    rcases h s hp with ⟨s', hf, hp', hlt⟩ | ⟨b, hf, hr⟩ | ⟨b, hf, hr⟩
    · obtain ⟨b, hb, hr⟩ := iter_inv h n s' hp' (by omega)
      exact ⟨b, by rw [iter, hf]; exact hb, hr⟩
    · exact ⟨.inr b, by rw [iter, hf], hr⟩
    · exact ⟨.inl b, by rw [iter, hf], hr⟩
end Go.Proofs.Ytbojepclnfnmcaa.Abs

