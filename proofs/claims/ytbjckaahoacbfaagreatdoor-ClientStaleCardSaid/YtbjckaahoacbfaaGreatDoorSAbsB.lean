/- . -/
import Derived.Test.YtbjckaahoacbfaaGreatDoorSAbsA
import Derived.Laws.Externs
import Derived.Lib.BytesEntry
import GoSem.Core.View
import Derived.Lib.AppendZeros
import Derived.Laws.Cover3
import Derived.Laws.StructEq
import Derived.ProofKit
import Derived.LaidMore
import Derived.OpenShut
import Derived.MakeChecks
import Derived.RangeFuncOwn
import Derived.OrdersIn
set_option linter.unusedVariables false
set_option linter.unusedSimpArgs false
namespace Go.Proofs.YtbjckaahoacbfaaGreatDoor.Abs
open Go.RowKit
structure Aw0 (ops : Array Oper) (i0 : Nat) : Prop where
 dst : ∀ (i : Nat) (o : Oper), ops[i]? = some o → i ≠ i0 → ∃ d, o.dst = some d
 lt : ∀ (i : Nat) (o : Oper), ops[i]? = some o → ∀ e ∈ o.after, Region.binds .any e = true → e.on < i
 ne : ∀ (i : Nat) (o : Oper) (j : Nat) (p : Oper), ops[i]? = some o → ops[j]? = some p → i ≠ j → o.dst ≠ p.dst
 ed : ∀ (i : Nat) (o : Oper) (j : Nat) (p : Oper) (d : Tmp), ops[i]? = some o → ops[j]? = some p → p.dst = some d → d ∈ o.looksAt ops → ∃ e ∈ o.after, e.on = j ∧ Region.binds .any e = true
structure Wx (ops : Array Oper) : Prop where
 lt : ∀ (i : Nat) (o : Oper), ops[i]? = some o → ∀ e ∈ o.after, Region.binds .any e = true → e.on < i
 ne : ∀ (i : Nat) (o : Oper) (j : Nat) (p : Oper), ops[i]? = some o → ops[j]? = some p → i ≠ j → ∀ d, o.dst = some d → p.dst ≠ some d
 ed : ∀ (i : Nat) (o : Oper) (j : Nat) (p : Oper) (d : Tmp), ops[i]? = some o → ops[j]? = some p → p.dst = some d → d ∈ o.looksAt ops → ∃ e ∈ o.after, e.on = j ∧ Region.binds .any e = true
structure Abt (md M : List Blk) : Prop where
 len : md.length = M.length
 at_ : ∀ (p : Nat) (b : Blk), md[p]? = some b → b = .dead ∨ M[p]? = some b
 arr : ∀ (p : Nat) (e sz k : Nat) (cs : List Lf), M[p]? = some (.arr e sz k cs) → md[p]? = some (.arr e sz k cs)
theorem Abt.up {md M : List Blk} (h : Abt md M) {w : World} {S : Dh} {H : Nat → Value} {l : Lf} {v : Value} (g : C9 w S md H l v) : C9 w S M H l v :=
 C9.mono (fun _ _ hs => ⟨hs, rfl⟩) (Nat.le_of_eq h.len) (fun _ _ => rfl) (fun p e sz k cs _ hm => ⟨k, cs, h.arr p e sz k cs hm, rfl⟩) g
theorem Abt.down {md M : List Blk} (h : Abt md M) {w : World} {S : Dh} {H : Nat → Value} {l : Lf} {v : Value} (g : C9 w S M H l v) : C9 w S md H l v := by
 refine C9.mono (fun _ _ hs => ⟨hs, rfl⟩) (Nat.le_of_eq h.len.symm) (fun _ _ => rfl) (fun p e sz k cs _ hm => ⟨k, cs, ?_, rfl⟩) g
 rcases h.at_ p _ hm with h | h
 ·cases h
 ·exact h
theorem Rel.down {c : Ctx} {t : Nat → AV} {md M : List Blk} {a : Act} {w : World} {S : Dh} {H : Nat → Value} (h : Abt md M) (r : Rel c ⟨t, M⟩ a w S H) : Rel c ⟨t, md⟩ a w S H := by
 refine ⟨r.nt, r.df, fun i => AVR.mono (fun l v => h.down) (r.tm i), fun p b hb => ?_, fun p b g hb ho => ?_, fun p q b b' g hb hb' ho ho' => ?_, fun p b g i hb ho hs => ?_, r.sl, r.ex, (by have := r.kl; have := h.len; simp only at *; omega), r.kh, fun p e sz k cs hp hm => ?_, r.ku⟩
 ·rcases h.at_ p b hb with rfl | hb'
  ·trivial
  ·have := r.bl p b hb'
   cases b with
   | dead => trivial
   | hole => exact this
   | obj g mk cs => exact this
   | tab mk cs => exact this
   | box cs =>
    obtain ⟨g, e, cur, h1, h2, h3⟩ := this
    exact ⟨g, e, cur, h1, h2, h3.mono (fun l v => h.down)⟩
   | arr e sz k cs => exact this
 ·rcases h.at_ p b hb with rfl | hb'
  ·cases ho
  ·exact r.lo p b g hb' ho
 ·rcases h.at_ p b hb with rfl | hb1
  ·cases ho
  ·rcases h.at_ q b' hb' with rfl | hb2
   ·cases ho'
   ·exact r.inj p q b b' g hb1 hb2 ho ho'
 ·rcases h.at_ p b hb with rfl | hb'
  ·cases ho
  ·exact r.sb p b g i hb' ho hs
 ·rcases h.at_ p _ hm with h | h
  ·cases h
  ·exact r.kr p e sz k cs hp h
section
variable {P : Program} {c : Ctx} {t : Nat → AV} {m : List Blk} {Q : Exit → AS → Prop}
theorem Akv {ops : Array Oper} (hok : Wx ops) {T : Nat → AV} {listed : Array Bool} {i : Nat} {o : Oper} {d : Tmp} (hsz : listed.size = ops.size) (hget : ops[i]? = some o) (hun' : listed.getD i true = false) (hd : o.dst = some d) :
  upd (TL ops T listed) d (T d) = TL ops T (listed.setIfInBounds i true) := by
 have hio : i < ops.size := (Array.getElem?_eq_some_iff.1 hget).1
 funext x
 rw [H2]
 by_cases hx : x = d
 ·subst hx
  rw [if_pos rfl]
  unfold TL
  rw [if_neg]
  rintro ⟨j, p, hj, hpd, hl⟩
  by_cases hij : i = j
  ·subst hij
   simp only [Array.getD_eq_getD_getElem?, Array.getElem?_setIfInBounds_self_of_lt (by omega : i < listed.size), Option.getD_some] at hl
   cases hl
  ·exact hok.ne i o j p hget hj hij _ hd hpd
 ·rw [if_neg hx]
  unfold TL
  by_cases hex : ∃ (j : Nat) (p : Oper), ops[j]? = some p ∧ p.dst = some x ∧ listed.getD j true = false
  ·rw [if_pos hex]
   obtain ⟨j, p, hj, hpd, hl⟩ := hex
   rw [if_pos]
   refine ⟨j, p, hj, hpd, ?_⟩
   have hij : i ≠ j := by
    intro e; subst e
    rw [hget] at hj
    cases hj
    rw [hd] at hpd
    cases hpd
    exact hx rfl
   simp only [Array.getD_eq_getD_getElem?, Array.getElem?_setIfInBounds_ne hij]
   simpa [Array.getD_eq_getD_getElem?] using hl
  ·rw [if_neg hex, if_neg]
   rintro ⟨j, p, hj, hpd, hl⟩
   refine hex ⟨j, p, hj, hpd, ?_⟩
   by_cases hij : i = j
   ·subst hij; exact hun'
   ·simp only [Array.getD_eq_getD_getElem?, Array.getElem?_setIfInBounds_ne hij] at hl
    simpa [Array.getD_eq_getD_getElem?] using hl
theorem Ze {ops : Array Oper} {T : Nat → AV} {listed : Array Bool} {i : Nat} {o : Oper} (hget : ops[i]? = some o) (hd : o.dst = none) :
  TL ops T listed = TL ops T (listed.setIfInBounds i true) := by
 funext x
 unfold TL
 have : (∃ (j : Nat) (p : Oper), ops[j]? = some p ∧ p.dst = some x ∧ listed.getD j true = false) ↔ (∃ (j : Nat) (p : Oper), ops[j]? = some p ∧ p.dst = some x ∧ (listed.setIfInBounds i true).getD j true = false) := by
  constructor
  ·rintro ⟨j, p, hj, hp, hl⟩
   have hij : i ≠ j := by intro e; subst e; rw [hget] at hj; cases hj; rw [hd] at hp; cases hp
   exact ⟨j, p, hj, hp, by simp only [Array.getD_eq_getD_getElem?, Array.getElem?_setIfInBounds_ne hij]; simpa [Array.getD_eq_getD_getElem?] using hl⟩
  ·rintro ⟨j, p, hj, hp, hl⟩
   have hij : i ≠ j := by intro e; subst e; rw [hget] at hj; cases hj; rw [hd] at hp; cases hp
   exact ⟨j, p, hj, hp, by simp only [Array.getD_eq_getD_getElem?, Array.getElem?_setIfInBounds_ne hij] at hl; simpa [Array.getD_eq_getD_getElem?] using hl⟩
 by_cases h : ∃ (j : Nat) (p : Oper), ops[j]? = some p ∧ p.dst = some x ∧ listed.getD j true = false
 ·rw [if_pos h, if_pos (this.1 h)]
 ·rw [if_neg h, if_neg (fun h' => h (this.2 h'))]
def Met (listed : Array Bool) (o : Oper) : Prop := ∀ e ∈ o.after, Region.binds .any e = true → listed.getD e.on false = true
theorem Ad4 {ops : Array Oper} (hok : Wx ops) {T : Nat → AV} {listed : Array Bool} {i : Nat} {o : Oper} (hsz : listed.size = ops.size) (hget : ops[i]? = some o) (hmet : Met listed o) : ∀ y ∈ o.looksAt ops, TL ops T listed y = T y := by
 intro y hy
 unfold TL
 rw [if_neg]
 rintro ⟨j, p, hj, hpd, hl⟩
 obtain ⟨e, he, heo, hbind⟩ := hok.ed i o j p y hget hj hpd hy
 have h1 := hmet e he hbind
 rw [heo] at h1
 have hjl : j < ops.size := (Array.getElem?_eq_some_iff.1 hj).1
 simp only [Array.getD_eq_getD_getElem?] at h1 hl
 rw [Array.getElem?_eq_getElem (by omega)] at h1 hl
 simp only [Option.getD_some] at h1 hl
 rw [h1] at hl
 cases hl
def At4 (P : Program) (c : Ctx) (ops : Array Oper) (T : Nat → AV) (B : Array Bool → List Blk) (HI : Array Bool → (Nat → Value) → Prop) (i : Nat) (o : Oper) : Prop :=
 Al3 ops T o ∧ ∀ listed : Array Bool, listed.size = ops.size → listed.getD i true = false → Met listed o → ∀ a w S H, Rel c ⟨TL ops T listed, B listed⟩ a w S H → HI listed H → ∀ (K : Act → World → Prop) (Q : Exit → Act → World → Prop),
  (∀ a' w' S' H', Rel c ⟨TL ops T (listed.setIfInBounds i true), B (listed.setIfInBounds i true)⟩ a' w' S' H' → HI (listed.setIfInBounds i true) H' → K a' w') → Oper.wp P o a w K Q
def Aot (P : Program) (c : Ctx) (ops : Array Oper) (T : Nat → AV) (B : Array Bool → List Blk) (HI : Array Bool → (Nat → Value) → Prop) (i : Nat) (o : Oper) : Prop :=
 ∀ (listed : Array Bool) (H : Nat → Value), listed.size = ops.size → listed.getD i true = false → Met listed o → HI listed H →
  ∃ md, (∃ d, o.dst = some d ∧ d < c.nt ∧ Tn P c md ops T o (T d)) ∧ Abt md (B listed) ∧ B (listed.setIfInBounds i true) = B listed ∧ HI (listed.setIfInBounds i true) H
theorem Amv {ops : Array Oper} (hok : Wx ops) {T : Nat → AV} {B : Array Bool → List Blk} {HI : Array Bool → (Nat → Value) → Prop} (hT : ∀ (i : Nat) (o : Oper), ops[i]? = some o → Aot P c ops T B HI i o ∨ At4 P c ops T B HI i o)
  (hQ : ∀ listed : Array Bool, listed.size = ops.size → (∀ i, i < ops.size → listed.getD i true = true) → Q .normal ⟨T, B listed⟩) :
  ∀ (fuel : Nat) (listed : Array Bool) (a : Act) (w : World) (S : Dh) (H : Nat → Value), listed.size = ops.size → (List.range ops.size).countP (fun i => !listed.getD i true) ≤ fuel →
   Rel c ⟨TL ops T listed, B listed⟩ a w S H → HI listed H → wpAny P .any ops (QR c Q) fuel listed a w := by
 have done : ∀ (listed : Array Bool) (a : Act) (w : World) (S : Dh) (H : Nat → Value), listed.size = ops.size → Region.ready .any ops listed = [] → Rel c ⟨TL ops T listed, B listed⟩ a w S H → QR c Q .normal a w := by
  intro listed a w S H hsz hr r
  have hall : ∀ n i, i < n → i < ops.size → listed.getD i true = true := by
   intro n
   induction n with
   | zero => intro i h; omega
   | succ n ih =>
    intro i hi hio
    by_cases hb : listed.getD i true = true
    ·exact hb
    ·exfalso
     have hmem : i ∈ Region.ready .any ops listed := by
      unfold Region.ready
      refine List.mem_filter.2 ⟨List.mem_range.2 hio, ?_⟩
      have hlt := hok.lt i ops[i] (Array.getElem?_eq_getElem hio)
      have hb' : listed.getD i true = false := by simpa using hb
      simp only [hb', Bool.not_false, Bool.true_and, Array.getElem?_eq_getElem hio, Option.map_some, Option.getD_some]
      rw [Array.all_eq_true']
      intro e he
      cases hbind : Region.binds .any e with
      | false => rfl
      | true =>
      have hel := hlt e he hbind
      have h1 := ih e.on (by omega) (by omega)
      have h2 : listed.getD e.on false = true := by
       simp only [Array.getD_eq_getD_getElem?] at h1 ⊢
       rw [Array.getElem?_eq_getElem (by omega)] at h1 ⊢
       exact h1
      simp [h2]
     rw [hr] at hmem
     cases hmem
  have hTL : TL ops T listed = T := by
   funext x
   unfold TL
   rw [if_neg]
   rintro ⟨i, o, hi, _, hl⟩
   have := hall (i + 1) i (by omega) (Array.getElem?_eq_some_iff.1 hi).1
   rw [this] at hl
   cases hl
  rw [hTL] at r
  exact ⟨_, S, H, r, hQ listed hsz (fun i hi => hall (i + 1) i (by omega) hi)⟩
 intro fuel
 induction fuel with
 | zero =>
  intro listed a w S H hsz hc r hi0
  have hr : Region.ready .any ops listed = [] := by
   unfold Region.ready
   rw [List.filter_eq_nil_iff]
   intro i hi hb
   simp only [Bool.and_eq_true] at hb
   have : 0 < (List.range ops.size).countP (fun i => !listed.getD i true) := List.countP_pos_iff.2 ⟨i, hi, hb.1⟩
   omega
  exact ⟨hr, done listed a w S H hsz hr r⟩
 | succ fuel ih =>
  intro listed a w S H hsz hc r hi0
  refine ⟨fun hr => done listed a w S H hsz hr r, fun i hi => ?_⟩
  unfold Region.ready at hi
  rw [List.mem_filter] at hi
  obtain ⟨hi1, hi2⟩ := hi
  have hio : i < ops.size := List.mem_range.1 hi1
  have hget : ops[i]? = some ops[i] := Array.getElem?_eq_getElem hio
  simp only [Bool.and_eq_true, hget, Option.map_some, Option.getD_some] at hi2
  obtain ⟨hun, haf⟩ := hi2
  have hun' : listed.getD i true = false := by simpa using hun
  generalize ho : ops[i] = o at *
  have hmet : Met listed o := by
   intro e he hb
   rw [Array.all_eq_true'] at haf
   have h1 := haf e he
   rw [hb] at h1
   simpa using h1
  have hlook := Ad4 (T := T) hok hsz hget hmet
  have hcnt : (List.range ops.size).countP (fun j => !(listed.setIfInBounds i true).getD j true) ≤ fuel := by
   have := Abv (fun j => !listed.getD j true) (fun j => !(listed.setIfInBounds i true).getD j true) (List.range ops.size) (fun j _ hj => by
    by_cases hij : i = j
    ·subst hij
     simp only [Array.getD_eq_getD_getElem?, Array.getElem?_setIfInBounds_self_of_lt (by omega : i < listed.size), Option.getD_some] at hj
     cases hj
    ·simp only [Array.getD_eq_getD_getElem?, Array.getElem?_setIfInBounds_ne hij] at hj
     simpa [Array.getD_eq_getD_getElem?] using hj) hi1 hun (by simp only [Array.getD_eq_getD_getElem?, Array.getElem?_setIfInBounds_self_of_lt (by omega : i < listed.size), Option.getD_some]; rfl)
   omega
  rcases hT i o hget with hp | ⟨hgn, heff⟩
  ·obtain ⟨md, ⟨d, hd, hdn, hgood⟩, hlift, hB, hHI⟩ := hp listed H hsz hun' hmet hi0
   have hTL' := Akv (T := T) hok hsz hget hun' hd
   have next : ∀ v w' S', Ext w S w' S' → InH w' S' → AVR (C9 w' S' md H) (T d) v → wpAny P .any ops (QR c Q) fuel (listed.setIfInBounds i true) (a.put o.dst v) w' := by
    intro v w' S' hext hin hv
    rw [hd]
    refine ih _ _ w' S' H (by simpa using hsz) hcnt ?_ hHI
    rw [← hTL', hB]
    exact (r.ext hext hin).put hdn (AVR.mono (fun l u => hlift.up) hv)
   have hw : wpOp P ops (QR c Q) i (wpAny P .any ops (QR c Q) fuel (listed.setIfInBounds i true)) a w := by
    unfold wpOp
    rw [hget]
    simp only
    have hrr : Rel c ⟨Q9 T (o.looksAt ops), md⟩ a w S H := by
     refine (r.down hlift).weak (fun y => ?_)
     unfold Q9
     cases hc' : (o.looksAt ops).contains y with
     | false => exact .inr rfl
     | true => exact .inl (hlook y (by simpa using hc')).symm
    rcases hgood with ⟨hg, hop⟩ | ⟨hg, hx⟩
    ·have hwant : Region.wanted o (yielded ops a.tmps) = true := by
      rcases hg with hg | ⟨j, want, dj, h1, h2, h3⟩
      ·simp [Region.wanted, hg]
      ·have h4 := r.tm dj
       have h5 : TL ops T listed dj = .s (.one (.b want)) := by rw [hlook dj (Fg h1 h2)]; exact h3
       rw [show (⟨TL ops T listed, B listed⟩ : AS).t dj = .s (.one (.b want)) from h5] at h4
       have hv : a.tmps.getD dj undef = .bool want := Ud (h4 : Rep w S (.b want) (a.tmps.getD dj undef))
       have hs : a.tmps[dj]? = some (.bool want) := by
        simp only [Array.getD_eq_getD_getElem?] at hv
        cases hq : a.tmps[dj]? with
        | none => rw [hq] at hv; cases hv
        | some u => rw [hq] at hv; simp only [Option.getD_some] at hv; rw [hv]
       simp only [Region.wanted, h1, yielded, h2, Option.bind_some, hs, beq_self_eq_true]
     rw [if_pos hwant]
     obtain ⟨odst, oop, oty, opos, oaf, og⟩ := o
     exact .inl (hop a w S H hrr odst opos oaf og _ _ (fun v w' S' h1 h2 h3 => next v w' S' h1 h2 h3))
    ·have hwant : Region.wanted o (yielded ops a.tmps) = false := by
      obtain ⟨j, want, dj, h1, h2, h3⟩ := hg
      have h4 := r.tm dj
      rw [show (⟨TL ops T listed, B listed⟩ : AS).t dj = T dj from hlook dj (Fg h1 h2)] at h4
      simp only [Region.wanted, h1, yielded, h2, Option.bind_some]
      rcases h3 with h3 | ⟨b, h3, hb⟩
      ·rw [h3] at h4
       obtain ⟨vs, hv, _⟩ := h4
       simp only [Array.getD_eq_getD_getElem?] at hv
       cases hq : a.tmps[dj]? with
       | none => rfl
       | some u => rw [hq] at hv; simp only [Option.getD_some] at hv; subst hv; rfl
      ·rw [h3] at h4
       have hv : a.tmps.getD dj undef = .bool b := Ud (h4 : Rep w S (.b b) (a.tmps.getD dj undef))
       simp only [Array.getD_eq_getD_getElem?] at hv
       cases hq : a.tmps[dj]? with
       | none => rfl
       | some u =>
        rw [hq] at hv; simp only [Option.getD_some] at hv; subst hv
        cases b <;> cases want <;> first | rfl | cases hb
     rw [if_neg (by rw [hwant]; simp)]
     have := next undef w S (Ext.refl w S) r.sl (by rw [hx]; exact Nr)
     exact this
   exact hw
  ·unfold wpOp
   rw [hget]
   simp only
   have hwant : Region.wanted o (yielded ops a.tmps) = true := by
    rcases hgn with hg | ⟨j, want, dj, h1, h2, h3⟩
    ·simp [Region.wanted, hg]
    ·have h4 := r.tm dj
     have h5 : TL ops T listed dj = .s (.one (.b want)) := by rw [hlook dj (Fg h1 h2)]; exact h3
     rw [show (⟨TL ops T listed, B listed⟩ : AS).t dj = .s (.one (.b want)) from h5] at h4
     have hv : a.tmps.getD dj undef = .bool want := Ud (h4 : Rep w S (.b want) (a.tmps.getD dj undef))
     have hs : a.tmps[dj]? = some (.bool want) := by
      simp only [Array.getD_eq_getD_getElem?] at hv
      cases hq : a.tmps[dj]? with
      | none => rw [hq] at hv; cases hv
      | some u => rw [hq] at hv; simp only [Option.getD_some] at hv; rw [hv]
     simp only [Region.wanted, h1, yielded, h2, Option.bind_some, hs, beq_self_eq_true]
   rw [if_pos hwant]
   exact .inl (heff listed hsz hun' hmet a w S H r hi0 _ _ (fun a' w' S' H' r' h' => ih _ a' w' S' H' (by simpa using hsz) hcnt r' h'))
end
end Go.Proofs.YtbjckaahoacbfaaGreatDoor.Abs
namespace Go.Proofs.YtbjckaahoacbfaaGreatDoor.Abs
open Go.RowKit
section
variable {P : Program} {c : Ctx} {t : Nat → AV} {m : List Blk} {Q : Exit → AS → Prop}
theorem Agh {g : Addr} (h : undef = .pointer (some g)) : False := by
 unfold undef at h; cases h
def AWD (P : Program) (c : Ctx) (Q : Exit → AS → Prop) (l : List Oper) (st : AS) : Prop := ∀ a w S H, Rel c st a w S H → wpAny P .any l.toArray (QR c Q) l.toArray.size (Array.replicate l.toArray.size false) a w.drew
theorem AWD.awc {st : AS} {id : Nat} {l : List Oper} (hm : P.follows .mixedOrders = true) (h : AWD P c Q l st) : AWC P c (.region id l.toArray true) Q st := fun a w S H r => wp_region_any hm (h a w S H r)
theorem Adx {l : List Oper} {T : Nat → AV} {B : Array Bool → List Blk} {HI : Array Bool → (Nat → Value) → Prop} (ok : Wx l.toArray)
  (hT : ∀ (i : Nat) (o : Oper), l.toArray[i]? = some o → Aot P c l.toArray T B HI i o ∨ At4 P c l.toArray T B HI i o)
  (hTt : ∀ y, y ∉ Ku l → T y = t y)
  (hst : ∀ a w S H, Rel c ⟨t, m⟩ a w S H → ∃ H', Rel c ⟨t, B (Array.replicate l.toArray.size false)⟩ a w S H' ∧ HI (Array.replicate l.toArray.size false) H')
  (hQ : ∀ listed : Array Bool, listed.size = l.toArray.size → (∀ i, i < l.toArray.size → listed.getD i true = true) → Q .normal ⟨T, B listed⟩) : AWD P c Q l ⟨t, m⟩ := by
 intro a w S H r
 have hcnt : (List.range l.toArray.size).countP (fun i => !(Array.replicate l.toArray.size false).getD i true) ≤ l.toArray.size := by
  refine Nat.le_trans List.countP_le_length ?_
  simp
 have r' : Rel c ⟨t, m⟩ a w.drew S H := r.ext (Ext.drew w S) (r.sl.ext (Ext.drew w S))
 obtain ⟨H', r2, h2⟩ := hst _ _ _ _ r'
 refine Amv ok hT hQ l.toArray.size (Array.replicate l.toArray.size false) a _ S H' (by simp) hcnt ?_ h2
 refine r2.weak (fun x => ?_)
 unfold TL
 by_cases hx : x ∈ Ku l
 ·right
  rw [if_pos]
  unfold Ku at hx
  rw [List.mem_filterMap] at hx
  obtain ⟨p, hp, hpd⟩ := hx
  obtain ⟨j, hj, hjp⟩ := List.getElem_of_mem hp
  refine ⟨j, p, by simp [hj, hjp], hpd, ?_⟩
  simp [Array.getD_eq_getD_getElem?, hj]
 ·left
  rw [if_neg, hTt x hx]
  rintro ⟨i, o, hi, hod, _⟩
  refine hx ?_
  unfold Ku
  rw [List.mem_filterMap]
  have hi' : l[i]? = some o := by simpa using hi
  exact ⟨o, List.mem_of_getElem? hi', hod⟩
theorem later {l : List Oper} (ok : Wx l.toArray) : ∀ (i : Nat) (o : Oper), l[i]? = some o → ∀ y ∈ o.looksAt l.toArray, y ∉ Ku (l.drop i) := by
 intro i o hi y hy hm'
 unfold Ku at hm'
 rw [List.mem_filterMap] at hm'
 obtain ⟨p, hp, hpd⟩ := hm'
 obtain ⟨j, hj, hjp⟩ := List.getElem_of_mem hp
 have hjl : l[i + j]? = some p := by
  rw [List.getElem_drop] at hjp
  have : i + j < l.length := by simp at hj; omega
  rw [List.getElem?_eq_getElem this, hjp]
 obtain ⟨e, he, heo, hb⟩ := ok.ed i o (i + j) p y (by simpa using hi) (by simpa using hjl) hpd hy
 have := ok.lt i o (by simpa using hi) e he hb
 omega
end
end Go.Proofs.YtbjckaahoacbfaaGreatDoor.Abs
namespace Go.Proofs.YtbjckaahoacbfaaGreatDoor.Abs
open Go.RowKit
section
variable {P : Program} {c : Ctx} {st : AS} {k2 : IntKind} {n m : Int} {x y : Operand} {xt yt ty : TypeId}
theorem Ag7 {a b : BitVec 64} (hx : Ca st x = .s (.one (.i .u64 n))) (hn : n = (a.toNat : Int)) (hy : Ca st y = .s (.one (.i .u64 m))) (hm : m = (b.toNat : Int)) : OpV P c st (.binOp .or xt x y yt) ty (.s (.one (.i .u64 ((a ||| b).toNat : Int)))) := Amm (k := .u64) rfl hx hn hy hm
theorem Ad8 {a b : BitVec 64} (hx : Ca st x = .s (.one (.i .u64 n))) (hn : n = (a.toNat : Int)) (hy : Ca st y = .s (.one (.i .u64 m))) (hm : m = (b.toNat : Int)) : OpV P c st (.binOp .xor xt x y yt) ty (.s (.one (.i .u64 ((a ^^^ b).toNat : Int)))) := Ys (k := .u64) rfl hx hn hy hm
theorem Afj {a b : BitVec 64} (hx : Ca st x = .s (.one (.i .u64 n))) (hn : n = (a.toNat : Int)) (hy : Ca st y = .s (.one (.i .u64 m))) (hm : m = (b.toNat : Int)) : OpV P c st (.binOp .add xt x y yt) ty (.s (.one (.i .u64 ((a + b).toNat : Int)))) := Ajl (k := .u64) rfl hx hn hy hm
theorem Afd {a b : BitVec 64} (hx : Ca st x = .s (.one (.i .u64 n))) (hn : n = (a.toNat : Int)) (hy : Ca st y = .s (.one (.i .u64 m))) (hm : m = (b.toNat : Int)) : OpV P c st (.binOp .mul xt x y yt) ty (.s (.one (.i .u64 ((a * b).toNat : Int)))) := Ajb (k := .u64) rfl hx hn hy hm
theorem Ym {a : BitVec 64} (hx : Ca st x = .s (.one (.i .u64 n))) (hn : n = (a.toNat : Int)) (hy : Ca st y = .s (.one (.i k2 m))) (h0 : 0 ≤ m) : OpV P c st (.binOp .shr xt x y yt) ty (.s (.one (.i .u64 ((a >>> m.toNat).toNat : Int)))) := Ac2 (k := .u64) hx hn hy h0
theorem Ae7 {a : BitVec 64} (hx : Ca st x = .s (.one (.i .u64 n))) (hn : n = (a.toNat : Int)) (hy : Ca st y = .s (.one (.i k2 m))) (h0 : 0 ≤ m) : OpV P c st (.binOp .shl xt x y yt) ty (.s (.one (.i .u64 ((a <<< m.toNat).toNat : Int)))) := All (k := .u64) rfl hx hn hy h0
theorem Afa {a b : BitVec 32} (hx : Ca st x = .s (.one (.i .u32 n))) (hn : n = (a.toNat : Int)) (hy : Ca st y = .s (.one (.i .u32 m))) (hm : m = (b.toNat : Int)) : OpV P c st (.binOp .and xt x y yt) ty (.s (.one (.i .u32 ((a &&& b).toNat : Int)))) := Ajy (k := .u32) rfl hx hn hy hm
theorem Y7 {a b : BitVec 32} (hx : Ca st x = .s (.one (.i .u32 n))) (hn : n = (a.toNat : Int)) (hy : Ca st y = .s (.one (.i .u32 m))) (hm : m = (b.toNat : Int)) : OpV P c st (.binOp .xor xt x y yt) ty (.s (.one (.i .u32 ((a ^^^ b).toNat : Int)))) := Ys (k := .u32) rfl hx hn hy hm
theorem Uz {a : BitVec 32} (hx : Ca st x = .s (.one (.i .u32 n))) (hn : n = (a.toNat : Int)) (hy : Ca st y = .s (.one (.i k2 m))) (h0 : 0 ≤ m) : OpV P c st (.binOp .shr xt x y yt) ty (.s (.one (.i .u32 ((a >>> m.toNat).toNat : Int)))) := Ac2 (k := .u32) hx hn hy h0
theorem Ag9 {a b : BitVec 8} (hx : Ca st x = .s (.one (.i .u8 n))) (hn : n = (a.toNat : Int)) (hy : Ca st y = .s (.one (.i .u8 m))) (hm : m = (b.toNat : Int)) : OpV P c st (.binOp .xor xt x y yt) ty (.s (.one (.i .u8 ((a ^^^ b).toNat : Int)))) := Ys (k := .u8) rfl hx hn hy hm
end
theorem Mo {P : Program} {t : TypeId} {zl : List Lf} (h : ((P.info? t).bind (·.zero)).map (fun z => (z.cells.toList.map clf, z.cells.all (·.oneCell'))) = some (zl, true)) : ZI P t zl := by
 cases hi : P.info? t with
 | none => rw [hi] at h; cases h
 | some i =>
  rw [hi] at h
  cases hz : i.zero with
  | none => simp [hz] at h
  | some z =>
   simp only [Option.bind_some, hz, Option.map_some, Option.some.injEq, Prod.mk.injEq] at h
   exact ⟨i, z, hi, hz, h.1, h.2⟩
theorem Vj {P : Program} {e sz bytes : Nat} {zl : List Lf} (h : (P.info? e).bind (fun i => i.zero.map fun z => (i.size, i.bytes, z.cells.size, z.cells.toList.map clf, z.cells.all (·.oneCell'))) = some (sz, bytes, sz, zl, true)) (hp : 0 < sz) : EI P e sz bytes zl := by
 cases hi : P.info? e with
 | none => rw [hi] at h; cases h
 | some i =>
  rw [hi] at h
  cases hz : i.zero with
  | none => simp [hz] at h
  | some z =>
   simp only [Option.bind_some, hz, Option.map_some, Option.some.injEq, Prod.mk.injEq] at h
   exact ⟨⟨i, z, hi, hz, h.1, h.2.1, h.2.2.1, h.2.2.2.1, h.2.2.2.2⟩, hp⟩
theorem Arn {n : Int} (h : (Lit.int .i64 n).wf = true) : -9223372036854775808 ≤ n ∧ n ≤ 9223372036854775807 := by
 simpa [Lit.wf, IntKind.min, IntKind.max, IntKind.bits, IntKind.signed] using h
def Lf.canon : Lf → Lf
 | .raw (.slice none 0 0) => .sl 0 []
 | l => l
def SV.canon : SV → SV
 | .one l => .one l.canon
 | .agg ls => .agg (ls.map Lf.canon)
theorem Adw {m : List Blk} {l : Lf} (h : l.pubd = true) : Em m l l.canon m := by
 unfold Lf.canon
 split
 ·exact .nil
 ·exact .id _ h
theorem O4 {m : List Blk} {xs : List SV} (h : xs.all (fun x => x.cells.all Lf.pubd) = true) : Kf m xs (xs.map SV.canon) m := by
 induction xs with
 | nil => exact .nil m
 | cons x xs ih =>
  simp only [List.all_cons, Bool.and_eq_true] at h
  refine .cons m m m x x.canon xs _ ?_ (ih h.2)
  cases x with
  | one l => exact .one _ _ _ _ (Adw (by simpa [SV.cells] using h.1))
  | agg ls =>
   refine .agg _ _ _ _ ?_
   have h1 := List.all_eq_true.1 h.1
   simp only [SV.cells] at h1
   clear h
   induction ls with
   | nil => exact .nil m
   | cons l ls ih2 => exact .cons m m m l l.canon ls _ (Adw (h1 l (List.mem_cons_self ..))) (ih2 (fun l' hl => h1 l' (List.mem_cons_of_mem _ hl)))
theorem Ao {m : List Blk} {xs : List SV} (h : xs.all (fun x => x.cells.all Lf.pubd) = true) : Kf m xs xs m := by
 induction xs with
 | nil => exact .nil m
 | cons x xs ih =>
  simp only [List.all_cons, Bool.and_eq_true] at h
  refine .cons m m m x x xs xs ?_ (ih h.2)
  cases x with
  | one l => exact .one _ _ _ _ (.id _ (by simpa [SV.cells] using h.1))
  | agg ls => exact .agg _ _ _ _ (.all _ _ (List.all_eq_true.1 h.1))
section
variable {P : Program} {c : Ctx} {st : AS} {x y b : Operand} {v : SV} {ty : TypeId}
theorem Bc (h : Ca st x = .s v) : OpV P c st (.move x) ty (.s v) := h ▸ Afw
theorem Gc {xs : List SV} (h : Ca st x = .tup xs) : OpV P c st (.move x) ty (.tup xs) := h ▸ Afw
theorem K5 (h : Ca st x = .s v) : OpV P c st (.assign x) ty (.s v) := h ▸ Aha
theorem Oc (hb : Ca st b = .s (.one (.b true))) (h : Ca st x = .s v) : OpV P c st (.pick b x y) ty (.s v) := by
 have := Afx (P := P) (c := c) (ty := ty) (x := x) (y := y) hb
 rw [if_pos rfl, h] at this
 exact this
theorem Nh (hb : Ca st b = .s (.one (.b false))) (h : Ca st y = .s v) : OpV P c st (.pick b x y) ty (.s v) := by
 have := Afx (P := P) (c := c) (ty := ty) (x := x) (y := y) hb
 rw [if_neg (by simp), h] at this
 exact this
end
theorem Nz {P : Program} {t : TypeId} {pl : List (Nat × Nat)} {fs : Array Field} (hu : P.underlying t = some (.struct fs)) (hs : fs.size = pl.length)
  (h : ((List.range pl.length).all fun j => match fs[j]?, pl[j]? with | some f, some q => f.offset == q.1 && ((P.info? f.type).map (·.size) == some q.2) | _, _ => false) = true) : PI P t pl := by
 refine ⟨fs, hu, hs, fun j f q hf hq => ?_⟩
 have hj : j < pl.length := (List.getElem?_eq_some_iff.1 hq).1
 have := List.all_eq_true.1 h j (List.mem_range.2 hj)
 rw [hf, hq] at this
 simpa using this
end Go.Proofs.YtbjckaahoacbfaaGreatDoor.Abs
namespace Go.Proofs.YtbjckaahoacbfaaGreatDoor.Abs
open Go.RowKit
theorem Aej (w : World) (p : Addr) (n : Nat) : (w.freeze p n).heap.size = w.heap.size := by
 unfold World.freeze; split <;> simp
theorem W7 (w : World) (p : Addr) (n : Nat) {b : Nat} (h : b ≠ p.block) : (w.freeze p n).heap[b]? = w.heap[b]? := by
 unfold World.freeze
 split
 ·rfl
 ·simp only [Array.getElem?_modify]
  rw [if_neg (fun e => h e.symm)]
theorem Ae5 (w : World) (p : Addr) (n : Nat) (a : Addr) : (w.freeze p n).cell? a = w.cell? a := by
 by_cases hb : a.block = p.block
 ·unfold World.freeze
  split
  ·rfl
  ·unfold World.cell?
   simp only [Array.getElem?_modify, hb, if_true]
   cases w.heap[p.block]? with
   | none => rfl
   | some o => cases o <;> rfl
 ·unfold World.cell?
  rw [W7 w p n hb]
theorem Ajc (w : World) (p : Addr) (n : Nat) : (w.freeze p n).os = w.os ∧ (w.freeze p n).tape = w.tape ∧ (w.freeze p n).output = w.output := by
 unfold World.freeze; split <;> exact ⟨rfl, rfl, rfl⟩
section
variable {P : Program} {c : Ctx} {t : Nat → AV} {m : List Blk} {ops : Array Oper} {Q : Exit → AS → Prop} {rest : List Oper} {ty : TypeId} {pos : String} {af : Array Edge} {d : Tmp}
theorem Am0 {tt e : TypeId} {x : Operand} {p n e' sz k : Nat} {cs : List Lf} (hd : decide (d < c.nt) = true) (su : P.underlying tt = some (.slice e)) (eu : P.underlying e = some (.int .u8)) (hx : Ca ⟨t, m⟩ x = .s (.one (.ls p n))) (hm : m[p]? = some (.arr e' sz k cs)) (hn : n * sz = cs.length) (hpos : 0 < n)
  (kk : AWL P c ops Q rest ⟨upd t d (.s (.one (.sl n cs))), m.set p .dead⟩) : AWL P c ops Q (⟨some d, .convert tt tt x, ty, pos, af, none⟩ :: rest) ⟨t, m⟩ := by
 intro a w S H r
 have hx' := Bm r x
 rw [hx] at hx'
 obtain ⟨hp, _, hr⟩ := hx'
 have hv : a.eval x = H p := (hr _ _ _ _ hm).2 hn
 obtain ⟨hsz, hk, n0, vals, hown, hls, hst⟩ := r.bl p _ hm
 obtain ⟨S', r1, hsub, hrep⟩ := r.pub hm
 have hrep := hrep n hn
 obtain ⟨hvl, hcase⟩ := hown
 rcases hcase with ⟨_, h0⟩ | ⟨g, cap, cur, hHp, hbg, hgg, hnc, hcm, hcs, htake⟩
 ·have : n * sz = 0 := by rw [hn, hls.1, hvl, h0, Nat.zero_mul]
  have := Nat.mul_pos hpos hsz
  omega
 ·have hcell := Ae5 w ⟨g, cur.size, none⟩ 1
  have hoth := fun b => W7 w ⟨g, cur.size, none⟩ 1 (b := b)
  have hsize := Aej w ⟨g, cur.size, none⟩ 1
  obtain ⟨ho1, ho2, ho3⟩ := Ajc w ⟨g, cur.size, none⟩ 1
  have hrun : (execOp a.eval ⟨some d, .convert tt tt x, ty, pos, af, none⟩).run P w = .ok (.value (H p)) (w.freeze ⟨g, cur.size, none⟩ 1) := by
   have hsh : w.shape? g = some (e', cur.size) := by unfold World.shape?; rw [hgg]
   simp only [execOp, hv, hHp]
   simp [convert, run_underlying su, run_underlying eu, markStringish, hsh]
  generalize hw' : w.freeze ⟨g, cur.size, none⟩ 1 = w' at *
  have hset : (m.set p (Blk.arr e' sz cs.length cs)).set p .dead = m.set p .dead := by simp
  have r2 : Rel c ⟨t, m.set p .dead⟩ a w' S' (Ub H p (H p)) := by
   refine r1.change (p := p) (b' := .dead) (v := H p) (by simp) (by simp [hp]) (fun q hq => ?_) (fun b i h => ⟨h, hcell _⟩) (fun g' _ h => rfl) (fun e sz k cs _ h => by cases h)
    (fun g' _ hne => hoth g' (fun e => ?_)) trivial (fun g' hg => by cases hg) (fun q b g i _ _ _ h => h) (fun g i _ _ h => h) (r1.sl.turn (Nat.le_of_eq hsize.symm) (fun b i _ => hcell _)) (by rw [hsize]; exact Nat.le_refl _) ho1 ho2 ho3 (fun _ _ h => h)
   ·simp only
    rw [List.getElem?_set_ne (fun e => hq e.symm), List.getElem?_set_ne (fun e => hq e.symm)]
   ·have e' : g' = g := e
    subst e'
    exact hne _ (List.getElem?_set_self hp) (by rw [hHp]; rfl)
  refine wpList_plain rfl fun K hK => ?_
  unfold Oper.wp
  rw [hrun]
  refine hK _ _ (kk _ _ _ _ (r2.put (d := d) (x := .s (.one (.sl n cs))) (of_decide_eq_true hd) ?_))
  exact C9.of_rep (m := m.set p .dead) (H := Ub H p undef) (Rep.mono (fun b i h => ⟨h, hcell _⟩) hrep)
end
def Ah6 : List UInt8 → List UInt8 → Int
 | [], [] => 0
 | [], _ :: _ => -1
 | _ :: _, [] => 1
 | x :: xs, y :: ys => if x < y then -1 else if y < x then 1 else Ah6 xs ys
section
variable {P : Program} {w : World} {S : Dh}
theorem Y9 {l : List UInt8} {v : Value} (h : Rep w S (.sl l.length (bl l)) v) : (Extern.Bytes.bytesOf v).run P w = .ok ⟨l.toArray⟩ w := by
 generalize hn : l.length = n at h
 generalize hb : bl l = cs at h
 cases h with
 | sl0 ad cap =>
  have : l = [] := List.eq_nil_of_length_eq_zero hn
  subst this
  cases ad <;> rfl
 | sl n cs bk off cap vals hc hm hs hr =>
  subst hn; subst hb
  have hl := Lib.run_loadBytesX (P := P) (w := w) (l.map fun b : UInt8 => (b.toNat : Int)) ⟨bk, off, none⟩ .empty (fun j x hj => by
   rw [List.getElem?_map] at hj
   cases hx : l[j]? with
   | none => rw [hx] at hj; cases hj
   | some b =>
    rw [hx] at hj
    cases hj
    have hbl : (bl l)[j]? = some (.i .u8 b.toNat) := by simp [bl, hx]
    have h1 := Q3 (hr j _ hbl)
    have e : (⟨bk, off, none⟩ : Addr).add j = ⟨bk, off + j, none⟩ := by unfold Addr.add; split <;> simp_all
    rw [e, (hs j _ hbl).2, h1])
  rw [List.length_map] at hl
  have e : Lib.bytesOf (l.map fun b : UInt8 => (b.toNat : Int)) = l := by
   unfold Lib.bytesOf
   rw [List.map_map]
   conv => rhs; rw [← List.map_id l]
   refine List.map_congr_left (fun b _ => ?_)
   show UInt8.ofNat ((b.toNat : Int)).toNat = b
   rw [Int.toNat_natCast]; exact UInt8.ofNat_toNat
  rw [e] at hl
  show (Extern.Bytes.loadBytes ⟨bk, off, none⟩ l.length .empty).run P w = _
  rw [hl]
  simp
theorem Atp (a b : List UInt8) : Extern.BytealgCompare.cmp ⟨a.toArray⟩ ⟨b.toArray⟩ = Ah6 a b := by
 have hget : ∀ (l : List UInt8) (i : Nat), (⟨l.toArray⟩ : ByteArray)[i]! = l[i]! := by
  intro l i
  by_cases h : i < l.length
  ·rw [getElem!_pos (⟨l.toArray⟩ : ByteArray) i (by show i < l.toArray.size; simpa using h), getElem!_pos l i h]
   show l.toArray[i]'_ = l[i]
   simp
  ·rw [getElem!_neg (⟨l.toArray⟩ : ByteArray) i (by show ¬ i < l.toArray.size; simpa using h), getElem!_neg l i h]
 unfold Extern.BytealgCompare.cmp
 simp only [hget]
 show (match (List.range (min a.length b.length)).find? fun i => a[i]! != b[i]! with
  | some i => if a[i]! < b[i]! then -1 else 1
  | none => if a.length < b.length then -1 else if a.length > b.length then 1 else 0) = Ah6 a b
 induction a generalizing b with
 | nil => cases b <;> simp [Ah6]
 | cons x xs ih =>
  cases b with
  | nil => simp [Ah6]
  | cons y ys =>
   have hr : List.range (min (x :: xs).length (y :: ys).length) = 0 :: (List.range (min xs.length ys.length)).map (· + 1) := by
    rw [show min (x :: xs).length (y :: ys).length = min xs.length ys.length + 1 by simp [Nat.succ_min_succ], List.range_succ_eq_map]
   rw [hr, List.find?_cons]
   by_cases hxy : x = y
   ·subst hxy
    have ih := ih ys
    simp only [List.find?_map]
    have hne : ((x :: xs)[0]! != (x :: ys)[0]!) = false := by simp
    rw [hne]
    simp only [Ah6, UInt8.lt_irrefl, if_false]
    rw [← ih]
    have hf : ((fun i => (x :: xs)[i]! != (x :: ys)[i]!) ∘ fun i => i + 1) = fun i => xs[i]! != ys[i]! := by
     funext i; simp
    rw [hf]
    cases (List.range (min xs.length ys.length)).find? fun i => xs[i]! != ys[i]! with
    | none => simp
    | some i => simp
   ·have hne : ((x :: xs)[0]! != (y :: ys)[0]!) = true := by simp [hxy]
    rw [hne]
    simp only [Ah6]
    simp
    by_cases h1 : x < y
    ·simp [h1]
    ·have h2 : y < x := by
      rcases UInt8.lt_or_lt_of_ne hxy with h | h
      ·exact absurd h h1
      ·exact h
     simp [h1, h2]
end
structure XI (P : Program) (f : FuncId) (e : Array Value → Sem Value) : Prop where
 h : ∃ fn, P.funcs[f]? = some fn ∧ (fn.name == "runtime.NumGoroutine") = false ∧ fn.body.isNone = true ∧ Extern.findNext fn = none ∧ Extern.find fn = some e
theorem Aqp {P : Program} {c : Ctx} {st : AS} {f : FuncId} {x y : Operand} {ats : Array TypeId} {ty : TypeId} {a b : List UInt8} (xi : XI P f Extern.BytealgCompare.compare) (hx : Ca st x = .s (.one (.sl a.length (bl a)))) (hy : Ca st y = .s (.one (.sl b.length (bl b)))) :
  OpV P c st (.call { callee := .value (.func f), args := #[x, y], argTypes := ats }) ty (.s (.one (.i .i64 (Ah6 a b)))) := by
 intro ac w S H r
 have h1 := Bm r x
 rw [hx] at h1
 have h2 := Bm r y
 rw [hy] at h2
 have h1' : Rep w S (.sl a.length (bl a)) (ac.eval x) := h1
 have h2' : Rep w S (.sl b.length (bl b)) (ac.eval y) := h2
 refine ⟨.int .i64 (Ah6 a b), Gl (.i _ _), fun dst pos af g => ?_⟩
 obtain ⟨fn, q1, q2, q3, q4, q5⟩ := xi.h
 have hrun : (Extern.BytealgCompare.compare #[ac.eval x, ac.eval y]).run P w = .ok (.int .i64 (Ah6 a b)) w := by
  change Sem.run P (do
   let p ← Extern.Bytes.bytesOf (ac.eval x)
   let q ← Extern.Bytes.bytesOf (ac.eval y)
   pure (goInt (Extern.BytealgCompare.cmp p q))) w = _
  simp only [Sem.run_bind, Y9 h1', Y9 h2', Result.andThen_ok, Atp, Sem.run_pure]
  rfl
 have hcall := run_callFunc_extern (P := P) q1 q2 q3 q4 q5 #[ac.eval x, ac.eval y] w
 rw [hrun] at hcall
 have e : ac.eval (.func f) = .func (.func f) #[] #[] := rfl
 simp only [execOp, resolve, e, Deferred.ofValue, invoke, List.map_toArray, List.map_cons, List.map_nil]
 simpa using hcall
end Go.Proofs.YtbjckaahoacbfaaGreatDoor.Abs
namespace Go.Proofs.YtbjckaahoacbfaaGreatDoor.Abs
open Go.RowKit
section
variable {P : Program} {c : Ctx} {st : AS} {k kd : IntKind} {n : Int} {x : Operand} {src dst xt ty : TypeId}
theorem Ae0 (hs : kd.signed = false) (n : Nat) : kd.wrap (n : Int) = ((BitVec.ofNat kd.bits n).toNat : Int) := by
 rw [Vm hs, BitVec.toNat_ofNat]
 push_cast
 rfl
theorem Pz {a : BitVec k.bits} (hs : kd.signed = false) (us : P.underlying src = some (.int k)) (ud : P.underlying dst = some (.int kd)) (hx : Ca st x = .s (.one (.i k n))) (hn : n = (a.toNat : Int)) : OpV P c st (.convert src dst x) ty (.s (.one (.i kd ((a.setWidth kd.bits).toNat : Int)))) := by
 have := Gj (P := P) (c := c) (ty := ty) us ud hx
 rw [hn, Ae0 hs, BitVec.ofNat_toNat] at this
 exact this
theorem Dc (hs : kd.signed = false) (us : P.underlying src = some (.int k)) (ud : P.underlying dst = some (.int kd)) (hx : Ca st x = .s (.one (.i k n))) : OpV P c st (.convert src dst x) ty (.s (.one (.i kd ((BitVec.ofInt kd.bits n).toNat : Int)))) := by
 have := Gj (P := P) (c := c) (ty := ty) us ud hx
 have e : kd.wrap n = ((BitVec.ofInt kd.bits n).toNat : Int) := by
  rw [Vm hs, BitVec.toNat_ofInt]
  have : (0 : Int) ≤ n % (2 ^ kd.bits) := Int.emod_nonneg _ (by have : (0 : Int) < 2 ^ kd.bits := Int.pow_pos (by decide); omega)
  have h2 : ((2 ^ kd.bits : Nat) : Int) = (2 : Int) ^ kd.bits := by push_cast; rfl
  rw [h2, Int.toNat_of_nonneg this]
 rwa [e] at this
theorem Acs (hs : k.signed = false) {a ones : BitVec k.bits} (ho : BitVec.ofInt k.bits k.max = ones) (hall : ones = BitVec.allOnes k.bits) (hx : Ca st x = .s (.one (.i k n))) (hn : n = (a.toNat : Int)) : OpV P c st (.unOp .xor xt x) ty (.s (.one (.i k ((~~~a).toNat : Int)))) := by
 intro ac w S H r
 have h1 := Bm r x
 rw [hx, hn] at h1
 have e1 : ac.eval x = .int k (a.toNat : Int) := Q3 h1
 refine ⟨.int k ((~~~a).toNat : Int), Gl (.i _ _), fun _ _ _ _ => ?_⟩
 have e2 : BitVec.allOnes k.bits ^^^ a = ~~~a := by
  apply BitVec.eq_of_getLsbD_eq
  intro i hi
  simp [hi]
 have e3 := Abk hs (~~~a)
 simp only [execOp, e1, Op.unary, Op.intBits, hs, ho, hall, e2, Rs, Bool.false_eq_true, if_false, Sem.run_bind, Sem.run_pure, Result.andThen_ok, e3]
theorem Wh {a : BitVec 32} (hx : Ca st x = .s (.one (.i .u32 n))) (hn : n = (a.toNat : Int)) : OpV P c st (.unOp .xor xt x) ty (.s (.one (.i .u32 ((~~~a).toNat : Int)))) := Acs (k := .u32) rfl (ones := BitVec.allOnes 32) (show BitVec.ofInt 32 4294967295 = BitVec.allOnes 32 by decide) rfl hx hn
end
end Go.Proofs.YtbjckaahoacbfaaGreatDoor.Abs
namespace Go.Proofs.YtbjckaahoacbfaaGreatDoor.Abs
open Go.RowKit
def Lf.ren0 (r : Nat → Nat) : Lf → Lf
 | .lp p o => .lp (r p) o
 | .ls p n => .ls (r p) n
 | .ap p n o => .ap (r p) n o
 | .mp k p => .mp k (r p)
 | l => l
def Lf.ren (r : Nat → Nat) : Lf → Lf
 | .fn f la lb => .fn f (la.map (Lf.ren0 r)) (lb.map (Lf.ren0 r))
 | l => l.ren0 r
def SV.ren (r : Nat → Nat) : SV → SV
 | .one l => .one (l.ren r)
 | .agg ls => .agg (ls.map (Lf.ren r))
def AV.ren (r : Nat → Nat) : AV → AV
 | .s x => .s (x.ren r)
 | .tup xs => .tup (xs.map (SV.ren r))
 | .top => .top
def Blk.ren (r : Nat → Nat) : Blk → Blk
 | .box cs => .box (cs.map (Lf.ren r))
 | b => b
def Lf.inb0 (n : Nat) : Lf → Bool
 | .lp p _ => decide (p < n)
 | .ls p _ => decide (p < n)
 | .ap p _ _ => decide (p < n)
 | .mp _ p => decide (p < n)
 | _ => true
def Lf.inbB (n : Nat) : Lf → Bool
 | .fn _ la lb => la.all (Lf.inb0 n) && lb.all (Lf.inb0 n)
 | l => l.inb0 n
def SV.inbB (n : Nat) : SV → Bool
 | .one l => l.inbB n
 | .agg ls => ls.all (Lf.inbB n)
def Blk.inbB (n : Nat) : Blk → Bool
 | .box cs => cs.all (Lf.inbB n)
 | _ => true
theorem Blk.ren_arr {r : Nat → Nat} {b : Blk} {e sz k : Nat} {cs : List Lf} (h : b.ren r = .arr e sz k cs) : b = .arr e sz k cs := by
 cases b <;> first | exact h | cases h
theorem Blk.ren_own {r : Nat → Nat} {b : Blk} {v : Value} : (b.ren r).own v = b.own v := by cases b <;> rfl
theorem Blk.ren_stab {r : Nat → Nat} {b : Blk} : (b.ren r).stab = b.stab := by cases b <;> rfl
structure Tie (m M : List Blk) (H H' : Nat → Value) (r : Nat → Nat) : Prop where
 lt : ∀ p, p < m.length → r p < M.length
 h : ∀ p, p < m.length → H' (r p) = H p
 b : ∀ p b, m[p]? = some b → M[r p]? = some (b.ren r)
theorem Tie.arr {m M : List Blk} {H H' : Nat → Value} {r : Nat → Nat} (t : Tie m M H H' r) {p e sz k : Nat} {cs : List Lf} (hp : p < m.length) : M[r p]? = some (.arr e sz k cs) ↔ m[p]? = some (.arr e sz k cs) := by
 have hb := t.b p _ (List.getElem?_eq_getElem hp)
 constructor
 ·intro h
  rw [h] at hb
  rw [List.getElem?_eq_getElem hp, Blk.ren_arr (Option.some.inj hb).symm]
 ·intro h
  rw [List.getElem?_eq_getElem hp] at h
  rw [hb, Option.some.inj h]
  rfl
theorem Tie.up0 {w : World} {S : Dh} {m M : List Blk} {H H' : Nat → Value} {r : Nat → Nat} (t : Tie m M H H' r) {l : Lf} {v : Value} (h : Ir w S m H l v) : Ir w S M H' (l.ren0 r) v := by
 cases l with
 | lp p o => exact ⟨t.lt p h.1, by rw [t.h p h.1]; exact h.2⟩
 | mp k p => exact ⟨t.lt p h.1, by rw [t.h p h.1]; exact h.2⟩
 | ls p n => exact ⟨t.lt p h.1, ⟨h.2.1.1, by rw [t.h p h.1]; exact h.2.1.2⟩, fun e sz k cs hm => by rw [t.h p h.1]; exact h.2.2 e sz k cs ((t.arr h.1).1 hm)⟩
 | ap p n o => exact ⟨t.lt p h.1, ⟨h.2.1.1, by rw [t.h p h.1]; exact h.2.1.2⟩, fun e sz k cs hm => by rw [t.h p h.1]; exact h.2.2 e sz k cs ((t.arr h.1).1 hm)⟩
 | _ => exact h
theorem Tie.up {w : World} {S : Dh} {m M : List Blk} {H H' : Nat → Value} {r : Nat → Nat} (t : Tie m M H H' r) {l : Lf} {v : Value} (h : C9 w S m H l v) : C9 w S M H' (l.ren r) v := by
 have map : ∀ {ls : List Lf} {vs : List Value}, LsR (Ir w S m H) ls vs → LsR (Ir w S M H') (ls.map (Lf.ren0 r)) vs := fun {ls vs} hl =>
  ⟨by simpa using hl.1, fun j l v h1 h2 => by
   rw [List.getElem?_map] at h1
   cases hj : ls[j]? with
   | none => rw [hj] at h1; cases h1
   | some l0 => rw [hj] at h1; cases h1; exact t.up0 (hl.2 j l0 v hj h2)⟩
 cases l with
 | fn f a b =>
  obtain ⟨va, vb, hv, h1, h2⟩ := h
  exact ⟨va, vb, hv, map h1, map h2⟩
 | lp p o => exact t.up0 (w := w) (S := S) (l := .lp p o) h
 | mp k p => exact t.up0 (w := w) (S := S) (l := .mp k p) h
 | ls p n => exact t.up0 (w := w) (S := S) (l := .ls p n) h
 | ap p n o => exact t.up0 (w := w) (S := S) (l := .ap p n o) h
 | i k n => exact h
 | b x => exact h
 | s x => exact h
 | raw v => exact h
 | sl n cs => exact h
 | cp cs => exact h
 | nix => exact h
theorem Tie.down0 {w : World} {S : Dh} {m M : List Blk} {H H' : Nat → Value} {r : Nat → Nat} (t : Tie m M H H' r) {l : Lf} {v : Value} (hi : l.inb0 m.length = true) (h : Ir w S M H' (l.ren0 r) v) : Ir w S m H l v := by
 cases l with
 | lp p o =>
  have hp : p < m.length := by simpa [Lf.inb0] using hi
  exact ⟨hp, by rw [← t.h p hp]; exact h.2⟩
 | mp k p =>
  have hp : p < m.length := by simpa [Lf.inb0] using hi
  exact ⟨hp, by rw [← t.h p hp]; exact h.2⟩
 | ls p n =>
  have hp : p < m.length := by simpa [Lf.inb0] using hi
  exact ⟨hp, ⟨h.2.1.1, by rw [← t.h p hp]; exact h.2.1.2⟩, fun e sz k cs hm => by rw [← t.h p hp]; exact h.2.2 e sz k cs ((t.arr hp).2 hm)⟩
 | ap p n o =>
  have hp : p < m.length := by simpa [Lf.inb0] using hi
  exact ⟨hp, ⟨h.2.1.1, by rw [← t.h p hp]; exact h.2.1.2⟩, fun e sz k cs hm => by rw [← t.h p hp]; exact h.2.2 e sz k cs ((t.arr hp).2 hm)⟩
 | _ => exact h
theorem Tie.down {w : World} {S : Dh} {m M : List Blk} {H H' : Nat → Value} {r : Nat → Nat} (t : Tie m M H H' r) {l : Lf} {v : Value} (hi : l.inbB m.length = true) (h : C9 w S M H' (l.ren r) v) : C9 w S m H l v := by
 have map : ∀ {ls : List Lf} {vs : List Value}, ls.all (Lf.inb0 m.length) = true → LsR (Ir w S M H') (ls.map (Lf.ren0 r)) vs → LsR (Ir w S m H) ls vs := fun {ls vs} ha hl =>
  ⟨by simpa using hl.1, fun j l v h1 h2 => t.down0 (List.all_eq_true.1 ha l (List.mem_of_getElem? h1)) (hl.2 j _ v (by rw [List.getElem?_map, h1]; rfl) h2)⟩
 cases l with
 | fn f a b =>
  obtain ⟨va, vb, hv, h1, h2⟩ := h
  simp only [Lf.inbB, Bool.and_eq_true] at hi
  exact ⟨va, vb, hv, map hi.1 h1, map hi.2 h2⟩
 | lp p o => exact t.down0 (w := w) (S := S) (l := .lp p o) hi h
 | mp k p => exact t.down0 (w := w) (S := S) (l := .mp k p) hi h
 | ls p n => exact t.down0 (w := w) (S := S) (l := .ls p n) hi h
 | ap p n o => exact t.down0 (w := w) (S := S) (l := .ap p n o) hi h
 | i k n => exact h
 | b x => exact h
 | s x => exact h
 | raw v => exact h
 | sl n cs => exact h
 | cp cs => exact h
 | nix => exact h
theorem Aj4 {R R' : Lf → Value → Prop} {r : Nat → Nat} {ls : List Lf} {vs : List Value} (hr : ∀ l ∈ ls, ∀ v, R l v → R' (l.ren r) v) (h : LsR R ls vs) : LsR R' (ls.map (Lf.ren r)) vs :=
 ⟨by simpa using h.1, fun j l v h1 h2 => by
  rw [List.getElem?_map] at h1
  cases hj : ls[j]? with
  | none => rw [hj] at h1; cases h1
  | some l0 => rw [hj] at h1; cases h1; exact hr l0 (List.mem_of_getElem? hj) v (h.2 j l0 v hj h2)⟩
theorem Adg {R R' : Lf → Value → Prop} {r : Nat → Nat} {ls : List Lf} {vs : List Value} (hr : ∀ l ∈ ls, ∀ v, R' (l.ren r) v → R l v) (h : LsR R' (ls.map (Lf.ren r)) vs) : LsR R ls vs :=
 ⟨by simpa using h.1, fun j l v h1 h2 => hr l (List.mem_of_getElem? h1) v (h.2 j _ v (by rw [List.getElem?_map, h1]; rfl) h2)⟩
theorem Tie.svUp {w : World} {S : Dh} {m M : List Blk} {H H' : Nat → Value} {r : Nat → Nat} (t : Tie m M H H' r) {x : SV} {v : Value} (h : SVR (C9 w S m H) x v) : SVR (C9 w S M H') (x.ren r) v := by
 cases x with
 | one l => exact t.up h
 | agg ls =>
  obtain ⟨cs, hv, hl⟩ := h
  exact ⟨cs, hv, Aj4 (fun l _ v h => t.up h) hl⟩
theorem Tie.svDown {w : World} {S : Dh} {m M : List Blk} {H H' : Nat → Value} {r : Nat → Nat} (t : Tie m M H H' r) {x : SV} {v : Value} (hi : x.inbB m.length = true) (h : SVR (C9 w S M H') (x.ren r) v) : SVR (C9 w S m H) x v := by
 cases x with
 | one l => exact t.down hi h
 | agg ls =>
  obtain ⟨cs, hv, hl⟩ := h
  exact ⟨cs, hv, Adg (fun l hl v h => t.down (List.all_eq_true.1 hi l hl) h) hl⟩
theorem Tie.avUp {w : World} {S : Dh} {m M : List Blk} {H H' : Nat → Value} {r : Nat → Nat} (t : Tie m M H H' r) {x : AV} {v : Value} (h : AVR (C9 w S m H) x v) : AVR (C9 w S M H') (x.ren r) v := by
 cases x with
 | s x => exact t.svUp h
 | top => trivial
 | tup xs =>
  obtain ⟨vs, hv, hl, hr⟩ := h
  refine ⟨vs, hv, by simpa using hl, fun j x u h1 h2 => ?_⟩
  rw [List.getElem?_map] at h1
  cases hj : xs[j]? with
  | none => rw [hj] at h1; cases h1
  | some x0 => rw [hj] at h1; cases h1; exact t.svUp (hr j x0 u hj h2)
theorem Tie.svsDown {w : World} {S : Dh} {m M : List Blk} {H H' : Nat → Value} {r : Nat → Nat} (t : Tie m M H H' r) {xs : List SV} {vs : List Value} (hi : xs.all (SV.inbB m.length) = true) (h : Yl (C9 w S M H') (xs.map (SV.ren r)) vs) : Yl (C9 w S m H) xs vs :=
 ⟨by simpa using h.1, fun j x v h1 h2 => t.svDown (List.all_eq_true.1 hi x (List.mem_of_getElem? h1)) (h.2 j _ v (by rw [List.getElem?_map, h1]; rfl) h2)⟩
theorem Tie.blkUp {base : Nat} {w : World} {S : Dh} {m M : List Blk} {H H' : Nat → Value} {r : Nat → Nat} (t : Tie m M H H' r) {b : Blk} {v : Value} (h : Amj base w S m H b v) : Amj base w S M H' (b.ren r) v := by
 cases b with
 | dead => trivial
 | hole => exact h
 | obj g mk cs => exact h
 | tab mk cs => exact h
 | arr e sz k cs => exact h
 | box cs =>
  obtain ⟨g, e, cur, h1, h2, h3⟩ := h
  exact ⟨g, e, cur, h1, h2, Aj4 (fun l _ v h => t.up h) h3⟩
theorem Tie.blkDown {base : Nat} {w : World} {S : Dh} {m M : List Blk} {H H' : Nat → Value} {r : Nat → Nat} (t : Tie m M H H' r) {b : Blk} {v : Value} (hi : b.inbB m.length = true) (h : Amj base w S M H' (b.ren r) v) : Amj base w S m H b v := by
 cases b with
 | dead => trivial
 | hole => exact h
 | obj g mk cs => exact h
 | tab mk cs => exact h
 | arr e sz k cs => exact h
 | box cs =>
  obtain ⟨g, e, cur, h1, h2, h3⟩ := h
  exact ⟨g, e, cur, h1, h2, Adg (fun l hl v h => t.down (List.all_eq_true.1 hi l hl) h) h3⟩
structure Mem (w : World) (S : Dh) (m : List Blk) (H : Nat → Value) : Prop where
 bl : ∀ (p : Nat) (b : Blk), m[p]? = some b → Amj 0 w S m H b (H p)
 hp : ∀ (p : Nat) (b : Blk) (g : Nat), m[p]? = some b → b.own (H p) = some g → g < w.heap.size
 inj : ∀ (p q : Nat) (b b' : Blk) (g : Nat), m[p]? = some b → m[q]? = some b' → b.own (H p) = some g → b'.own (H q) = some g → p = q
 sb : ∀ (p : Nat) (b : Blk) (g i : Nat), m[p]? = some b → b.own (H p) = some g → S g i → i < b.stab
theorem Rel.mem {c : Ctx} {st : AS} {a : Act} {w : World} {S : Dh} {H : Nat → Value} (r : Rel c st a w S H) : Mem w S st.m H := ⟨r.bl, fun p b g h k => (r.lo p b g h k).2, r.inj, r.sb⟩
theorem Mem.sel {w : World} {S : Dh} {m M : List Blk} {H H' : Nat → Value} {r : Nat → Nat} (t : Tie m M H H' r) (hi : ∀ b ∈ m, b.inbB m.length = true) (hr : ∀ p q, p < m.length → q < m.length → r p = r q → p = q) (k : Mem w S M H') : Mem w S m H := by
 have hlt : ∀ {p b}, m[p]? = some b → p < m.length := fun h => (List.getElem?_eq_some_iff.1 h).1
 refine ⟨fun p b h => ?_, fun p b g h ho => ?_, fun p q b b' g h h' ho ho' => ?_, fun p b g i h ho hs => ?_⟩
 ·have := k.bl _ _ (t.b p b h)
  rw [t.h p (hlt h)] at this
  exact t.blkDown (hi b (List.mem_of_getElem? h)) this
 ·exact k.hp _ _ g (t.b p b h) (by rw [t.h p (hlt h), Blk.ren_own]; exact ho)
 ·exact hr p q (hlt h) (hlt h') (k.inj _ _ _ _ g (t.b p b h) (t.b q b' h') (by rw [t.h p (hlt h), Blk.ren_own]; exact ho) (by rw [t.h q (hlt h'), Blk.ren_own]; exact ho'))
 ·have := k.sb _ _ g i (t.b p b h) (by rw [t.h p (hlt h), Blk.ren_own]; exact ho) hs
  rwa [Blk.ren_stab] at this
def Ar2 (m : List Blk) (H : Nat → Value) (g : Nat) : Prop := ∃ (p : Nat) (b : Blk), m[p]? = some b ∧ b.own (H p) = some g
structure Azh (m : List Blk) (H : Nat → Value) (m' : List Blk) (H' : Nat → Value) : Prop where
 len : m.length ≤ m'.length
 h : ∀ p g, p < m.length → H p = .pointer (some ⟨g, 0, none⟩) → H' p = H p
 r : ∀ p e sz k cs, p < m.length → m'[p]? = some (.arr e sz k cs) → ∃ k' cs', m[p]? = some (.arr e sz k' cs') ∧ ((cs'.length = cs.length ∧ H' p = H p) ∨ cs'.length < cs.length)
 u : ∀ p, p < m.length → H p ≠ undef → H' p ≠ undef
def Hm (P : Program) (f : FuncId) (m : List Blk) (args : List SV) (R : AV → List Blk → Prop) : Prop :=
 ∀ (w : World) (S : Dh) (H : Nat → Value) (vs : Array Value), InH w S → Mem w S m H → Yl (C9 w S m H) args vs.toList →
  Calls P f vs w fun e w' => ∃ v x m' S' H', e = .returned v ∧ R x m' ∧ Xv (Ar2 m H) w S w' S' ∧ InH w' S' ∧ Mem w' S' m' H' ∧
   (∀ (p : Nat) (b : Blk) (g : Nat), m'[p]? = some b → b.own (H' p) = some g → w.heap.size ≤ g ∨ Ar2 m H g) ∧ Azh m H m' H' ∧ AVR (C9 w' S' m' H') x v
theorem Hm.mono {P : Program} {f : FuncId} {m : List Blk} {args : List SV} {R R' : AV → List Blk → Prop} (h : Hm P f m args R) (hr : ∀ x m', R x m' → R' x m') : Hm P f m args R' :=
 fun w S H vs hS hm hv => (h w S H vs hS hm hv).mono fun _ _ ⟨v, x, m', S', H', h1, h2, h3⟩ => ⟨v, x, m', S', H', h1, hr x m' h2, h3⟩
def at_ (ps : List Nat) (j : Nat) : Nat := ps.getD j 0
def Avs (P : Program) (fn : Func) (k : Nat) (R : AV → List Blk → Prop) (e : Exit) (st : AS) : Prop :=
 (e = .normal ∨ e = .ret) ∧ ∃ xs ps ys m', Abg P st fn.results.toList xs ∧ xs = ys.map (SV.ren (at_ ps)) ∧ ps.map (fun p => st.m[p]?) = m'.map (fun b => some (b.ren (at_ ps))) ∧
  (ps.Nodup ∧ ps.take k = List.range k) ∧ ys.all (SV.inbB m'.length) = true ∧ m'.all (Blk.inbB m'.length) = true ∧ R (Afl ys) m'
theorem Ajw {α β γ : Type} {f : α → γ} {g : β → γ} {xs : List α} {ys : List β} (h : xs.map f = ys.map g) : xs.length = ys.length ∧ ∀ (j : Nat) (y : β), ys[j]? = some y → ∃ x, xs[j]? = some x ∧ f x = g y := by
 have hl : xs.length = ys.length := by simpa using congrArg List.length h
 refine ⟨hl, fun j y hy => ?_⟩
 have hj : j < xs.length := by rw [hl]; exact (List.getElem?_eq_some_iff.1 hy).1
 refine ⟨xs[j], List.getElem?_eq_getElem hj, ?_⟩
 have := congrArg (fun l => l[j]?) h
 simp only [List.getElem?_map, hy, List.getElem?_eq_getElem hj, Option.map_some, Option.some.injEq] at this
 exact this
theorem Zm {ps : List Nat} (h : ps.Nodup) {i j x : Nat} (hi : ps[i]? = some x) (hj : ps[j]? = some x) : i = j := by
 have hi' := (List.getElem?_eq_some_iff.1 hi).1
 have hj' := (List.getElem?_eq_some_iff.1 hj).1
 have e1 := (List.getElem?_eq_some_iff.1 hi).2
 have e2 := (List.getElem?_eq_some_iff.1 hj).2
 exact (List.getElem_inj h).1 (e1.trans e2.symm)
theorem Aix {R : Lf → Value → Prop} {us : List Value} {ys : List SV} (h1 : Yl R ys us) : AVR R (Afl ys) (if h : us.toArray.size = 1 then us.toArray[0] else .tuple us.toArray) := by
 match us, ys, h1 with
 | [u], [y], h1 => exact h1.2 0 y u rfl rfl
 | [u], [], h1 => have := h1.1; simp at this
 | [u], _ :: _ :: _, h1 => have := h1.1; simp at this
 | [], [], h1 => exact ⟨#[], rfl, rfl, fun j x u hx => by simp at hx⟩
 | [], _ :: _, h1 => have := h1.1; simp at this
 | _ :: _ :: _, [], h1 => have := h1.1; simp at this
 | _ :: _ :: _, [y], h1 => have := h1.1; simp at this
 | u1 :: u2 :: us, y1 :: y2 :: ys, h1 => exact ⟨(u1 :: u2 :: us).toArray, by simp, by simpa using h1.1, fun j x u hx hu => h1.2 j x u hx (by simpa using hu)⟩
theorem Ada {P : Program} {c : Ctx} {st : AS} {a : Act} {w : World} {S : Dh} {H : Nat → Value} (r : Rel c st a w S H) {fn : Func} {xs : List SV} (h : Abg P st fn.results.toList xs) :
  ∃ us : List Value, Yl (C9 w S st.m H) xs us ∧ (results fn a.tmps).run P w = .ok (if h : us.toArray.size = 1 then us.toArray[0] else .tuple us.toArray) w := by
 obtain ⟨us, hl, hs, hr⟩ := Yg r h
 have hm : (fn.results.mapM (Adv a.tmps)).run P w = .ok us.toArray w := by
  have := Pj (P := P) (Adv a.tmps) w fn.results.toList us hl hr
  rw [Array.mapM_eq_mapM_toList]
  simp only [Sem.run_map, this, Result.andThen_ok]
 refine ⟨us, hs, ?_⟩
 rw [W2, Sem.run_bind, hm]
 rfl
theorem C3 {P : Program} {f : FuncId} {fn : Func} {body : Code} {m : List Blk} {args : List SV} {R : AV → List Blk → Prop} (hf : P.funcs[f]? = some fn) (hb : fn.body = some body) {nt : Nat} (hnt : fn.ntmps = nt) (hn : args.length ≤ nt)
  (h : ∀ w0 S0 X H0, AWC P ⟨w0, S0, nt, X, m, H0⟩ body (Avs P fn m.length R) ⟨Aoe args, m⟩) : Hm P f m args R := by
 subst hnt
 intro w S H vs hS hM hv
 refine calls_of_wp hf hb ?_
 have hlen : vs.size = args.length := by have := hv.1; simp at this; omega
 have hget : ∀ i, (vs ++ Array.replicate (fn.ntmps - vs.size) undef).getD i undef = vs.getD i undef := by
  intro i
  simp only [Array.getD_eq_getD_getElem?, Array.getElem?_append]
  split
  ·rfl
  ·rename_i hi
   rw [Array.getElem?_replicate]
   have : vs[i]? = none := Array.getElem?_eq_none (by omega)
   rw [this]
   split <;> rfl
 have r0 : Rel ⟨w, S, fn.ntmps, Ar2 m H, m, H⟩ ⟨Aoe args, m⟩ { tmps := vs ++ Array.replicate (fn.ntmps - vs.size) undef, defers := [] } w S H := by
  refine ⟨by simp; omega, rfl, fun i => ?_, hM.bl, fun p b g h ho => ⟨.inr ⟨p, b, h, ho⟩, hM.hp p b g h ho⟩, hM.inj, hM.sb, hS, Xv.refl _ w S, Nat.le_refl _, fun p g _ _ => rfl, fun p e sz k cs _ h => ⟨k, cs, h, .inl ⟨rfl, rfl⟩⟩, fun p _ h => h⟩
  rw [hget]
  show AVR _ (match args[i]? with | some x => .s x | none => .tup []) _
  cases ha : args[i]? with
  | none =>
   have : vs[i]? = none := Array.getElem?_eq_none (by rw [hlen]; exact List.getElem?_eq_none_iff.1 ha)
   simp only [Array.getD_eq_getD_getElem?, this, Option.getD_none]
   exact Nr
  | some x =>
   have hi : i < args.length := (List.getElem?_eq_some_iff.1 ha).1
   have hi' : i < vs.size := by omega
   have : vs[i]? = some vs[i] := Array.getElem?_eq_getElem hi'
   simp only [Array.getD_eq_getD_getElem?, this, Option.getD_some]
   exact hv.2 i x _ ha (by simp)
 refine wp_mono (h w S _ _ _ _ _ _ r0) ?_
 rintro e a w1 ⟨st, S1, H1, r, he, xs, ps, ys, m', hx, hxy, hps, ⟨hnd, htk⟩, hiy, him, hR⟩
 obtain ⟨us, hus, hrun⟩ := Ada r hx
 obtain ⟨hpl, hpg⟩ := Ajw hps
 have hat : ∀ {j p : Nat}, ps[j]? = some p → at_ ps j = p := fun {j p} h => by simp [at_, List.getD, h]
 have tie : Tie m' st.m (fun p => H1 (at_ ps p)) H1 (at_ ps) := by
  refine ⟨fun p hp => ?_, fun p _ => rfl, fun p b hb => ?_⟩
  ·obtain ⟨q, hq, hb⟩ := hpg p _ (List.getElem?_eq_getElem hp)
   rw [hat hq]
   exact (List.getElem?_eq_some_iff.1 hb).1
  ·obtain ⟨q, hq, hb'⟩ := hpg p b hb
   rw [hat hq]
   exact hb'
 have hinj : ∀ p q, p < m'.length → q < m'.length → at_ ps p = at_ ps q → p = q := by
  intro p q hp hq e
  have h1 : ps[p]? = some (at_ ps p) := by rw [List.getElem?_eq_getElem (by omega)]; simp [at_, List.getD, List.getElem?_eq_getElem (show p < ps.length by omega)]
  have h2 : ps[q]? = some (at_ ps p) := by rw [e, List.getElem?_eq_getElem (by omega)]; simp [at_, List.getD, List.getElem?_eq_getElem (show q < ps.length by omega)]
  exact Zm hnd h1 h2
 have hmem := Mem.sel tie (List.all_eq_true.1 him) hinj r.mem
 have hkk : ∀ p, p < m.length → at_ ps p = p ∧ p < m'.length := by
  intro p hp
  have h1 : (ps.take m.length)[p]? = some p := by rw [htk]; simp [hp]
  rw [List.getElem?_take, if_pos hp] at h1
  exact ⟨hat h1, by rw [← hpl]; exact (List.getElem?_eq_some_iff.1 h1).1⟩
 have hml : m.length ≤ m'.length := by
  rcases Nat.eq_zero_or_pos m.length with h0 | h0
  ·omega
  ·have := (hkk (m.length - 1) (by omega)).2; omega
 have hkept : Azh m H m' (fun p => H1 (at_ ps p)) := by
  refine ⟨hml, fun p g hp hH => ?_, fun p e sz k cs hp hm => ?_, fun p hp hne => by show H1 (at_ ps p) ≠ undef; rw [(hkk p hp).1]; exact r.ku p hp hne⟩
  ·show H1 (at_ ps p) = H p
   rw [(hkk p hp).1]
   exact r.kh p g hp hH
  ·show ∃ k' cs', m[p]? = some (.arr e sz k' cs') ∧ ((cs'.length = cs.length ∧ H1 (at_ ps p) = H p) ∨ cs'.length < cs.length)
   rw [(hkk p hp).1]
   have hm2 := tie.b p _ hm
   rw [(hkk p hp).1] at hm2
   exact r.kr p e sz k cs hp hm2
 have hav : AVR (C9 w1 S1 m' (fun p => H1 (at_ ps p))) (Afl ys) (if h : us.toArray.size = 1 then us.toArray[0] else .tuple us.toArray) := by
  subst hxy
  exact Aix (tie.svsDown hiy hus)
 have hown : ∀ (p : Nat) (b : Blk) (g : Nat), m'[p]? = some b → b.own (H1 (at_ ps p)) = some g → w.heap.size ≤ g ∨ Ar2 m H g := fun p b g hb ho => (r.lo _ _ g (tie.b p b hb) (by rw [Blk.ren_own]; exact ho)).1
 rcases he with rfl | rfl
 ·exact ⟨r.df, _, hrun, _, _, _, _, _, rfl, hR, r.ex, r.sl, hmem, hown, hkept, hav⟩
 ·exact ⟨r.df, _, hrun, _, _, _, _, _, rfl, hR, r.ex, r.sl, hmem, hown, hkept, hav⟩
end Go.Proofs.YtbjckaahoacbfaaGreatDoor.Abs
namespace Go.Proofs.YtbjckaahoacbfaaGreatDoor.Abs
open Go.RowKit
def rho (ps : List Nat) (n j : Nat) : Nat := match ps[j]? with | some p => p | none => n + (j - ps.length)
def Pf (M : List Blk) : List Nat → List Blk → List Blk
  | p :: ps, b :: bs => Pf (M.set p b) ps bs
  | [], bs => M ++ bs
  | _ :: _, [] => M
theorem Aae : ∀ {ps : List Nat} {bs M : List Blk}, ps.Nodup → (∀ p ∈ ps, p < M.length) → ps.length ≤ bs.length →
    (∀ (j p : Nat), ps[j]? = some p → (Pf M ps bs)[p]? = bs[j]?) ∧ (∀ q, q < M.length → q ∉ ps → (Pf M ps bs)[q]? = M[q]?) ∧ (∀ j, (Pf M ps bs)[M.length + j]? = bs[ps.length + j]?) ∧ (Pf M ps bs).length = M.length + (bs.length - ps.length)
  | [], bs, M, _, _, _ => by
    refine ⟨fun j p h => by simp at h, fun q hq _ => by simp [Pf, List.getElem?_append_left hq], fun j => by rw [Pf, List.getElem?_append_right (by omega)]; simp, by simp [Pf]⟩
  | p :: ps, [], M, _, _, h => by simp at h
  | p :: ps, b :: bs, M, hnd, hlt, hl => by
    have hnd' := List.nodup_cons.1 hnd
    obtain ⟨h1, h2, h3, h4⟩ := Aae (ps := ps) (bs := bs) (M := M.set p b) hnd'.2 (fun q hq => by simpa using hlt q (List.mem_cons_of_mem _ hq)) (by simpa using hl)
    have hp : p < M.length := hlt p (List.mem_cons_self ..)
    refine ⟨fun j q hj => ?_, fun q hq hn => ?_, fun j => ?_, ?_⟩
    · cases j with
      | zero =>
        simp only [List.getElem?_cons_zero, Option.some.injEq] at hj
        subst hj
        show (Pf (M.set p b) ps bs)[p]? = _
        rw [h2 p (by simpa using hp) hnd'.1]
        simp [hp]
      | succ j => exact h1 j q (by simpa using hj)
    · simp only [List.mem_cons, not_or] at hn
      show (Pf (M.set p b) ps bs)[q]? = _
      rw [h2 q (by simpa using hq) hn.2, List.getElem?_set_ne (fun e => hn.1 e.symm)]
    · have := h3 j
      simp only [List.length_set] at this
      show (Pf (M.set p b) ps bs)[M.length + j]? = _
      rw [this]
      simp only [List.length_cons]
      rw [show ps.length + 1 + j = (ps.length + j) + 1 by omega, List.getElem?_cons_succ]
    · show (Pf (M.set p b) ps bs).length = _
      rw [h4]
      simp
inductive Cal (st : AS) : Operand → FuncId → List Lf → List Lf → Prop
  | func (f : FuncId) : Cal st (.func f) f [] []
  | fn (x : Operand) (f : FuncId) (la lb : List Lf) (h : Ca st x = .s (.one (.fn f la lb))) : Cal st x f la lb
  | raw (x : Operand) (f : FuncId) (h : Ca st x = .s (.one (.raw (.func (.func f) #[] #[])))) : Cal st x f [] []
theorem Cal.val {c : Ctx} {st : AS} {a : Act} {w : World} {S : Dh} {H : Nat → Value} (r : Rel c st a w S H) {x : Operand} {f : FuncId} {la lb : List Lf} (h : Cal st x f la lb) :
    ∃ va vb, a.eval x = .func (.func f) va vb ∧ LsR (Ir w S st.m H) la va.toList ∧ LsR (Ir w S st.m H) lb vb.toList := by
  cases h with
  | func => exact ⟨#[], #[], rfl, ⟨rfl, fun j l v h => by simp at h⟩, ⟨rfl, fun j l v h => by simp at h⟩⟩
  | fn _ _ _ _ h =>
    have := Bm r x
    rw [h] at this
    exact this
  | raw _ _ h =>
    have := Bm r x
    rw [h] at this
    exact ⟨#[], #[], Nb this, ⟨rfl, fun j l v h => by simp at h⟩, ⟨rfl, fun j l v h => by simp at h⟩⟩
theorem Ir.up {w : World} {S : Dh} {m : List Blk} {H : Nat → Value} {l : Lf} {v : Value} (h : Ir w S m H l v) : C9 w S m H l v := by
  cases l with
  | fn f a b => exact C9.of_rep h
  | lp p o => exact h
  | mp k p => exact h
  | ls p n => exact h
  | ap p n o => exact h
  | i k n => exact h
  | b x => exact h
  | s x => exact h
  | raw v => exact h
  | sl n cs => exact h
  | cp cs => exact h
  | nix => exact h
theorem Xv.trans2 {X Y : Nat → Prop} {w w' w'' : World} {S S' S'' : Dh} (h : Xv X w S w' S') (k : Xv Y w' S' w'' S'') (hY : ∀ b, b < w.heap.size → ¬ X b → ¬ Y b) : Xv X w S w'' S'' :=
  ⟨k.os.trans h.os, k.tape.trans h.tape, k.output.trans h.output, Nat.le_trans h.size k.size,
   fun b hb hx => (k.blk b (Nat.lt_of_lt_of_le hb h.size) (hY b hb hx)).trans (h.blk b hb hx), fun b i hs => k.sub b i (h.sub b i hs),
   fun b i hs => (k.stab b i (h.sub b i hs)).trans (h.stab b i hs),
   fun b i hb hx hs => h.back b i hb hx (k.back b i (Nat.lt_of_lt_of_le hb h.size) (hY b hb hx) hs)⟩
open Classical in
noncomputable def Als (ps : List Nat) (n : Nat) (Hc H' : Nat → Value) (q : Nat) : Value :=
  if h : ∃ j : Nat, ps[j]? = some q then H' (Classical.choose h) else if q < n then Hc q else H' (ps.length + (q - n))
theorem Ahl {P : Program} {c : Ctx} {t : Nat → AV} {M : List Blk} {a : Act} {w : World} {S : Dh} {Hc : Nat → Value} (r : Rel c ⟨t, M⟩ a w S Hc) {f : FuncId} {m : List Blk} {ys : List SV} {R : AV → List Blk → Prop} (hc : Hm P f m ys R) {vs : Array Value} {ps : List Nat}
    (hxs : Yl (C9 w S M Hc) (ys.map (SV.ren (rho ps M.length))) vs.toList) (hps : ps.map (fun p => M[p]?) = m.map (fun b => some (b.ren (rho ps M.length)))) (hnd : ps.Nodup) (hiy : ys.all (SV.inbB m.length) = true) (him : m.all (Blk.inbB m.length) = true) :
    Calls P f vs w fun e w' => ∃ v x m' S' H', e = .returned v ∧ R x m' ∧ Rel c ⟨t, Pf M ps (m'.map (Blk.ren (rho ps M.length)))⟩ a w' S' H' ∧ AVR (C9 w' S' (Pf M ps (m'.map (Blk.ren (rho ps M.length)))) H') (x.ren (rho ps M.length)) v := by
  obtain ⟨hpl, hpg⟩ := Ajw hps
  generalize hn : M.length = n at *
  have hr : ∀ {j p : Nat}, ps[j]? = some p → rho ps n j = p := fun {j p} h => by simp [rho, h]
  have hr2 : ∀ {j : Nat}, ps.length ≤ j → rho ps n j = n + (j - ps.length) := fun {j} h => by simp [rho, List.getElem?_eq_none h]
  have hplt : ∀ {j p : Nat}, ps[j]? = some p → p < n := fun {j p} h => by
    have hj : j < m.length := by rw [← hpl]; exact (List.getElem?_eq_some_iff.1 h).1
    obtain ⟨q, hq, hb⟩ := hpg j _ (List.getElem?_eq_getElem hj)
    rw [h] at hq; cases hq
    rw [← hn]
    exact (List.getElem?_eq_some_iff.1 hb).1
  have tie : Tie m M (fun j => Hc (rho ps n j)) Hc (rho ps n) := by
    refine ⟨fun p hp => ?_, fun p _ => rfl, fun p b hb => ?_⟩
    · obtain ⟨q, hq, hb⟩ := hpg p _ (List.getElem?_eq_getElem hp)
      rw [hr hq, hn]; exact hplt hq
    · obtain ⟨q, hq, hb'⟩ := hpg p b hb
      rw [hr hq]
      exact hb'
  have hget : ∀ {j}, j < ps.length → ps[j]? = some (rho ps n j) := fun {j} h => by
    have := List.getElem?_eq_getElem h
    rw [this, hr this]
  have hinj : ∀ p q, rho ps n p = rho ps n q → p = q := by
    intro p q e
    rcases Nat.lt_or_ge p ps.length with hp | hp <;> rcases Nat.lt_or_ge q ps.length with hq | hq
    · exact Zm hnd (hget hp) (by rw [e]; exact hget hq)
    · have := hplt (hget hp); rw [e, hr2 hq] at this; omega
    · have := hplt (hget hq); rw [← e, hr2 hp] at this; omega
    · rw [hr2 hp, hr2 hq] at e; omega
  have mem := Mem.sel tie (List.all_eq_true.1 him) (fun p q _ _ => hinj p q) r.mem
  refine (hc w S _ vs r.sl mem (tie.svsDown hiy hxs)).mono ?_
  rintro e w' ⟨v, x, m', S', H', he, hR, ext, hin, mem', hown', kept, hav⟩
  refine ⟨v, x, m', S', Als ps n Hc H', he, hR, ?_⟩
  have hpl' : ps.length ≤ (m'.map (Blk.ren (rho ps n))).length := by simp; rw [hpl]; exact kept.len
  obtain ⟨g1, g2, g3, g4⟩ := Aae (ps := ps) (bs := m'.map (Blk.ren (rho ps n))) (M := M) hnd (fun p hp => by
    obtain ⟨j, hj, hjp⟩ := List.getElem_of_mem hp
    rw [hn]; exact hplt (by rw [List.getElem?_eq_getElem hj, hjp])) hpl'
  rw [hn] at g2 g3 g4
  generalize hM' : Pf M ps (m'.map (Blk.ren (rho ps n))) = M' at *
  have hmp : ps.length ≤ m'.length := by simpa using hpl'
  simp only [List.length_map] at g4
  have hH1 : ∀ j, Als ps n Hc H' (rho ps n j) = H' j := by
    intro j
    unfold Als
    rcases Nat.lt_or_ge j ps.length with hj | hj
    · have hex : ∃ j' : Nat, ps[j']? = some (rho ps n j) := ⟨j, hget hj⟩
      rw [dif_pos hex, Zm hnd (Classical.choose_spec hex) (hget hj)]
    · rw [dif_neg, if_neg (by rw [hr2 hj]; omega), hr2 hj]
      · congr 1; omega
      · rintro ⟨j', h⟩
        have := hplt h
        rw [hr2 hj] at this; omega
  have hH2 : ∀ q, q < n → (∀ j : Nat, ps[j]? ≠ some q) → Als ps n Hc H' q = Hc q := by
    intro q hq hne
    unfold Als
    rw [dif_neg (fun ⟨j, h⟩ => hne j h), if_pos hq]
  have tie' : Tie m' M' H' (Als ps n Hc H') (rho ps n) := by
    have hb : ∀ p b, m'[p]? = some b → M'[rho ps n p]? = some (b.ren (rho ps n)) := by
      intro p b hb
      rcases Nat.lt_or_ge p ps.length with hp | hp
      · rw [g1 p _ (hget hp), List.getElem?_map, hb]; rfl
      · rw [hr2 hp, g3, show ps.length + (p - ps.length) = p by omega, List.getElem?_map, hb]; rfl
    exact ⟨fun p hp => (List.getElem?_eq_some_iff.1 (hb p _ (List.getElem?_eq_getElem hp))).1, fun p _ => hH1 p, hb⟩
  have cls : ∀ (q : Nat) (b : Blk), M'[q]? = some b → (∃ j b0, m'[j]? = some b0 ∧ q = rho ps n j ∧ b = b0.ren (rho ps n)) ∨ (q < n ∧ (∀ j : Nat, ps[j]? ≠ some q) ∧ M[q]? = some b) := by
    intro q b hb
    have hq := (List.getElem?_eq_some_iff.1 hb).1
    rw [g4] at hq
    have old : ∀ j, j < m'.length → q = rho ps n j → ∃ j b0, m'[j]? = some b0 ∧ q = rho ps n j ∧ b = b0.ren (rho ps n) := by
      intro j hj e
      refine ⟨j, m'[j], List.getElem?_eq_getElem hj, e, ?_⟩
      have := tie'.b j _ (List.getElem?_eq_getElem hj)
      rw [← e, hb] at this
      exact Option.some.inj this
    by_cases hex : ∃ j : Nat, ps[j]? = some q
    · obtain ⟨j, hj⟩ := hex
      have hjl := (List.getElem?_eq_some_iff.1 hj).1
      exact .inl (old j (by omega) (hr hj).symm)
    · have hne : ∀ j : Nat, ps[j]? ≠ some q := fun j h => hex ⟨j, h⟩
      rcases Nat.lt_or_ge q n with h | h
      · refine .inr ⟨h, hne, ?_⟩
        rw [← g2 q h (fun hm => by obtain ⟨j, hj, hjp⟩ := List.getElem_of_mem hm; exact hne j (by rw [List.getElem?_eq_getElem hj, hjp]))]
        exact hb
      · exact .inl (old (ps.length + (q - n)) (by omega) (by rw [hr2 (by omega)]; omega))
  have hnX : ∀ (q : Nat) (b : Blk) (g : Nat), (∀ j : Nat, ps[j]? ≠ some q) → M[q]? = some b → b.own (Hc q) = some g → ¬ Ar2 m (fun j => Hc (rho ps n j)) g := by
    rintro q b g hne hb ho ⟨j, b1, h1, h2⟩
    have e := r.inj q (rho ps n j) b _ g hb (tie.b j b1 h1) ho (by rw [Blk.ren_own]; exact h2)
    have hj : j < ps.length := by rw [hpl]; exact (List.getElem?_eq_some_iff.1 h1).1
    exact hne j (by rw [e]; exact hget hj)
  have hX : ∀ g, Ar2 m (fun j => Hc (rho ps n j)) g → c.w0.heap.size ≤ g ∨ c.X g := by
    rintro g ⟨j, b1, h1, h2⟩
    exact (r.lo _ _ g (tie.b j b1 h1) (by rw [Blk.ren_own]; exact h2)).1
  have hkp : ∀ b i, S b i → S' b i ∧ w'.cell? ⟨b, i, none⟩ = w.cell? ⟨b, i, none⟩ := fun b i hs => ⟨ext.sub b i hs, ext.stab b i hs⟩
  have hHp : ∀ p g, p < n → Hc p = .pointer (some ⟨g, 0, none⟩) → Als ps n Hc H' p = Hc p := by
    intro p g hp hg
    by_cases hex : ∃ j : Nat, ps[j]? = some p
    · obtain ⟨j, hj⟩ := hex
      have hjm : j < m.length := by rw [← hpl]; exact (List.getElem?_eq_some_iff.1 hj).1
      have h1 := kept.h j g hjm (by show Hc (rho ps n j) = _; rw [hr hj]; exact hg)
      have h2 := hH1 j
      rw [hr hj] at h2
      rw [h2, h1]
      show Hc (rho ps n j) = _
      rw [hr hj]
    · exact hH2 p hp (fun j h => hex ⟨j, h⟩)
  have harr : ∀ p e sz k cs, p < n → M'[p]? = some (.arr e sz k cs) → ∃ k' cs', M[p]? = some (.arr e sz k' cs') ∧ ((cs'.length = cs.length ∧ Als ps n Hc H' p = Hc p) ∨ cs'.length < cs.length) := by
    intro p e sz k cs hp hm
    by_cases hex : ∃ j : Nat, ps[j]? = some p
    · obtain ⟨j, hj⟩ := hex
      have hjm : j < m.length := by rw [← hpl]; exact (List.getElem?_eq_some_iff.1 hj).1
      have hm' : m'[j]? = some (.arr e sz k cs) := (tie'.arr (Nat.lt_of_lt_of_le hjm kept.len)).1 (by rw [hr hj]; exact hm)
      obtain ⟨k', cs', h1, h2⟩ := kept.r j e sz k cs hjm hm'
      have h3 := tie.b j _ h1
      rw [hr hj] at h3
      refine ⟨k', cs', h3, ?_⟩
      have h4 := hH1 j
      rw [hr hj] at h4
      rw [h4]
      rcases h2 with ⟨h2, h5⟩ | h2
      · refine .inl ⟨h2, ?_⟩
        rw [h5]
        show Hc (rho ps n j) = _
        rw [hr hj]
      · exact .inr h2
    · have hne : ∀ j : Nat, ps[j]? ≠ some p := fun j h => hex ⟨j, h⟩
      rcases cls p _ hm with ⟨j, b0, h1, h2, h3⟩ | ⟨_, _, h3⟩
      · rcases Nat.lt_or_ge j ps.length with hj | hj
        · exact absurd (by rw [h2]; exact hget hj) (hne j)
        · rw [hr2 hj] at h2; omega
      · exact ⟨k, cs, h3, .inl ⟨rfl, hH2 p hp hne⟩⟩
  have hun : ∀ p, p < n → Hc p ≠ undef → Als ps n Hc H' p ≠ undef := by
    intro p hp hne0
    by_cases hex : ∃ j : Nat, ps[j]? = some p
    · obtain ⟨j, hj⟩ := hex
      have hjm : j < m.length := by rw [← hpl]; exact (List.getElem?_eq_some_iff.1 hj).1
      have h1 := kept.u j hjm (by show Hc (rho ps n j) ≠ _; rw [hr hj]; exact hne0)
      have h2 := hH1 j
      rw [hr hj] at h2
      rw [h2]; exact h1
    · rw [hH2 p hp (fun j h => hex ⟨j, h⟩)]; exact hne0
  have hgr : ∀ l u, C9 w S M Hc l u → C9 w' S' M' (Als ps n Hc H') l u := fun l u => C9.mono2 hkp (by rw [hn, g4]; omega) (fun p g hp => hHp p g (by rw [← hn]; exact hp)) (fun p hp => hun p (by rw [← hn]; exact hp)) (fun p e sz k cs hp => harr p e sz k cs (by rw [← hn]; exact hp))
  refine ⟨⟨r.nt, r.df, fun i => AVR.mono hgr (r.tm i), fun q b hb => ?_, fun q b g hb ho => ?_, fun q q' b b' g hb hb' ho ho' => ?_, fun q b g i hb ho hs => ?_, hin, ?_, ?_, fun p g hp hh => ?_, fun p e sz k cs hp hm => ?_, fun p hp hne0 => hun p (by have h9 : c.m0.length ≤ M.length := r.kl; omega) (r.ku p hp hne0)⟩, tie'.avUp hav⟩
  · rcases cls q b hb with ⟨j, b0, h1, rfl, rfl⟩ | ⟨h1, h2, h3⟩
    · rw [hH1]
      exact tie'.blkUp (mem'.bl j b0 h1)
    · rw [hH2 q h1 h2]
      have hbr := r.bl q b h3
      have hsame : ∀ g, b.own (Hc q) = some g → w'.heap[g]? = w.heap[g]? := fun g ho => ext.blk g (r.lo q b g h3 ho).2 (hnX q b g h2 h3 ho)
      cases b with
      | dead => trivial
      | hole => exact hbr
      | obj g mk cs =>
        obtain ⟨k1, vs, o, k2, k3, k4, k5⟩ := hbr
        exact ⟨k1, vs, o, (hsame g (by rw [k1]; rfl)).trans k2, k3, k4, k5.mono (fun l v => Rep.mono hkp)⟩
      | tab mk cs =>
        obtain ⟨g, k1, vs, o, k2, k3, k4, k5⟩ := hbr
        exact ⟨g, k1, vs, o, (hsame g (by rw [k1]; rfl)).trans k2, k3, k4, k5.mono (fun l v => Rep.mono hkp)⟩
      | box cs =>
        obtain ⟨g, e, cur, k1, k2, k3⟩ := hbr
        exact ⟨g, e, cur, k1, (hsame g (by rw [k1]; rfl)).trans k2, k3.mono hgr⟩
      | arr e sz k cs =>
        obtain ⟨h0, hk1, nn, vals, k1, k2, k3⟩ := hbr
        exact ⟨h0, hk1, nn, vals, Kx k1 (fun g hg => hsame g hg), k2.mono (fun l v => Rep.mono hkp), fun g hg i hi => ext.sub g i (k3 g hg i hi)⟩
  · rcases cls q b hb with ⟨j, b0, h1, rfl, rfl⟩ | ⟨h1, h2, h3⟩
    · rw [hH1, Blk.ren_own] at ho
      refine ⟨?_, mem'.hp j b0 g h1 ho⟩
      rcases hown' j b0 g h1 ho with h | h
      · exact .inl (Nat.le_trans r.ex.size h)
      · exact hX g h
    · rw [hH2 q h1 h2] at ho
      have := r.lo q b g h3 ho
      exact ⟨this.1, Nat.lt_of_lt_of_le this.2 ext.size⟩
  · have Kd : ∀ (j : Nat) (b0 : Blk) (q : Nat) (b : Blk), m'[j]? = some b0 → b0.own (H' j) = some g → (∀ j : Nat, ps[j]? ≠ some q) → M[q]? = some b → b.own (Hc q) = some g → False := by
      intro j b0 q b h1 h2 h3 h4 h5
      rcases hown' j b0 g h1 h2 with h | h
      · have := (r.lo q b g h4 h5).2; omega
      · exact hnX q b g h3 h4 h5 h
    rcases cls q b hb with ⟨j, b0, h1, rfl, rfl⟩ | ⟨h1, h2, h3⟩ <;> rcases cls q' b' hb' with ⟨j', b0', h1', rfl, rfl⟩ | ⟨h1', h2', h3'⟩
    · rw [hH1, Blk.ren_own] at ho ho'
      rw [mem'.inj j j' b0 b0' g h1 h1' ho ho']
    · rw [hH1, Blk.ren_own] at ho
      rw [hH2 q' h1' h2'] at ho'
      exact (Kd j b0 q' b' h1 ho h2' h3' ho').elim
    · rw [hH1, Blk.ren_own] at ho'
      rw [hH2 q h1 h2] at ho
      exact (Kd j' b0' q b h1' ho' h2 h3 ho).elim
    · rw [hH2 q h1 h2] at ho
      rw [hH2 q' h1' h2'] at ho'
      exact r.inj q q' b b' g h3 h3' ho ho'
  · rcases cls q b hb with ⟨j, b0, h1, rfl, rfl⟩ | ⟨h1, h2, h3⟩
    · rw [hH1, Blk.ren_own] at ho
      rw [Blk.ren_stab]
      exact mem'.sb j b0 g i h1 ho hs
    · rw [hH2 q h1 h2] at ho
      exact r.sb q b g i h3 ho (ext.back g i (r.lo q b g h3 ho).2 (hnX q b g h2 h3 ho) hs)
  · refine r.ex.trans2 ext (fun b hb hx hX' => ?_)
    rcases hX b hX' with h | h
    · omega
    · exact hx h
  · have := r.kl
    simp only [hn] at this
    show c.m0.length ≤ M'.length
    omega
  · have h1 := r.kh p g hp hh
    rw [← h1]
    have := r.kl
    simp only [hn] at this
    exact hHp p g (by omega) (h1.trans hh)
  · have hkl := r.kl
    simp only [hn] at hkl
    obtain ⟨k1, cs1, h1, h2⟩ := harr p e sz k cs (by omega) hm
    obtain ⟨k2, cs2, h3, h4⟩ := r.kr p e sz k1 cs1 hp h1
    refine ⟨k2, cs2, h3, ?_⟩
    rcases h2 with ⟨h2, hv⟩ | h2 <;> rcases h4 with ⟨h4, hv4⟩ | h4
    · exact .inl ⟨h4.trans h2, hv.trans hv4⟩
    · exact .inr (by omega)
    · exact .inr (by omega)
    · exact .inr (by omega)
end Go.Proofs.YtbjckaahoacbfaaGreatDoor.Abs
namespace Go.Proofs.YtbjckaahoacbfaaGreatDoor.Abs
open Go.RowKit
section
variable {P : Program} {c : Ctx} {t : Nat → AV} {M : List Blk} {ops : Array Oper} {Q : Exit → AS → Prop} {rest : List Oper} {ty : TypeId} {pos : String} {af : Array Edge} {d : Tmp}
theorem T2 {R : Lf → Value → Prop} {xs ys : List SV} {us vs : List Value} (h : Yl R xs us) (k : Yl R ys vs) : Yl R (xs ++ ys) (us ++ vs) := by
 refine ⟨by simp [h.1, k.1], fun j x v h1 h2 => ?_⟩
 by_cases hj : j < xs.length
 ·rw [List.getElem?_append_left hj] at h1
  rw [List.getElem?_append_left (by rw [← h.1]; exact hj)] at h2
  exact h.2 j x v h1 h2
 ·rw [List.getElem?_append_right (by omega)] at h1
  rw [List.getElem?_append_right (by rw [← h.1]; omega), ← h.1] at h2
  exact k.2 _ x v h1 h2
theorem X3 {w : World} {S : Dh} {m : List Blk} {H : Nat → Value} {ls : List Lf} {vs : List Value} (h : LsR (Ir w S m H) ls vs) : Yl (C9 w S m H) (ls.map SV.one) vs :=
 ⟨by simpa using h.1, fun j x v h1 h2 => by
  rw [List.getElem?_map] at h1
  cases hj : ls[j]? with
  | none => rw [hj] at h1; cases h1
  | some l => rw [hj] at h1; cases h1; exact Ir.up (h.2 j l v hj h2)⟩
theorem Aio {a : Act} {w : World} {S : Dh} {H : Nat → Value} (r : Rel c ⟨t, M⟩ a w S H) {callee : Operand} {f : FuncId} {la lb : List Lf} {args : Array Operand} {ats : Array TypeId} {xs : List SV} (hf : FnI P f) (hcal : Cal ⟨t, M⟩ callee f la lb) (ho : Xu ⟨t, M⟩ args.toList xs) (dst : Option Tmp) :
  ∃ vs : Array Value, Yl (C9 w S M H) (la.map SV.one ++ xs ++ lb.map SV.one) vs.toList ∧ (execOp a.eval ⟨dst, .call { callee := .value callee, args := args, argTypes := ats }, ty, pos, af, none⟩).run P w = .ok (.enter f vs) w := by
 obtain ⟨va, vb, hv, h1, h2⟩ := hcal.val r
 refine ⟨va ++ args.map a.eval ++ vb, ?_, ?_⟩
 ·have := T2 (T2 (X3 h1) (Rn r ho)) (X3 h2)
  simpa using this
 ·simp [execOp, resolve, hv, Deferred.ofValue, invoke, hf.run]
theorem Da {callee : Operand} {f : FuncId} {la lb : List Lf} {args : Array Operand} {ats : Array TypeId} {xs ys : List SV} {m m1 M' : List Blk} {x x' : AV} (ps : List Nat) (hd : decide (d < c.nt) = true) (hf : FnI P f) (hcal : Cal ⟨t, M⟩ callee f la lb) (ho : Xu ⟨t, M⟩ args.toList xs)
  (hc : Hm P f m ys (fun y m' => y = x ∧ m' = m1)) (hxs : la.map SV.one ++ xs ++ lb.map SV.one = ys.map (SV.ren (rho ps M.length))) (hps : ps.map (fun p => M[p]?) = m.map (fun b => some (b.ren (rho ps M.length)))) (hnd : ps.Nodup)
  (hi : (ys.all (SV.inbB m.length) && m.all (Blk.inbB m.length)) = true) (hx : x.ren (rho ps M.length) = x') (hM : Pf M ps (m1.map (Blk.ren (rho ps M.length))) = M')
  (k : AWL P c ops Q rest ⟨upd t d x', M'⟩) : AWL P c ops Q (⟨some d, .call { callee := .value callee, args := args, argTypes := ats }, ty, pos, af, none⟩ :: rest) ⟨t, M⟩ := by
 intro a w S H r
 obtain ⟨vs, hvs, hrun⟩ := Aio (pos := pos) (af := af) (ty := ty) (ats := ats) r hf hcal ho (some d)
 rw [hxs] at hvs
 simp only [Bool.and_eq_true] at hi
 refine wpList_plain rfl fun K hK => ?_
 unfold Oper.wp
 rw [hrun]
 refine (Ahl r hc hvs hps hnd hi.1 hi.2).mono ?_
 rintro e w' ⟨v, y, m', S', H', rfl, ⟨rfl, rfl⟩, r', hav⟩
 subst hx; subst hM
 exact hK _ _ (k _ _ _ _ (r'.put (of_decide_eq_true hd) hav))
def Lf.noFn : Lf → Bool
 | .fn .. => false
 | _ => true
def Yh (st : AS) : List Operand → List Lf → Prop
 | [], xs => xs = []
 | o :: os, xs => ∃ l r, Ca st o = .s (.one l) ∧ l.noFn = true ∧ Yh st os r ∧ xs = l :: r
theorem Tw {st : AS} : Yh st [] [] := rfl
theorem Uy {st : AS} {o : Operand} {os : List Operand} {l : Lf} {r : List Lf} (h : Ca st o = .s (.one l)) (hl : l.noFn = true) (t : Yh st os r) : Yh st (o :: os) (l :: r) := ⟨l, r, h, hl, t, rfl⟩
theorem Ws {st : AS} {a : Act} {w : World} {S : Dh} {H : Nat → Value} (r : Rel c st a w S H) : ∀ {os : List Operand} {xs : List Lf}, Yh st os xs → LsR (Ir w S st.m H) xs (os.map a.eval)
 | [], xs, h => by cases h; exact ⟨rfl, fun j x v h => by simp at h⟩
 | o :: os, xs, h => by
  obtain ⟨l, rr, h1, hl, h2, rfl⟩ := h
  have ih := Ws r h2
  have h0 := Bm r o
  rw [h1] at h0
  have h0' : Ir w S st.m H l (a.eval o) := by
   have h00 : C9 w S st.m H l (a.eval o) := h0
   cases l <;> first | exact h00 | (simp [Lf.noFn] at hl)
  refine ⟨by simp [ih.1], fun j y v hy hv => ?_⟩
  cases j with
  | zero => simp only [List.getElem?_cons_zero, List.map_cons, Option.some.injEq] at hy hv; subst hy; subst hv; exact h0'
  | succ j => exact ih.2 j y v (by simpa using hy) (by simpa using hv)
theorem Xi {st : AS} {f : FuncId} {fi cp : Array Operand} {la lb : List Lf} (h1 : Yh st fi.toList la) (h2 : Yh st cp.toList lb) : OpV P c st (.makeFunc (.func f) fi cp) ty (.s (.one (.fn f la lb))) := by
 intro a w S H r
 have e1 := Ws r h1
 have e2 := Ws r h2
 exact ⟨.func (.func f) (fi.map a.eval) (cp.map a.eval), ⟨_, _, rfl, by simpa using e1, by simpa using e2⟩, fun _ _ _ _ => by simp [execOp, Instr.makeFunc]⟩
theorem Ar9 {x : Code} (i : Nat) {y z : SV} {m' : List Blk} (hx : t i = .s y) (hp : Ke M y z m') (k : AWC P c x Q ⟨upd t i (.s z), m'⟩) : AWC P c x Q ⟨t, M⟩ := by
 intro a w S H r
 obtain ⟨S', k1, g1⟩ := hp.keeps r
 have h := r.tm i
 have hxx : (AS.mk t M).t i = .s y := hx
 rw [hxx] at h
 have hy := g1 _ h
 have r' := k1.rel
 refine k a w S' H ⟨r'.nt, r'.df, fun j => ?_, r'.bl, r'.lo, r'.inj, r'.sb, r'.sl, r'.ex, r'.kl, r'.kh, r'.kr, r'.ku⟩
 show AVR _ (upd t i _ j) _
 rw [H2]
 by_cases e : j = i
 ·subst e
  rw [if_pos rfl]
  exact SVR.mono (fun _ _ => C9.of_rep) hy
 ·rw [if_neg e]
  exact r'.tm j
theorem AWC.mono {x : Code} {st : AS} {Q Q' : Exit → AS → Prop} (h : AWC P c x Q st) (hq : ∀ e st, Q e st → Q' e st) : AWC P c x Q' st := fun a w S H r =>
 wp_mono (h a w S H r) fun e a w ⟨st, S, H, r, h⟩ => ⟨st, S, H, r, hq e st h⟩
def Avd {G : Type} (sl : G → List (Nat × AV)) (mm : G → List Blk) (pre : G → Prop) (st : AS) : Prop := ∃ g ex, pre g ∧ Ye st.t (sl g) ∧ st.m = mm g ++ ex
theorem Abe {G : Type} {sl : G → List (Nat × AV)} {mm : G → List Blk} {pre : G → Prop} {x : Code} {Q : Exit → AS → Prop} {st : AS} (h : Avd sl mm pre st) (hin : ∀ g, pre g → Ami (mm g).length (sl g)) (hmin : ∀ g, pre g → ∀ b ∈ mm g, b.inb (mm g).length) (hk : ∀ g, pre g → c.m0.length ≤ (mm g).length)
  (hy : ∀ g, pre g → AWC P c x Q ⟨Afo (fun _ => .top) (sl g), mm g⟩) : AWC P c x Q st := by
 obtain ⟨g, ex, hp, hs, hm⟩ := h
 intro a w S H r
 have r0 : Rel c ⟨st.t, mm g ++ ex⟩ a w S H := by rw [← hm]; exact r
 exact hy g hp a w S H (r0.trim (Pm hs (hin g hp)) (hmin g hp) (hk g hp))
theorem Gg {x y : Code} {Q Q' : Exit → AS → Prop} {st : AS} (G : Type) (sl : G → List (Nat × AV)) (mm : G → List Blk) (pre : G → Prop) (hin : ∀ g, pre g → Ami (mm g).length (sl g)) (hmin : ∀ g, pre g → ∀ b ∈ mm g, b.inb (mm g).length) (hk : ∀ g, pre g → c.m0.length ≤ (mm g).length)
  (hy : ∀ g, pre g → AWC P c y Q ⟨Afo (fun _ => .top) (sl g), mm g⟩) (hx : AWC P c x (Qv (Avd sl mm pre) Q') st) : AWC P c x (Qv (AWC P c y Q) Q') st := by
 refine hx.mono fun e st h => ?_
 cases e with
 | normal => exact Abe h hin hmin hk hy
 | _ => exact h
theorem Jk {x y z : Code} {Q Q' Q'' : Exit → AS → Prop} {st : AS} (G : Type) (sl : G → List (Nat × AV)) (mm : G → List Blk) (pre : G → Prop) (hin : ∀ g, pre g → Ami (mm g).length (sl g)) (hmin : ∀ g, pre g → ∀ b ∈ mm g, b.inb (mm g).length) (hk : ∀ g, pre g → c.m0.length ≤ (mm g).length)
  (hy : ∀ g, pre g → AWC P c z Q ⟨Afo (fun _ => .top) (sl g), mm g⟩) (hx : AWC P c x (Qv (AWC P c y (Qv (Avd sl mm pre) Q'')) Q') st) : AWC P c x (Qv (AWC P c y (Qv (AWC P c z Q) Q'')) Q') st := by
 refine hx.mono fun e st h => ?_
 cases e with
 | normal =>
  refine AWC.mono h fun e st h => ?_
  cases e with
  | normal => exact Abe h hin hmin hk hy
  | _ => exact h
 | _ => exact h
def AV.inbB (n : Nat) : AV → Bool
 | .s x => x.inbB n
 | .tup xs => xs.all (SV.inbB n)
 | .top => true
theorem Ait {n : Nat} {l : Lf} (h : l.inbB n = true) : l.inb n = true := by
 cases l with
 | fn f la lb =>
  simp only [Lf.inbB, Bool.and_eq_true, List.all_eq_true] at h
  simp only [Lf.inb, Bool.and_eq_true, List.all_eq_true]
  refine ⟨fun x hx => ?_, fun x hx => ?_⟩
  ·have := h.1 x hx; cases x <;> first | rfl | exact this
  ·have := h.2 x hx; cases x <;> first | rfl | exact this
 | _ => first | rfl | exact h
theorem Ago {n : Nat} {x : SV} (h : x.inbB n = true) : x.inb n := by
 cases x with
 | one l => exact Ait h
 | agg ls => exact fun l hl => Ait (List.all_eq_true.1 h l hl)
theorem A6 {n : Nat} : ∀ {l : List (Nat × AV)}, (l.all fun p => p.2.inbB n) = true → Ami n l
 | [], _ => trivial
 | (i, x) :: r, h => by
  simp only [List.all_cons, Bool.and_eq_true] at h
  refine ⟨?_, A6 h.2⟩
  cases x with
  | s x => exact Ago h.1
  | tup xs => exact fun y hy => Ago (List.all_eq_true.1 h.1 y hy)
  | top => trivial
theorem Ar {n : Nat} {m : List Blk} (h : m.all (Blk.inbB n) = true) : ∀ b ∈ m, b.inb n := by
 intro b hb
 have := List.all_eq_true.1 h b hb
 cases b with
 | box cs => exact fun l hl => Ait (List.all_eq_true.1 this l hl)
 | _ => trivial
theorem Bs {l : List Oper} (M' : List Blk) (e : M = M') (k : AWL P c ops Q l ⟨t, M'⟩) : AWL P c ops Q l ⟨t, M⟩ := by subst e; exact k
end
end Go.Proofs.YtbjckaahoacbfaaGreatDoor.Abs
namespace Go.Proofs.YtbjckaahoacbfaaGreatDoor.Abs
abbrev wI (n : Int) : Int := IntKind.i64.wrap n
def idx {α : Type} (xs : List α) (j : Int) : Option α := if 0 ≤ j then xs[j.toNat]? else none
def cut {α : Type} (xs : List α) (lo hi : Int) : Option (List α) := if 0 ≤ lo ∧ lo ≤ hi ∧ hi ≤ xs.length then some ((xs.drop lo.toNat).take (hi.toNat - lo.toNat)) else none
inductive LR (σ β ρ : Type) where
 | cont (s : σ)
 | brk (b : β)
 | ret (r : ρ)
inductive LB (σ β : Type) where
 | cont (s : σ)
 | brk (b : β)
def Qx {σ β ρ : Type} (f : σ → Option (LR σ β ρ)) : Nat → σ → Option (Sum ρ β)
 | 0, _ => none
 | n + 1, s => match f s with
  | none => none
  | some (.cont s') => Qx f n s'
  | some (.brk b) => some (.inr b)
  | some (.ret r) => some (.inl r)
def Ec {σ β : Type} (f : σ → Option (LB σ β)) : Nat → σ → Option β
 | 0, _ => none
 | n + 1, s => match f s with
  | none => none
  | some (.cont s') => Ec f n s'
  | some (.brk b) => some b
def fuel : Nat := 1000000000000000000000000
theorem Ag {α β : Type} {o : Option α} {f : α → Option β} {r : β} (h : o.bind f = some r) : ∃ u, o = some u ∧ f u = some r := by
 cases o with
 | none => cases h
 | some u => exact ⟨u, rfl, h⟩
theorem Br {α : Type} {b : Bool} {x y : Option α} {r : α} (hb : b = true) (h : (if b then x else y) = some r) : x = some r := by subst hb; exact h
theorem Bq {α : Type} {b : Bool} {x y : Option α} {r : α} (hb : b = false) (h : (if b then x else y) = some r) : y = some r := by subst hb; exact h
theorem Dx {α : Type} {p : Prop} [Decidable p] {x : Option α} {r : α} (h : (if p then x else none) = some r) : p ∧ x = some r := by
 by_cases hp : p
 ·rw [if_pos hp] at h; exact ⟨hp, h⟩
 ·rw [if_neg hp] at h; cases h
theorem Vy {α : Type} {xs : List α} {j : Int} {u : α} (h : idx xs j = some u) : 0 ≤ j ∧ xs[j.toNat]? = some u := Dx h
theorem Akd {α : Type} {xs : List α} {j : Int} {u : α} (h : idx xs j = some u) : 0 ≤ j ∧ j < xs.length := by
 obtain ⟨h0, h1⟩ := Vy h
 have := (List.getElem?_eq_some_iff.1 h1).1
 omega
theorem L9 {α : Type} {xs ys : List α} {lo hi : Int} (h : cut xs lo hi = some ys) : (0 ≤ lo ∧ lo ≤ hi ∧ hi ≤ xs.length) ∧ ys = (xs.drop lo.toNat).take (hi.toNat - lo.toNat) := by
 unfold cut at h
 obtain ⟨h0, h1⟩ := Dx h
 exact ⟨h0, (Option.some.inj h1).symm⟩
theorem Fj {σ β : Type} {f : σ → Option (LB σ β)} {n : Nat} {s : σ} {x : β} (h : Ec f n s = some x) :
  ∃ m y, n = m + 1 ∧ f s = some y ∧ (match y with | .cont s' => Ec f m s' = some x | .brk b => b = x) := by
 cases n with
 | zero => cases h
 | succ m =>
  rw [Ec] at h
  cases hf : f s with
  | none => rw [hf] at h; cases h
  | some y =>
   rw [hf] at h
   refine ⟨m, y, rfl, rfl, ?_⟩
   cases y with
   | cont s' => exact h
   | brk b => exact Option.some.inj h
theorem Oa {σ β ρ : Type} {f : σ → Option (LR σ β ρ)} {n : Nat} {s : σ} {x : Sum ρ β} (h : Qx f n s = some x) :
  ∃ m y, n = m + 1 ∧ f s = some y ∧ (match y with | .cont s' => Qx f m s' = some x | .brk b => .inr b = x | .ret r => .inl r = x) := by
 cases n with
 | zero => cases h
 | succ m =>
  rw [Qx] at h
  cases hf : f s with
  | none => rw [hf] at h; cases h
  | some y =>
   rw [hf] at h
   refine ⟨m, y, rfl, rfl, ?_⟩
   cases y with
   | cont s' => exact h
   | brk b => exact Option.some.inj h
   | ret r => exact Option.some.inj h
end Go.Proofs.YtbjckaahoacbfaaGreatDoor.Abs
namespace Go.Proofs.YtbjckaahoacbfaaGreatDoor.Abs
open Go.RowKit
theorem Arq (l : List UInt8) : bl l = l.flatMap fun b => [.i .u8 b.toNat] := by
 unfold bl
 induction l with
 | nil => rfl
 | cons a l ih => simp [List.map_cons, ih]
section lists
variable {α : Type} {f : α → List Lf} {sz : Nat}
theorem A7 (hf : ∀ x, (f x).length = sz) (xs : List α) : (xs.flatMap f).length = xs.length * sz := by
 induction xs with
 | nil => simp
 | cons a l ih => simp [List.flatMap_cons, ih, hf, Nat.add_mul, Nat.add_comm]
theorem Vp (hf : ∀ x, (f x).length = sz) (xs : List α) (i : Nat) : (xs.flatMap f).drop (i * sz) = (xs.drop i).flatMap f := by
 induction xs generalizing i with
 | nil => simp
 | cons a l ih =>
  cases i with
  | zero => simp
  | succ i =>
   rw [List.flatMap_cons, Nat.add_mul, Nat.one_mul, Nat.add_comm, ← List.drop_drop, List.drop_left' (hf a), ih]
   rfl
theorem Vv (hf : ∀ x, (f x).length = sz) (xs : List α) (i : Nat) : (xs.flatMap f).take (i * sz) = (xs.take i).flatMap f := by
 induction xs generalizing i with
 | nil => simp
 | cons a l ih =>
  cases i with
  | zero => simp
  | succ i =>
   rw [List.flatMap_cons, Nat.add_mul, Nat.one_mul, List.take_append, List.take_of_length_le (by rw [hf]; omega), hf, Nat.add_sub_cancel, ih]
   rfl
theorem Wl (hf : ∀ x, (f x).length = sz) {xs : List α} {i : Nat} {u : α} (h : xs[i]? = some u) : (xs.flatMap f).drop (i * sz) = f u ++ (xs.drop (i + 1)).flatMap f := by
 rw [Vp hf]
 have hi := (List.getElem?_eq_some_iff.1 h).1
 have e := (List.getElem?_eq_some_iff.1 h).2
 rw [List.drop_eq_getElem_cons hi, List.flatMap_cons, e]
theorem Agr (hf : ∀ x, (f x).length = sz) {xs : List α} {i : Nat} (u : α) (h : i < xs.length) : Kc (xs.flatMap f) (i * sz) (f u) = (xs.set i u).flatMap f := by
 unfold Kc
 rw [Vv hf, hf, ← Nat.succ_mul, Vp hf, List.set_eq_take_append_cons_drop, if_pos h, List.flatMap_append, List.flatMap_cons, List.append_assoc]
theorem Agd {cs a ls ls' : List Lf} {i o : Nat} (ho : o + ls.length ≤ a.length) (h : ∃ t, cs.drop i = a ++ t) (hl : Kc a o ls = ls') (ha : a.length = ls'.length) : Kc cs (i + o) ls = Kc cs i ls' := by
 obtain ⟨t, ht⟩ := h
 subst hl
 unfold Kc
 have e1 : cs.take (i + o) = cs.take i ++ a.take o := by
  rw [List.take_add, ht, List.take_append_of_le_length (by omega)]
 have e2 : cs.drop (i + o + ls.length) = a.drop (o + ls.length) ++ t := by
  rw [Nat.add_assoc, ← List.drop_drop, ht, List.drop_append_of_le_length ho]
 have e3 : cs.drop (i + (a.take o ++ ls ++ a.drop (o + ls.length)).length) = t := by
  rw [show (a.take o ++ ls ++ a.drop (o + ls.length)).length = a.length by simp only [List.length_append, List.length_take, List.length_drop]; omega, ← List.drop_drop, ht, List.drop_left]
 rw [e1, e2, e3]
 simp only [List.append_assoc]
end lists
section
variable {P : Program} {c : Ctx} {st : AS} {ty : TypeId} {α : Type} {f : α → List Lf} {sz : Nat}
theorem Db {t e n : Nat} {x y : Operand} {cs : List Lf} {xs : List α} {k : IntKind} {j : Int} {u : α} (si : SI P t e sz) (hf : ∀ x, (f x).length = sz) (hx : Ca st x = .s (.one (.sl n cs))) (hcs : cs = xs.flatMap f) (hn : n = xs.length) (hy : Ca st y = .s (.one (.i k j))) (h : idx xs j = some u) :
  OpV P c st (.indexAddr t x y) ty (.s (.one (.cp (f u ++ (xs.drop (j.toNat + 1)).flatMap f)))) := by
 obtain ⟨h0, h1⟩ := Vy h
 have h2 := (Akd h).2
 have := Xl (P := P) (c := c) (ty := ty) si hx hy h0 (by rw [hn]; exact h2)
 rwa [hcs, Wl hf h1] at this
theorem Aqn {t e e' kk p n : Nat} {x y : Operand} {cs : List Lf} {xs : List α} {k : IntKind} {j : Int} {u : α} (si : SI P t e sz) (hf : ∀ x, (f x).length = sz) (hx : Ca st x = .s (.one (.ls p n))) (hm : st.m[p]? = some (.arr e' sz kk cs)) (hcs : cs = xs.flatMap f) (hn : n = xs.length) (hy : Ca st y = .s (.one (.i k j))) (h : idx xs j = some u) :
  OpV P c st (.indexAddr t x y) ty (.s (.one (.ap p n (j.toNat * sz)))) := by
 have h2 := Akd h
 exact X1 si hx hy hm (by rw [hcs, A7 hf, hn]) h2.1 (by rw [hn]; exact h2.2)
theorem Ut {t e n : Nat} {x : Operand} {cs : List Lf} {xs ys : List α} {l h : Option Operand} {lo hi : Int} (si : SI P t e sz) (hf : ∀ x, (f x).length = sz) (hx : Ca st x = .s (.one (.sl n cs))) (hcs : cs = xs.flatMap f) (hn : n = xs.length)
  (hl : Xo st l 0 lo.toNat) (hh : Xo st h n hi.toNat) (hc : cut xs lo hi = some ys) : OpV P c st (.slice t x l h none) ty (.s (.one (.sl ys.length (ys.flatMap f)))) := by
 obtain ⟨⟨h0, h1, h2⟩, rfl⟩ := L9 hc
 have := Ajz (P := P) (c := c) (ty := ty) si hx (by rw [hcs, A7 hf, hn]) hl hh (by omega) (by rw [hn]; omega)
 rw [hcs, Vp hf, Vv hf] at this
 rw [List.length_take, List.length_drop, Nat.min_eq_left (by omega)]
 exact this
end
section
variable {P : Program} {c : Ctx} {t : Nat → AV} {m : List Blk} {ops : Array Oper} {Q : Exit → AS → Prop} {rest : List Oper} {ty : TypeId} {pos : String} {af : Array Edge} {d : Tmp} {α : Type} {f : α → List Lf} {sz : Nat}
theorem Awt {t' e k p n i s : Nat} (o : Nat) {x y : Operand} {cs : List Lf} {xs : List α} {u u' : α} {v : SV} (hi : (P.info? t').map (·.size) = some s) (hf : ∀ x, (f x).length = sz) (hx : Ca ⟨t, m⟩ x = .s (.one (.ap p n (i * sz + o)))) (hy : Ca ⟨t, m⟩ y = .s v) (hm : m[p]? = some (.arr e sz k cs)) (hcs : cs = xs.flatMap f) (hn : n = xs.length) (hk : k = 0)
  (hv : v.cells.length = s) (hpub : ∀ l ∈ v.cells, l.pubd = true) (hu : xs[i]? = some u) (ho : o + s ≤ sz) (hu' : Kc (f u) o v.cells = f u')
  (kk : AWL P c ops Q rest ⟨t, m.set p (.arr e sz k ((xs.set i u').flatMap f))⟩) : AWL P c ops Q (⟨none, .store t' x y, ty, pos, af, none⟩ :: rest) ⟨t, m⟩ := by
 have hil := (List.getElem?_eq_some_iff.1 hu).1
 refine Aif hi hx hy hm (by rw [hcs, A7 hf, hn]) hv hpub (by omega) ?_ ?_
 ·rw [hcs, A7 hf]
  calc i * sz + o + s ≤ i * sz + sz := by omega
   _ = (i + 1) * sz := by rw [Nat.add_mul, Nat.one_mul]
   _ ≤ xs.length * sz := Nat.mul_le_mul_right _ hil
 ·have e : Kc cs (i * sz + o) v.cells = (xs.set i u').flatMap f := by
   rw [hcs, Agd (a := f u) (by rw [hv, hf]; omega) ⟨_, Wl hf hu⟩ hu' (by rw [hf, hf]), Agr hf u' hil]
  rw [e]
  exact kk
theorem Af4 {x y : Operand} {t' t2 e bytes p n k mm : Nat} {zl cs ys : List Lf} {xs us : List α} {yv yv' : SV} {m' : List Blk} (hd : decide (d < c.nt) = true) (si : P.underlying t' = some (.slice e)) (ei : EI P e sz bytes zl) (h2 : NI P t2) (hf : ∀ x, (f x).length = sz) (hx : Ca ⟨t, m⟩ x = .s (.one (.ls p n))) (hy : Ca ⟨t, m⟩ y = .s yv)
  (hp : Ke m yv yv' m') (hm : m'[p]? = some (.arr e sz k cs)) (hcs : cs = xs.flatMap f) (hn : n = xs.length) (hsrc : Adb P yv' sz mm ys) (hys : ys = us.flatMap f) (hmm : mm = us.length) (hb : (xs.length + us.length) * bytes ≤ 140737488355328) (hbp : 0 < bytes)
  (kk : AWL P c ops Q rest ⟨upd t d (.s (.one (.ls p (xs ++ us).length))), m'.set p (.arr e sz k ((xs ++ us).flatMap f))⟩) :
  AWL P c ops Q (⟨some d, .call { callee := .builtin .append, args := #[x, y], argTypes := #[t', t2] }, ty, pos, af, none⟩ :: rest) ⟨t, m⟩ := by
 subst hcs hn hys hmm
 refine Arc hd si ei h2 hx hy hp hm (A7 hf xs).symm hsrc ?_ hb ?_
 ·have : xs.length + us.length ≤ (xs.length + us.length) * bytes := Nat.le_mul_of_pos_right _ hbp
  simp only [maxLen]; omega
 ·rw [← List.flatMap_append, ← List.length_append]
  exact kk
theorem Yq {zl : List Lf} {z : α} (hz : f z = zl) (hf : ∀ x, (f x).length = sz) (n : Nat) : X5 zl (n * sz) = (List.replicate n z).flatMap f := by
 subst hz
 apply List.ext_getElem?
 intro j
 by_cases hs : sz = 0
 ·have h1 : (X5 (f z) (n * sz)).length = 0 := by rw [Oh, hs, Nat.mul_zero]
  have h2 : ((List.replicate n z).flatMap f).length = 0 := by rw [A7 hf, hs, Nat.mul_zero]
  rw [List.eq_nil_of_length_eq_zero h1, List.eq_nil_of_length_eq_zero h2]
 have hsp : 0 < sz := Nat.pos_of_ne_zero hs
 by_cases hj : j < n * sz
 ·have hq : j / sz < n := Nat.div_lt_of_lt_mul (by rw [Nat.mul_comm]; exact hj)
  have h1 : (X5 (f z) (n * sz))[j]? = some ((f z).getD (j % sz) default) := by
   unfold X5
   rw [List.getElem?_map, List.getElem?_range hj, hf]; rfl
  have hr : (List.replicate n z)[j / sz]? = some z := by rw [List.getElem?_replicate, if_pos hq]
  have h2 := Wl hf hr
  have h3 : ((List.replicate n z).flatMap f)[j]? = (f z)[j % sz]? := by
   have e : j = j / sz * sz + j % sz := by rw [Nat.mul_comm]; exact (Nat.div_add_mod j sz).symm
   conv => lhs; rw [e]
   rw [← List.getElem?_drop, h2, List.getElem?_append_left (by rw [hf]; exact Nat.mod_lt _ hsp)]
  have hlt : j % sz < (f z).length := by rw [hf]; exact Nat.mod_lt _ hsp
  rw [h1, h3, List.getElem?_eq_getElem hlt]
  simp [List.getD, List.getElem?_eq_getElem hlt]
 ·rw [List.getElem?_eq_none (by rw [Oh]; omega), List.getElem?_eq_none (by rw [A7 hf]; simpa using hj)]
theorem smk {t' e bytes : Nat} {zl : List Lf} {x y : Operand} {kl kc : IntKind} {l cc : Int} {z : α} (hd : decide (d < c.nt) = true) (si : P.underlying t' = some (.slice e)) (ei : EI P e sz bytes zl) (hf : ∀ x, (f x).length = sz) (hz : f z = zl) (hx : Ca ⟨t, m⟩ x = .s (.one (.i kl l))) (hy : Ca ⟨t, m⟩ y = .s (.one (.i kc cc)))
  (h : 0 ≤ l ∧ l ≤ cc ∧ (bytes : Int) * cc ≤ 281474976710656) (hbp : 0 < bytes)
  (k : AWL P c ops Q rest ⟨upd t d (.s (.one (.ls m.length (List.replicate l.toNat z).length))), m ++ [.arr e sz 0 ((List.replicate l.toNat z).flatMap f)]⟩) : AWL P c ops Q (⟨some d, .makeSlice t' x y, ty, pos, af, none⟩ :: rest) ⟨t, m⟩ := by
 have hcc : cc ≤ (bytes : Int) * cc := by
  have h1 : (1 : Int) ≤ bytes := by omega
  have h2 : (0 : Int) ≤ cc := by omega
  calc cc = 1 * cc := (Int.one_mul cc).symm
   _ ≤ (bytes : Int) * cc := Int.mul_le_mul_of_nonneg_right h1 h2
 refine Avx hd si ei hx hy h.1 h.2.1 h.2.2 (by omega) ?_
 rw [Yq hz hf]
 rw [List.length_replicate] at k
 exact k
end
end Go.Proofs.YtbjckaahoacbfaaGreatDoor.Abs
namespace Go.Proofs.YtbjckaahoacbfaaGreatDoor.Abs
open Go.RowKit
def eU8 (b : UInt8) : List Lf := [.i .u8 (b.toNat : Int)]
def Wk (b : BitVec 32) : List Lf := [.i .u32 (b.toNat : Int)]
def eI (n : Int) : List Lf := [.i .i64 n]
def eB (b : Bool) : List Lf := [.b b]
def eL {α : Type} (f : α → List Lf) (xs : List α) : List Lf := [.sl xs.length (xs.flatMap f)]
theorem Apn (l : List UInt8) : bl l = l.flatMap eU8 := Arq l
section
variable {P : Program} {c : Ctx} {st : AS} {ty : TypeId}
theorem N7 {s t e : TypeId} {x : Operand} {n : Nat} {cs : List Lf} {l : List UInt8} (hs : P.underlying s = some (.slice e)) (he : P.underlying e = some (.int .u8)) (ht : P.underlying t = some .string) (hx : Ca st x = .s (.one (.sl n cs))) (hn : n = l.length) (hcs : cs = l.flatMap eU8) :
  OpV P c st (.convert s t x) ty (.s (.one (.s ⟨l.toArray⟩))) := by
 subst hn; rw [← Apn] at hcs; subst hcs
 exact Aew hs he ht hx
theorem Anq {f : FuncId} {x y : Operand} {ats : Array TypeId} {n m : Nat} {cs cs' : List Lf} {a b : List UInt8} (xi : XI P f Extern.BytealgCompare.compare) (hx : Ca st x = .s (.one (.sl n cs))) (hn : n = a.length) (hcs : cs = a.flatMap eU8) (hy : Ca st y = .s (.one (.sl m cs'))) (hm : m = b.length) (hcs' : cs' = b.flatMap eU8) :
  OpV P c st (.call { callee := .value (.func f), args := #[x, y], argTypes := ats }) ty (.s (.one (.i .i64 (Ah6 a b)))) := by
 subst hn hm; rw [← Apn] at hcs hcs'; subst hcs hcs'
 exact Aqp xi hx hy
theorem Py {xt yt : TypeId} {x y : Operand} {p q : List UInt8} (hx : Ca st x = .s (.one (.s ⟨p.toArray⟩))) (hy : Ca st y = .s (.one (.s ⟨q.toArray⟩))) : OpV P c st (.binOp .eql xt x y yt) ty (.s (.one (.b (p == q)))) := by
 have := Anl (P := P) (c := c) (xt := xt) (yt := yt) (ty := ty) hx hy
 have e : ∀ l : List UInt8, (ByteArray.mk l.toArray).toList = l := fun l => by rw [ByteArray.toList_eq]
 simpa [e] using this
theorem Acf {xt yt : TypeId} {x y : Operand} {p q : List UInt8} (hx : Ca st x = .s (.one (.s ⟨p.toArray⟩))) (hy : Ca st y = .s (.one (.s ⟨q.toArray⟩))) : OpV P c st (.binOp .neq xt x y yt) ty (.s (.one (.b (!(p == q))))) := by
 have := Anp (P := P) (c := c) (xt := xt) (yt := yt) (ty := ty) hx hy
 have e : ∀ l : List UInt8, (ByteArray.mk l.toArray).toList = l := fun l => by rw [ByteArray.toList_eq]
 simpa [e] using this
end
end Go.Proofs.YtbjckaahoacbfaaGreatDoor.Abs
namespace Go.Proofs.YtbjckaahoacbfaaGreatDoor.Abs
open Go.RowKit
section
variable {P : Program} {c : Ctx} {st : AS} {ty : TypeId} {α : Type} {f : α → List Lf} {sz : Nat}
theorem Afz {t n e p : Nat} {x y : Operand} {k : IntKind} {j : Int} (ai : AI P t n e sz) (hx : Ca st x = .s (.one (.lp p 0))) (hy : Ca st y = .s (.one (.i k j))) (h : 0 ≤ j ∧ j < n) :
  OpV P c st (.indexAddr t x y) ty (.s (.one (.lp p (j.toNat * sz)))) := by
 have := Of (P := P) (c := c) (ty := ty) ai hx rfl hy (fun _ _ _ h => by cases h) h.1 h.2
 simpa [Lf.adv] using this
theorem Anu {t p i : Nat} (o : Nat) {x : Operand} {cs : List Lf} {xs : List α} {u : α} {y : Lf} (ti : TI P t false 1) (hf : ∀ x, (f x).length = sz) (hx : Ca st x = .s (.one (.lp p (i * sz + o)))) (hm : st.m[p]? = some (.box cs)) (hcs : cs = xs.flatMap f) (hu : xs[i]? = some u) (hy : (f u)[o]? = some y) :
  OpV P c st (.load t x) ty (.s (.one y)) := by
 refine Ae ti hx (.lp _ _ _ hm) ?_
 rw [hcs, ← List.drop_drop, Wl hf hu, List.getElem?_drop, Nat.add_zero (n := o), List.getElem?_append_left (List.getElem?_eq_some_iff.1 hy).1, hy]
theorem Ai4 {t p n : Nat} {x : Operand} {cs : List Lf} {xs : List α} (ti : TI P t true (n * sz)) (hf : ∀ x, (f x).length = sz) (hx : Ca st x = .s (.one (.lp p 0))) (hm : st.m[p]? = some (.box cs)) (hcs : cs = xs.flatMap f) (hn : xs.length = n) :
  OpV P c st (.load t x) ty (.s (.agg (xs.flatMap f))) := by
 have hl : (xs.flatMap f).length = n * sz := by rw [A7 hf, hn]
 have := Ai (P := P) (c := c) (ty := ty) ti hx (.lp _ _ _ hm) (by rw [List.drop_zero, hcs, hl]; exact Nat.le_refl _)
 rwa [List.drop_zero, hcs, List.take_of_length_le (Nat.le_of_eq hl)] at this
theorem Cb {t s : Nat} {x : Operand} {l : Lf} {cs ys : List Lf} (ti : TI P t true s) (hx : Ca st x = .s (.one l)) (hp : Z4 st l cs) (he : cs.take s = ys) (hs : s = ys.length) : OpV P c st (.load t x) ty (.s (.agg ys)) := by
 have := Ai (P := P) (c := c) (ty := ty) ti hx hp (by rw [← he, List.length_take] at hs; omega)
 rwa [he] at this
end
end Go.Proofs.YtbjckaahoacbfaaGreatDoor.Abs
namespace Go.Proofs.YtbjckaahoacbfaaGreatDoor.Abs
open Go.RowKit
section
variable {P : Program} {c : Ctx} {st : AS} {ty : TypeId} {k : IntKind} {n m : Int} {x y : Operand} {xt yt : TypeId}
theorem Anf (hx : Ca st x = .s (.one (.i k n))) (hy : Ca st y = .s (.one (.i k m))) (h0 : m ≠ 0) : OpV P c st (.binOp .quo xt x y yt) ty (.s (.one (.i k (k.wrap (n.tdiv m))))) :=
 Jw (u := .int k n) (u' := .int k m) (z := .int k (k.wrap (n.tdiv m))) hx hy rfl rfl (fun w => by
  simp [eqGuard, binOp, Op.intDiv, h0]) rfl rfl
theorem Axx {w : Nat} {b : BitVec w} (h : b ≠ 0) : ((b.toNat : Nat) : Int) ≠ 0 := by
 intro e
 apply h
 apply BitVec.eq_of_toNat_eq
 have : b.toNat = 0 := by omega
 simpa using this
theorem Akf {a b : BitVec k.bits} (hx : Ca st x = .s (.one (.i k n))) (hn : n = (a.toNat : Int)) (hy : Ca st y = .s (.one (.i k m))) (hm : m = (b.toNat : Int)) (h0 : b ≠ 0) : OpV P c st (.binOp .rem xt x y yt) ty (.s (.one (.i k ((a % b).toNat : Int)))) := by
 have := Arl (P := P) (c := c) (ty := ty) (xt := xt) (yt := yt) hx hy (by rw [hm]; exact Axx h0)
 have e : n.tmod m = (((a % b).toNat : Nat) : Int) := by
  rw [hn, hm, BitVec.toNat_umod]
  exact (Int.ofNat_tmod _ _).symm
 rwa [e] at this
theorem Afm {a b : BitVec 64} (hx : Ca st x = .s (.one (.i .u64 n))) (hn : n = (a.toNat : Int)) (hy : Ca st y = .s (.one (.i .u64 m))) (hm : m = (b.toNat : Int)) (h0 : b ≠ 0) : OpV P c st (.binOp .rem xt x y yt) ty (.s (.one (.i .u64 ((a % b).toNat : Int)))) := Akf (k := .u64) hx hn hy hm h0
end
section
variable {P : Program} {c : Ctx} {t : Nat → AV} {m : List Blk} {ops : Array Oper} {Q : Exit → AS → Prop} {rest : List Oper} {ty : TypeId} {pos : String} {af : Array Edge} {α : Type} {f : α → List Lf} {sz : Nat}
theorem Awh {t' p i s : Nat} (o : Nat) {x y : Operand} {cs : List Lf} {xs : List α} {u u' : α} {v : SV} (hi : (P.info? t').map (·.size) = some s) (hf : ∀ x, (f x).length = sz) (hx : Ca ⟨t, m⟩ x = .s (.one (.lp p (i * sz + o)))) (hy : Ca ⟨t, m⟩ y = .s v) (hm : m[p]? = some (.box cs)) (hcs : cs = xs.flatMap f)
  (hv : v.cells.length = s) (hu : xs[i]? = some u) (ho : o + s ≤ sz) (hu' : Kc (f u) o v.cells = f u')
  (kk : AWL P c ops Q rest ⟨t, m.set p (.box ((xs.set i u').flatMap f))⟩) : AWL P c ops Q (⟨none, .store t' x y, ty, pos, af, none⟩ :: rest) ⟨t, m⟩ := by
 have hil := (List.getElem?_eq_some_iff.1 hu).1
 refine An hi hx hy hm hv ?_ ?_
 ·rw [hcs, A7 hf]
  calc i * sz + o + s ≤ i * sz + sz := by omega
   _ = (i + 1) * sz := by rw [Nat.add_mul, Nat.one_mul]
   _ ≤ xs.length * sz := Nat.mul_le_mul_right _ hil
 ·have e : Kc cs (i * sz + o) v.cells = (xs.set i u').flatMap f := by
   rw [hcs, Agd (a := f u) (by rw [hv, hf]; omega) ⟨_, Wl hf hu⟩ hu' (by rw [hf, hf]), Agr hf u' hil]
  rw [e]
  exact kk
theorem Apg {t' p n : Nat} {x y : Operand} {cs : List Lf} {xs ys : List α} (hi : (P.info? t').map (·.size) = some (n * sz)) (hf : ∀ x, (f x).length = sz) (hx : Ca ⟨t, m⟩ x = .s (.one (.lp p 0))) (hy : Ca ⟨t, m⟩ y = .s (.agg (ys.flatMap f))) (hm : m[p]? = some (.box cs)) (hcs : cs = xs.flatMap f) (hxs : xs.length = n) (hys : ys.length = n)
  (kk : AWL P c ops Q rest ⟨t, m.set p (.box (ys.flatMap f))⟩) : AWL P c ops Q (⟨none, .store t' x y, ty, pos, af, none⟩ :: rest) ⟨t, m⟩ := by
 have h1 : cs.length = n * sz := by rw [hcs, A7 hf, hxs]
 have h2 : (ys.flatMap f).length = n * sz := by rw [A7 hf, hys]
 refine An hi hx hy hm h2 (by omega) ?_
 have e : Kc cs 0 (SV.agg (ys.flatMap f)).cells = ys.flatMap f := by
  show Kc cs 0 (ys.flatMap f) = _
  unfold Kc
  rw [List.take_zero, List.nil_append, List.drop_of_length_le (by omega), List.append_nil]
 rw [e]; exact kk
theorem Ana {P : Program} {st : AS} {tt : Tmp} {ty p n : Nat} {cs : List Lf} {xs : List α} (hf : ∀ x, (f x).length = sz) (ti : TI P ty true (n * sz)) (h : st.t tt = .s (.one (.lp p 0))) (hm : st.m[p]? = some (.box cs)) (hcs : cs = xs.flatMap f) (hn : xs.length = n) : Cu P st (.cell tt ty) (.agg (xs.flatMap f)) := by
 have hl : (xs.flatMap f).length = n * sz := by rw [A7 hf, hn]
 have := Cu.agg (P := P) (st := st) tt ty (n * sz) _ _ ti h (.lp _ _ _ hm) (by rw [List.drop_zero, hcs, hl]; exact Nat.le_refl _)
 rwa [List.drop_zero, hcs, List.take_of_length_le (Nat.le_of_eq hl)] at this
theorem Ap1 {α : Type} {f : α → List Lf} (h : ∀ x, (f x).all Lf.pubd = true) (xs : List α) : (xs.flatMap f).all Lf.pubd = true := by
 rw [List.all_flatMap]
 exact List.all_eq_true.2 fun x _ => h x
end
end Go.Proofs.YtbjckaahoacbfaaGreatDoor.Abs
namespace Go.Proofs.YtbjckaahoacbfaaGreatDoor.Abs
open Go.RowKit
def Y8 (acc : List Nat) (after : List Edge) : Nat := after.foldl (fun s e => if Region.binds .any e then s ||| (1 <<< e.on) ||| acc.getD e.on 0 else s) 0
def Mq : List Oper → List Nat → List Nat
  | [], acc => acc
  | o :: r, acc => Mq r (acc ++ [Y8 acc o.after.toList])
theorem Aan {acc : List Nat} {after : List Edge} {j : Nat} (h : (Y8 acc after).testBit j = true) : ∃ e ∈ after, Region.binds .any e = true ∧ (e.on = j ∨ (acc.getD e.on 0).testBit j = true) := by
  have key : ∀ (l : List Edge) (s : Nat), (l.foldl (fun s e => if Region.binds .any e then s ||| (1 <<< e.on) ||| acc.getD e.on 0 else s) s).testBit j = true →
      s.testBit j = true ∨ ∃ e ∈ l, Region.binds .any e = true ∧ (e.on = j ∨ (acc.getD e.on 0).testBit j = true) := by
    intro l
    induction l with
    | nil => intro s h; exact .inl h
    | cons e l ih =>
      intro s h
      rw [List.foldl_cons] at h
      rcases ih _ h with h | ⟨e', he, h⟩
      · cases hb : Region.binds .any e with
        | false => rw [hb] at h; exact .inl h
        | true =>
          rw [hb, if_pos rfl, Nat.testBit_or, Nat.testBit_or, Bool.or_eq_true, Bool.or_eq_true] at h
          rcases h with (h | h) | h
          · exact .inl h
          · refine .inr ⟨e, List.mem_cons_self .., hb, .inl ?_⟩
            rw [Nat.one_shiftLeft, Nat.testBit_two_pow] at h
            exact of_decide_eq_true h
          · exact .inr ⟨e, List.mem_cons_self .., hb, .inr h⟩
      · exact .inr ⟨e', List.mem_cons_of_mem _ he, h⟩
  rcases key after 0 h with h | h
  · simp at h
  · exact h
def Rl (ops : Array Oper) (listed : Array Bool) : Prop := ∀ (i : Nat) (o : Oper), ops[i]? = some o → listed.getD i false = true → Met listed o
theorem Wv : ∀ (l : List Oper) (acc : List Nat) (i : Nat), i < acc.length → (Mq l acc).getD i 0 = acc.getD i 0
  | [], acc, i, _ => rfl
  | o :: r, acc, i, h => by
    rw [Mq, Wv r _ i (by simp; omega)]
    simp [List.getD, List.getElem?_append_left h]
theorem We {listed : Array Bool} {ops : Array Oper} (hc : Rl ops listed) : ∀ (l : List Oper) (acc : List Nat), (∀ i o, l[i]? = some o → ops[acc.length + i]? = some o) →
    (∀ i, i < acc.length → listed.getD i false = true → ∀ j, (acc.getD i 0).testBit j = true → listed.getD j false = true) →
    ∀ i, listed.getD i false = true → ∀ j, ((Mq l acc).getD i 0).testBit j = true → listed.getD j false = true
  | [], acc, _, hp, i, hi, j, hj => by
    by_cases h : i < acc.length
    · exact hp i h hi j hj
    · rw [Mq] at hj
      simp [List.getD, List.getElem?_eq_none (by omega : acc.length ≤ i)] at hj
  | o :: r, acc, ho, hp, i, hi, j, hj => by
    refine We hc r (acc ++ [Y8 acc o.after.toList]) (fun i' o' h => ?_) (fun i' h' hl j' hj' => ?_) i hi j hj
    · have := ho (i' + 1) o' (by simpa using h)
      rw [← this]
      congr 1
      simp; omega
    · simp only [List.length_append, List.length_singleton] at h'
      by_cases h : i' < acc.length
      · have e : (acc ++ [Y8 acc o.after.toList]).getD i' 0 = acc.getD i' 0 := by simp [List.getD, List.getElem?_append_left h]
        rw [e] at hj'
        exact hp i' h hl j' hj'
      · have e0 : i' = acc.length := by omega
        have e : (acc ++ [Y8 acc o.after.toList]).getD i' 0 = Y8 acc o.after.toList := by simp [List.getD, e0]
        rw [e] at hj'
        obtain ⟨ed, hed, hb, h1⟩ := Aan hj'
        have hm := hc i' o (by have := ho 0 o rfl; rw [e0]; exact this) hl
        have hon := hm ed (by simpa using hed) hb
        rcases h1 with h1 | h1
        · rw [← h1]; exact hon
        · by_cases h2 : ed.on < acc.length
          · exact hp ed.on h2 hon j' h1
          · simp [List.getD, List.getElem?_eq_none (by omega : acc.length ≤ ed.on)] at h1
theorem Zb {listed : Array Bool} {ops : Array Oper} (hc : Rl ops listed) {i : Nat} {o : Oper} (ho : ops[i]? = some o) (hm : Met listed o) {j : Nat} (hj : ((Mq ops.toList []).getD i 0).testBit j = true) : listed.getD j false = true := by
  have hil : i < ops.toList.length := by have := (Array.getElem?_eq_some_iff.1 ho).1; simpa using this
  have key : ∀ (l : List Oper) (acc : List Nat) (k : Nat), acc.length + k = i → l[k]? = some o → ∃ acc', (Mq l acc).getD i 0 = Y8 acc' o.after.toList ∧ ∀ q, q < acc'.length → (Mq l acc).getD q 0 = acc'.getD q 0 := by
    intro l
    induction l with
    | nil => intro acc k _ h; simp at h
    | cons o' r ih =>
      intro acc k hk h
      cases k with
      | zero =>
        simp only [List.getElem?_cons_zero, Option.some.injEq] at h
        subst h
        refine ⟨acc, ?_, fun q hq => ?_⟩
        · rw [Mq, Wv r _ i (by simp; omega)]
          simp [List.getD, show i = acc.length by omega]
        · rw [Mq, Wv r _ q (by simp; omega)]
          simp [List.getD, List.getElem?_append_left hq]
      | succ k => exact ih _ k (by simp; omega) (by simpa using h)
  obtain ⟨acc', h1, h2⟩ := key ops.toList [] i (by simp) (by simpa using ho)
  rw [h1] at hj
  obtain ⟨ed, hed, hb, h3⟩ := Aan hj
  have hon := hm ed (by simpa using hed) hb
  rcases h3 with h3 | h3
  · rw [← h3]; exact hon
  · by_cases hq : ed.on < acc'.length
    · refine We hc ops.toList [] (fun i o h => by simpa using h) (fun i h => by simp at h) ed.on hon j ?_
      rw [h2 _ hq]; exact h3
    · simp [List.getD, List.getElem?_eq_none (by omega : acc'.length ≤ ed.on)] at h3
def mix (T : Nat → AV) (L : List Nat) (ζ : Nat → AV) : Nat → AV := fun j => cond (L.contains j) (T j) (ζ j)
def Uj (ws : List Nat) (es : List Nat) (i j : Nat) : Bool := (es.take j).all (fun e => (ws.getD i 0).testBit e) && (es.drop j).all (fun e => e == i || (ws.getD e 0).testBit i)
def Zc (ops : Array Oper) : Bool :=
  (List.range ops.size).all fun i => match ops[i]? with
    | none => false
    | some o => o.after.all (fun e => !Region.binds .any e || decide (e.on < i)) && (List.range ops.size).all (fun j => match ops[j]? with
        | none => false
        | some p => match p.dst with
            | none => true
            | some d => (decide (i = j) || !(o.dst == p.dst)) && (!(o.looksAt ops).contains d || o.after.any (fun e => e.on == j && Region.binds .any e)))
theorem Aaw {ops : Array Oper} (h : Zc ops = true) : Wx ops := by
  have hget : ∀ (i : Nat) (o : Oper), ops[i]? = some o → (∀ e ∈ o.after, (!Region.binds .any e || decide (e.on < i)) = true) ∧ ∀ (j : Nat) (p : Oper), ops[j]? = some p → ∀ d, p.dst = some d → ((decide (i = j) || !(o.dst == p.dst)) && (!(o.looksAt ops).contains d || o.after.any (fun e => e.on == j && Region.binds .any e))) = true := by
    intro i o ho
    have hi : i < ops.size := (Array.getElem?_eq_some_iff.1 ho).1
    have h1 := List.all_eq_true.1 h i (List.mem_range.2 hi)
    simp only [ho, Bool.and_eq_true] at h1
    refine ⟨fun e he => by have := h1.1; rw [Array.all_eq_true'] at this; exact this e he, fun j p hp d hd => ?_⟩
    have hj : j < ops.size := (Array.getElem?_eq_some_iff.1 hp).1
    have h2 := List.all_eq_true.1 h1.2 j (List.mem_range.2 hj)
    simp only [hp, hd] at h2
    rw [hd]
    exact h2
  refine ⟨fun i o ho e he hb => ?_, fun i o j p ho hp hij d hd hpd => ?_, fun i o j p d ho hp hpd hl => ?_⟩
  · have := (hget i o ho).1 e he
    rw [hb] at this
    simpa using this
  · have := (hget i o ho).2 j p hp d hpd
    rw [hd, hpd] at this
    simp [hij] at this
  · have := (hget i o ho).2 j p hp d hpd
    simp only [Bool.and_eq_true, Bool.or_eq_true, Bool.not_eq_true'] at this
    rcases this.2 with h | h
    · have hc : (o.looksAt ops).contains d = true := by simpa using hl
      rw [h] at hc; cases hc
    · rw [Array.any_eq_true] at h
      obtain ⟨k, hk, h⟩ := h
      simp only [Bool.and_eq_true, beq_iff_eq] at h
      exact ⟨_, Array.getElem_mem hk, h.1, h.2⟩
section
variable {P : Program} {c : Ctx} {t : Nat → AV} {m : List Blk} {Q : Exit → AS → Prop}
def Aop (P : Program) (c : Ctx) (ops : Array Oper) (T : Nat → AV) (M M' : List Blk) (o : Oper) (x : AV) : Prop :=
  ∀ ζ, AWL P c ops (fun e st => e = .normal ∧ st = ⟨(match o.dst with | some d => upd (mix T (o.looksAt ops) ζ) d x | none => mix T (o.looksAt ops) ζ), M'⟩) [{ o with guard := none }] ⟨mix T (o.looksAt ops) ζ, M⟩
def Aih (P : Program) (c : Ctx) (ops : Array Oper) (ws es : List Nat) (all : List (List Blk)) (i : Nat) (t : Nat → AV) (o : Oper) (x : AV) : Prop :=
  (∃ md, Tn P c md ops t o x ∧ ((∃ j, Uj ws es i j = true ∧ all[j]? = some md) ∨ ∀ M ∈ all, Abt md M)) ∨ ∀ M ∈ all, Tn P c M ops t o x
theorem Aih.congr {ops : Array Oper} {ws es : List Nat} {all : List (List Blk)} {i : Nat} {t t' : Nat → AV} {o : Oper} {x : AV} (h : Aih P c ops ws es all i t o x) (ht : ∀ y ∈ o.looksAt ops, t y = t' y) : Aih P c ops ws es all i t' o x := by
  rcases h with ⟨md, h1, h2⟩ | h
  · exact .inl ⟨md, h1.congr ht, h2⟩
  · exact .inr fun M hM => (h M hM).congr ht
def DE (P : Program) (c : Ctx) (ops : Array Oper) (ws es : List Nat) (all : List (List Blk)) (k : (Nat → AV) → Prop) : Nat → List (List Blk) → List Oper → (Nat → AV) → Prop
  | _, Ms, [], t => Ms.length = 1 ∧ k t
  | i, Ms, o :: rest, t =>
    (es.contains i = false ∧ ∃ x d, o.dst = some d ∧ d < c.nt ∧ Aih P c ops ws es all i t o x ∧ DE P c ops ws es all k (i + 1) Ms rest (upd t d x)) ∨
    (∃ j M M' Ms' x, es[j]? = some i ∧ Uj ws es i j = true ∧ all[j]? = some M ∧ all[j + 1]? = some M' ∧ Ms = M :: M' :: Ms' ∧ Al3 ops t o ∧ Aop P c ops t M M' o x ∧ (∀ d, o.dst = some d → d < c.nt) ∧
      DE P c ops ws es all k (i + 1) (M' :: Ms') rest (match o.dst with | some d => upd t d x | none => t))
theorem Ak6 {T T' : Nat → AV} {L : List Nat} (h : ∀ x ∈ L, T x = T' x) (ζ : Nat → AV) : mix T L ζ = mix T' L ζ := by
  funext j
  unfold mix
  cases hc : L.contains j with
  | false => rfl
  | true => exact h j (by simpa using hc)
theorem Al3.congr {ops : Array Oper} {t t' : Nat → AV} {o : Oper} (h : Al3 ops t o) (ht : ∀ y ∈ o.looksAt ops, t y = t' y) : Al3 ops t' o := by
  rcases h with h | ⟨j, want, dj, h1, h2, h3⟩
  · exact .inl h
  · exact .inr ⟨j, want, dj, h1, h2, by rw [← ht dj (Fg h1 h2)]; exact h3⟩
theorem Aop.congr {ops : Array Oper} {t t' : Nat → AV} {M M' : List Blk} {o : Oper} {x : AV} (h : Aop P c ops t M M' o x) (ht : ∀ y ∈ o.looksAt ops, t y = t' y) : Aop P c ops t' M M' o x := by
  intro ζ
  have := h ζ
  rwa [Ak6 ht ζ] at this
theorem DE.get {ops : Array Oper} {ws es : List Nat} {all : List (List Blk)} {k : (Nat → AV) → Prop} : ∀ {l : List Oper} {i : Nat} {Ms : List (List Blk)} {t : Nat → AV}, DE P c ops ws es all k i Ms l t → (Ku l).Nodup → (∀ (q : Nat) (o : Oper), l[q]? = some o → ∀ y ∈ o.looksAt ops, y ∉ Ku (l.drop q)) →
    ∃ T, k T ∧ (∀ y, y ∉ Ku l → T y = t y) ∧ ∀ (q : Nat) (o : Oper), l[q]? = some o →
      (es.contains (i + q) = false ∧ ∃ d, o.dst = some d ∧ d < c.nt ∧ Aih P c ops ws es all (i + q) T o (T d)) ∨
      (∃ j M M' x, es[j]? = some (i + q) ∧ Uj ws es (i + q) j = true ∧ all[j]? = some M ∧ all[j + 1]? = some M' ∧ Al3 ops T o ∧ Aop P c ops T M M' o x ∧ ∀ d, o.dst = some d → d < c.nt ∧ T d = x)
  | [], i, Ms, t, h, _, _ => ⟨t, h.2, fun _ _ => rfl, fun q o h => by simp at h⟩
  | o :: rest, i, Ms, t, h, hnd, hl => by
    have hlook : ∀ y ∈ o.looksAt ops, y ∉ Ku (o :: rest) := fun y hy => by simpa using hl 0 o rfl y hy
    have hlt : ∀ (q : Nat) (o' : Oper), rest[q]? = some o' → ∀ y ∈ o'.looksAt ops, y ∉ Ku (rest.drop q) := fun q o' h' y hy => by
      have := hl (q + 1) o' (by simpa using h') y hy
      simpa using this
    rcases h with ⟨hne, x, d, hd, hdn, hg, hr⟩ | ⟨j, M, M', Ms', x, h1, h2, h3, h4, h5, h6, h7, h8, hr⟩
    · have hds : Ku (o :: rest) = d :: Ku rest := by simp [Ku, hd]
      rw [hds] at hnd hlook
      have hnd' := List.nodup_cons.1 hnd
      obtain ⟨T, hk, hT, hG⟩ := DE.get hr hnd'.2 hlt
      have hTl : ∀ y ∈ o.looksAt ops, t y = T y := fun y hy => by
        have := hlook y hy
        simp only [List.mem_cons, not_or] at this
        rw [hT y this.2, H2, if_neg this.1]
      have hTd : T d = x := by rw [hT d hnd'.1, H2, if_pos rfl]
      refine ⟨T, hk, fun y hy => ?_, fun q o' h' => ?_⟩
      · rw [hds] at hy
        simp only [List.mem_cons, not_or] at hy
        rw [hT y hy.2, H2, if_neg hy.1]
      · cases q with
        | zero =>
          simp only [List.getElem?_cons_zero, Option.some.injEq] at h'
          subst h'
          exact .inl ⟨hne, d, hd, hdn, by rw [hTd]; exact hg.congr hTl⟩
        | succ q =>
          have := hG q o' (by simpa using h')
          rw [show i + 1 + q = i + (q + 1) by omega] at this
          exact this
    · cases hd : o.dst with
      | none =>
        have hds : Ku (o :: rest) = Ku rest := by simp [Ku, hd]
        rw [hds] at hnd hlook
        rw [hd] at hr
        obtain ⟨T, hk, hT, hG⟩ := DE.get hr hnd hlt
        have hTl : ∀ y ∈ o.looksAt ops, t y = T y := fun y hy => (hT y (hlook y hy)).symm
        refine ⟨T, hk, fun y hy => hT y (by rw [hds] at hy; exact hy), fun q o' h' => ?_⟩
        cases q with
        | zero =>
          simp only [List.getElem?_cons_zero, Option.some.injEq] at h'
          subst h'
          exact .inr ⟨j, M, M', x, h1, h2, h3, h4, h6.congr hTl, h7.congr hTl, fun d h => by rw [hd] at h; cases h⟩
        | succ q =>
          have := hG q o' (by simpa using h')
          rw [show i + 1 + q = i + (q + 1) by omega] at this
          exact this
      | some d =>
        have hds : Ku (o :: rest) = d :: Ku rest := by simp [Ku, hd]
        rw [hds] at hnd hlook
        have hnd' := List.nodup_cons.1 hnd
        rw [hd] at hr
        obtain ⟨T, hk, hT0, hG⟩ := DE.get hr hnd'.2 hlt
        have hT : ∀ y, y ∉ Ku rest → T y = upd t d x y := hT0
        have hTl : ∀ y ∈ o.looksAt ops, t y = T y := fun y hy => by
          have := hlook y hy
          simp only [List.mem_cons, not_or] at this
          rw [hT y this.2, H2, if_neg this.1]
        have hTd : T d = x := by rw [hT d hnd'.1, H2, if_pos rfl]
        refine ⟨T, hk, fun y hy => ?_, fun q o' h' => ?_⟩
        · rw [hds] at hy
          simp only [List.mem_cons, not_or] at hy
          rw [hT y hy.2, H2, if_neg hy.1]
        · cases q with
          | zero =>
            simp only [List.getElem?_cons_zero, Option.some.injEq] at h'
            subst h'
            refine .inr ⟨j, M, M', x, h1, h2, h3, h4, h6.congr hTl, h7.congr hTl, fun d' h => ?_⟩
            rw [hd] at h
            cases h
            exact ⟨h8 d hd, hTd⟩
          | succ q =>
            have := hG q o' (by simpa using h')
            rw [show i + 1 + q = i + (q + 1) by omega] at this
            exact this
theorem Adn {o : Oper} {a : Act} {w : World} {K K' : Act → World → Prop} {Q Q' : Exit → Act → World → Prop} (h : ∀ a w, K a w → K' a w) (hq : ∀ e a w, e ≠ .normal → Q e a w → Q' e a w) (hh : o.wp P a w K Q) : o.wp P a w K' Q' := by
  unfold Oper.wp at *
  generalize (execOp a.eval o).run P w = r at *
  cases r with
  | ok n w' =>
    cases n <;> simp only [Oper.upon] at hh ⊢ <;>
      first
        | exact h _ _ hh
        | exact Calls.mono hh (fun e w'' he => by cases e <;> first | exact h _ _ he | exact hq _ _ _ (by simp) he | exact he.imp fun _ he => he.imp fun _ he => hq _ _ _ (by simp) he)
        | exact Rows.mono hh (fun _ _ he => h _ _ he)
        | exact hq _ _ _ (by simp) hh
        | exact hh.imp fun _ he => he.imp fun _ he => hq _ _ _ (by simp) he
        | exact hh
  | halt x w' => cases x <;> simp only [Oper.upon] at hh ⊢ <;> first | exact hq _ _ _ (by simp) hh | exact hh.imp fun _ he => he.imp fun _ he => hq _ _ _ (by simp) he | exact hh
theorem Abt.refl (m : List Blk) : Abt m m := ⟨rfl, fun _ _ h => .inr h, fun _ _ _ _ _ h => h⟩
theorem Met.set {listed : Array Bool} {o : Oper} {i : Nat} (h : Met listed o) : Met (listed.setIfInBounds i true) o := by
  intro e he hb
  have := h e he hb
  simp only [Array.getD_eq_getD_getElem?, Array.getElem?_setIfInBounds] at this ⊢
  split
  · split <;> simp_all
  · exact this
theorem Rl.set {ops : Array Oper} {listed : Array Bool} (h : Rl ops listed) {i : Nat} {o : Oper} (ho : ops[i]? = some o) (hm : Met listed o) : Rl ops (listed.setIfInBounds i true) := by
  intro a oa ha hl
  by_cases e : a = i
  · subst e
    rw [ho] at ha
    cases ha
    exact hm.set
  · have : (listed.setIfInBounds i true).getD a false = listed.getD a false := by
      simp only [Array.getD_eq_getD_getElem?, Array.getElem?_setIfInBounds]
      rw [if_neg (fun e' => e e'.symm)]
    rw [this] at hl
    exact (h a oa ha hl).set
theorem Xh {p : Nat → Bool} {es : List Nat} {j : Nat} (hj : j ≤ es.length) (h1 : ∀ e ∈ es.take j, p e = true) (h2 : ∀ e ∈ es.drop j, p e = false) : es.countP p = j := by
  conv => lhs; rw [← List.take_append_drop j es]
  rw [List.countP_append, List.countP_eq_length.2 h1, List.countP_eq_zero.2 (fun e he => by rw [h2 e he]; simp), List.length_take]
  omega
theorem Amx {l : List Oper} (es ws : List Nat) (all : List (List Blk)) {last : List Blk} (hws : Mq l [] = ws) (hok : Zc l.toArray = true) (hnd : es.Nodup) (hes : (es.all fun e => decide (e < l.length)) = true) (hall : all.length = es.length + 1) (h0 : all[0]? = some m) (hlast : all[es.length]? = some last)
    (h : DE P c l.toArray ws es all (fun T => Q .normal ⟨T, last⟩) 0 all l t) : AWD P c Q l ⟨t, m⟩ := by
  subst hws
  have ok := Aaw hok
  have hdn : (Ku l).Nodup := by
    have key : ∀ (k : List Oper) (n : Nat), (∀ i o, k[i]? = some o → l[n + i]? = some o) → (Ku k).Nodup := by
      intro k
      induction k with
      | nil => intro n _; exact List.nodup_nil
      | cons o r ih =>
        intro n hk
        have ih' := ih (n + 1) (fun i o' h' => by have := hk (i + 1) o' (by simpa using h'); rw [← this]; congr 1; omega)
        cases hd : o.dst with
        | none => simpa [Ku, hd] using ih'
        | some d =>
          have hds : Ku (o :: r) = d :: Ku r := by simp [Ku, hd]
          rw [hds]
          refine List.nodup_cons.2 ⟨fun hmem => ?_, ih'⟩
          unfold Ku at hmem
          rw [List.mem_filterMap] at hmem
          obtain ⟨p, hp, hpd⟩ := hmem
          obtain ⟨q, hq, hqp⟩ := List.getElem_of_mem hp
          have h1 := hk 0 o rfl
          have h2 := hk (q + 1) p (by simp [hq, hqp])
          exact ok.ne n o (n + (q + 1)) p (by simpa using h1) (by simpa using h2) (by omega) d hd hpd
    exact key l 0 (fun i o h => by simpa using h)
  obtain ⟨T, hQ, hTt, hG⟩ := DE.get h hdn (later ok)
  let B : Array Bool → List Blk := fun listed => all.getD (es.countP fun e => listed.getD e false) []
  let HI : Array Bool → (Nat → Value) → Prop := fun listed _ => Rl l.toArray listed
  have hws : ∀ {listed : Array Bool}, Rl l.toArray listed → ∀ i, listed.getD i false = true → ∀ j, ((Mq l []).getD i 0).testBit j = true → listed.getD j false = true := fun hc =>
    We hc l [] (fun i o h => by simpa using h) (fun i h => by simp at h)
  have hBj : ∀ {j : Nat} {M : List Blk}, all[j]? = some M → j ≤ es.length := fun h => by
    have := (List.getElem?_eq_some_iff.1 h).1; omega
  have huf : ∀ {listed : Array Bool} {i : Nat}, listed.size = l.toArray.size → i < l.length → listed.getD i true = false → listed.getD i false = false := by
    intro listed i hs hi h
    simp only [Array.getD_eq_getD_getElem?] at h ⊢
    rw [Array.getElem?_eq_getElem (by rw [hs]; simpa using hi)] at h ⊢
    exact h
  have exact_ : ∀ {listed : Array Bool} {i j : Nat} {o : Oper} {M : List Blk}, Rl l.toArray listed → l[i]? = some o → Met listed o → listed.getD i false = false → Uj (Mq l []) es i j = true → all[j]? = some M → es.countP (fun e => listed.getD e false) = j := by
    intro listed i j o M hc ho hmt hun hx hM
    unfold Uj at hx
    rw [Bool.and_eq_true, List.all_eq_true, List.all_eq_true] at hx
    refine Xh (hBj hM) (fun e he => ?_) (fun e he => ?_)
    · have := Zb (ops := l.toArray) hc (i := i) (o := o) (by simpa using ho) hmt (j := e) (by simpa using hx.1 e he)
      exact this
    · have := hx.2 e he
      rw [Bool.or_eq_true] at this
      cases hle : listed.getD e false with
      | false => rfl
      | true =>
        rcases this with h | h
        · have e1 : e = i := by simpa using h
          rw [e1, hun] at hle; cases hle
        · have := hws hc e hle i h
          rw [hun] at this; cases this
  have hBsame : ∀ {listed : Array Bool} {i : Nat}, es.contains i = false → B (listed.setIfInBounds i true) = B listed := by
    intro listed i hi
    show all.getD _ [] = all.getD _ []
    congr 1
    refine List.countP_congr fun e he => ?_
    have : i ≠ e := fun e' => by subst e'; have : es.contains i = true := by simpa using he
                                 rw [hi] at this; cases this
    simp only [Array.getD_eq_getD_getElem?, Array.getElem?_setIfInBounds_ne this]
  have hlk : ∀ {i : Nat} {o : Oper}, l.toArray[i]? = some o → l[i]? = some o ∧ i < l.length := fun {i o} h => by
    have h' : l[i]? = some o := by simpa using h
    exact ⟨h', (List.getElem?_eq_some_iff.1 h').1⟩
  refine Adx (T := T) (B := B) (HI := HI) ok (fun i o ho => ?_) hTt (fun a w S H r => ⟨H, ?_, ?_⟩) (fun listed hs hl => ?_)
  · obtain ⟨ho', hil⟩ := hlk ho
    rcases hG i o ho' with ⟨hne, d, hd, hdn, hg⟩ | ⟨j, M, M', x, h1, h2, h3, h4, h5, h6, h7⟩
    · rw [Nat.zero_add] at hne hg
      refine .inl fun listed H hs hun hmt hc => ?_
      have hBmem : B listed ∈ all := by
        have hle : es.countP (fun e => listed.getD e false) < all.length := by have := List.countP_le_length (p := fun e => listed.getD e false) (l := es); omega
        show all.getD (es.countP fun e => listed.getD e false) [] ∈ all
        simp only [List.getD, List.getElem?_eq_getElem hle, Option.getD_some]
        exact List.getElem_mem hle
      rcases hg with ⟨md, hg, hmd⟩ | hg
      · refine ⟨md, ⟨d, hd, hdn, hg⟩, ?_, hBsame hne, hc.set ho hmt⟩
        rcases hmd with ⟨j, hx, hM⟩ | hmd
        · have := exact_ hc ho' hmt (huf hs hil hun) hx hM
          show Abt md (all.getD (es.countP fun e => listed.getD e false) [])
          rw [this]
          simp only [List.getD, hM, Option.getD_some]
          exact Abt.refl md
        · exact hmd _ hBmem
      · exact ⟨B listed, ⟨d, hd, hdn, hg _ hBmem⟩, Abt.refl _, hBsame hne, hc.set ho hmt⟩
    · rw [Nat.zero_add] at h1 h2
      refine .inr ⟨h5, fun listed hs hun hmt a w S H r hc K Qn hK => ?_⟩
      have hcnt := exact_ hc ho' hmt (huf hs hil hun) h2 h3
      have hcnt' : es.countP (fun e => (listed.setIfInBounds i true).getD e false) = j + 1 := by
        have hjl := (List.getElem?_eq_some_iff.1 h1).1
        have hje := (List.getElem?_eq_some_iff.1 h1).2
        have hx := h2
        unfold Uj at hx
        rw [Bool.and_eq_true, List.all_eq_true, List.all_eq_true] at hx
        refine Xh (by omega) (fun e he => ?_) (fun e he => ?_)
        · by_cases hei : e = i
          · subst hei
            simp only [Array.getD_eq_getD_getElem?]
            rw [Array.getElem?_setIfInBounds_self_of_lt (by rw [hs]; simpa using hil)]; rfl
          · have hmem : e ∈ es.take j := by
              rw [List.take_add_one, List.mem_append] at he
              rcases he with he | he
              · exact he
              · rw [h1] at he; simp at he; exact absurd he hei
            have := Zb (ops := l.toArray) hc (i := i) (o := o) ho hmt (j := e) (by simpa using hx.1 e hmem)
            simp only [Array.getD_eq_getD_getElem?, Array.getElem?_setIfInBounds_ne (fun e' => hei e'.symm)] at this ⊢
            exact this
        · have hei : e ≠ i := by
            intro e'
            subst e'
            obtain ⟨q, hq, hqe⟩ := List.getElem_of_mem he
            rw [List.getElem_drop] at hqe
            have := (List.getElem_inj hnd).1 (hqe.trans hje.symm)
            omega
          have hd' : e ∈ es.drop j := by
            rw [← List.drop_drop] at he
            exact List.mem_of_mem_drop he
          have := hx.2 e hd'
          rw [Bool.or_eq_true] at this
          simp only [Array.getD_eq_getD_getElem?, Array.getElem?_setIfInBounds_ne (fun e' => hei e'.symm)]
          cases hle : listed.getD e false with
          | false => simpa [Array.getD_eq_getD_getElem?] using hle
          | true =>
            rcases this with h | h
            · exact absurd (by simpa using h) hei
            · have h9 := hws hc e hle i h
              rw [huf hs hil hun] at h9; cases h9
      have hB1 : B listed = M := by show all.getD _ [] = M; rw [hcnt]; simp [List.getD, h3]
      have hB2 : B (listed.setIfInBounds i true) = M' := by show all.getD _ [] = M'; rw [hcnt']; simp [List.getD, h4]
      have hlook := Ad4 (T := T) ok hs ho hmt
      have hmix : mix T (o.looksAt l.toArray) (TL l.toArray T listed) = TL l.toArray T listed := by
        funext y
        unfold mix
        cases hc' : (o.looksAt l.toArray).contains y with
        | false => rfl
        | true => exact (hlook y (by simpa using hc')).symm
      have heff := h6 (TL l.toArray T listed)
      rw [hmix] at heff
      rw [hB1] at r
      have hw := heff a w S H r
      unfold wpList at hw
      rw [if_pos (by rfl)] at hw
      rcases hw with hw | ⟨_, a', w', st', S', H', _, he, _⟩
      · refine Adn (P := P) (o := o) ?_ ?_ (show o.wp P a w _ _ from hw)
        · rintro a' w' ⟨st', S', H', r', _, rfl⟩
          refine hK a' w' S' H' ?_ (hc.set ho hmt)
          rw [hB2]
          cases hd : o.dst with
          | none =>
            rw [hd] at r'
            rw [← Ze ho hd]
            exact r'
          | some d =>
            rw [hd] at r'
            rw [← Akv (T := T) ok hs ho hun hd, (h7 d hd).2]
            exact r'
        · rintro e a' w' hne ⟨st', S', H', r', he, _⟩
          exact absurd he hne
      · cases he
  · have : B (Array.replicate l.toArray.size false) = m := by
      show all.getD _ [] = m
      have h9 : es.countP (fun e => (Array.replicate l.toArray.size false).getD e false) = 0 := by
        refine List.countP_eq_zero.2 fun e _ => ?_
        simp only [Array.getD_eq_getD_getElem?, Array.getElem?_replicate]
        split <;> simp
      rw [h9]
      simp [List.getD, h0]
    rw [this]
    exact r
  · intro i o _ hl
    simp only [Array.getD_eq_getD_getElem?, Array.getElem?_replicate] at hl
    split at hl <;> simp at hl
  · have hin : ∀ e ∈ es, e < l.length := fun e he => by simpa using List.all_eq_true.1 hes e he
    have h9 : es.countP (fun e => listed.getD e false) = es.length := by
      refine List.countP_eq_length.2 fun e he => ?_
      have h1 := hl e (by simpa using hin e he)
      have h2 : e < listed.size := by rw [hs]; simpa using hin e he
      simp only [Array.getD_eq_getD_getElem?, Array.getElem?_eq_getElem h2, Option.getD_some] at h1 ⊢
      exact h1
    have : B listed = last := by
      show all.getD _ [] = last
      rw [h9]
      simp [List.getD, hlast]
    rw [this]
    exact hQ
theorem Jj {id : Nat} {l : List Oper} (es ws : List Nat) (all : List (List Blk)) {last : List Blk} (hws : Mq l [] = ws) (hm : P.follows .mixedOrders = true) (hok : Zc l.toArray = true) (hnd : es.Nodup) (hes : (es.all fun e => decide (e < l.length)) = true) (hall : all.length = es.length + 1) (h0 : all[0]? = some m) (hlast : all[es.length]? = some last)
    (h : DE P c l.toArray ws es all (fun T => Q .normal ⟨T, last⟩) 0 all l t) : AWC P c (.region id l.toArray true) Q ⟨t, m⟩ := (Amx es ws all hws hok hnd hes hall h0 hlast h).awc hm
variable {ops : Array Oper} {ws es : List Nat} {all Ms : List (List Blk)} {k : (Nat → AV) → Prop} {rest : List Oper} {op : Op} {ty : TypeId} {pos : String} {af : Array Edge} {d : Tmp} {x : AV} {i : Nat}
def Avb (ws es : List Nat) (all : List (List Blk)) (i : Nat) (md : List Blk) : Prop := (∃ j, Uj ws es i j = true ∧ all[j]? = some md) ∨ ∀ M ∈ all, Abt md M
theorem Bb (j : Nat) {md : List Blk} (h : Uj ws es i j = true) (hm : all[j]? = some md) : Avb ws es all i md := .inl ⟨j, h, hm⟩
theorem Z1 {M : List Blk} (h : k t) : DE P c ops ws es all k i [M] [] t := ⟨rfl, h⟩
theorem ev {md : List Blk} (hs : Avb ws es all i md) (hi : es.contains i = false) (hd : decide (d < c.nt) = true) (h : OpV P c ⟨Q9 t (Oper.looksAt ops ⟨some d, op, ty, pos, af, none⟩), md⟩ op ty x) (kk : DE P c ops ws es all k (i + 1) Ms rest (upd t d x)) : DE P c ops ws es all k i Ms (⟨some d, op, ty, pos, af, none⟩ :: rest) t :=
  .inl ⟨hi, x, d, rfl, of_decide_eq_true hd, .inl ⟨md, .inl ⟨.inl rfl, h.opD⟩, hs⟩, kk⟩
theorem emv (hi : es.contains i = false) (hd : decide (d < c.nt) = true) (h : ∀ md, OpV P c ⟨Q9 t (Oper.looksAt ops ⟨some d, op, ty, pos, af, none⟩), md⟩ op ty x) (kk : DE P c ops ws es all k (i + 1) Ms rest (upd t d x)) : DE P c ops ws es all k i Ms (⟨some d, op, ty, pos, af, none⟩ :: rest) t :=
  .inl ⟨hi, x, d, rfl, of_decide_eq_true hd, .inr fun _ _ => .inl ⟨.inl rfl, (h _).opD⟩, kk⟩
theorem ed {md : List Blk} (hs : Avb ws es all i md) (hi : es.contains i = false) (hd : decide (d < c.nt) = true) (h : OpD P c ⟨Q9 t (Oper.looksAt ops ⟨some d, op, ty, pos, af, none⟩), md⟩ op ty x) (kk : DE P c ops ws es all k (i + 1) Ms rest (upd t d x)) : DE P c ops ws es all k i Ms (⟨some d, op, ty, pos, af, none⟩ :: rest) t :=
  .inl ⟨hi, x, d, rfl, of_decide_eq_true hd, .inl ⟨md, .inl ⟨.inl rfl, h⟩, hs⟩, kk⟩
theorem ee (j : Nat) {M M' : List Blk} (he : es[j]? = some i) (hx : Uj ws es i j = true) (h1 : all[j]? = some M) (h2 : all[j + 1]? = some M') (hd : decide (d < c.nt) = true)
    (h : ∀ ζ, AWL P c ops (fun e st => e = .normal ∧ st = ⟨upd (mix t (Oper.looksAt ops ⟨some d, op, ty, pos, af, none⟩) ζ) d x, M'⟩) [⟨some d, op, ty, pos, af, none⟩] ⟨mix t (Oper.looksAt ops ⟨some d, op, ty, pos, af, none⟩) ζ, M⟩)
    (kk : DE P c ops ws es all k (i + 1) (M' :: Ms) rest (upd t d x)) : DE P c ops ws es all k i (M :: M' :: Ms) (⟨some d, op, ty, pos, af, none⟩ :: rest) t :=
  .inr ⟨j, M, M', Ms, x, he, hx, h1, h2, rfl, .inl rfl, h, fun d' h' => by cases h'; exact of_decide_eq_true hd, kk⟩
theorem ee0 (j : Nat) {M M' : List Blk} (he : es[j]? = some i) (hx : Uj ws es i j = true) (h1 : all[j]? = some M) (h2 : all[j + 1]? = some M')
    (h : ∀ ζ, AWL P c ops (fun e st => e = .normal ∧ st = ⟨mix t (Oper.looksAt ops ⟨none, op, ty, pos, af, none⟩) ζ, M'⟩) [⟨none, op, ty, pos, af, none⟩] ⟨mix t (Oper.looksAt ops ⟨none, op, ty, pos, af, none⟩) ζ, M⟩)
    (kk : DE P c ops ws es all k (i + 1) (M' :: Ms) rest t) : DE P c ops ws es all k i (M :: M' :: Ms) (⟨none, op, ty, pos, af, none⟩ :: rest) t :=
  .inr ⟨j, M, M', Ms, .top, he, hx, h1, h2, rfl, .inl rfl, h, (fun d' h' => by cases h'), kk⟩
theorem Sv {st : AS} {ops' : Array Oper} : AWL P c ops' (fun e s => e = .normal ∧ s = st) [] st := Afk ⟨rfl, rfl⟩
def Z6 : List Blk → List Blk → Prop
  | [], [] => True
  | .dead :: r, b :: r' => (match b with | .arr .. => False | _ => True) ∧ Z6 r r'
  | a :: r, b :: r' => a = b ∧ Z6 r r'
  | _, _ => False
theorem Aex : ∀ {md M : List Blk}, Z6 md M → Abt md M
  | [], [], _ => Abt.refl []
  | [], _ :: _, h => h.elim
  | a :: r, [], h => by cases a <;> exact h.elim
  | a :: r, b :: r', h => by
    have h' : (a = .dead ∧ (∀ e sz k cs, b ≠ .arr e sz k cs) ∧ Z6 r r') ∨ (a = b ∧ Z6 r r') := by
      cases a with
      | dead => exact .inl ⟨rfl, fun e sz k cs e' => by subst e'; exact h.1, h.2⟩
      | hole => exact .inr h
      | obj g mk cs => exact .inr h
      | tab mk cs => exact .inr h
      | box cs => exact .inr h
      | arr e sz k cs => exact .inr h
    have ih := Aex (show Z6 r r' by rcases h' with h' | h'; exact h'.2.2; exact h'.2)
    refine ⟨by simp [ih.len], fun p x hx => ?_, fun p e sz k cs hx => ?_⟩
    · cases p with
      | zero =>
        simp only [List.getElem?_cons_zero, Option.some.injEq] at hx
        subst hx
        rcases h' with h' | h'
        · exact .inl h'.1
        · exact .inr (by simp [h'.1])
      | succ p => exact ih.at_ p x (by simpa using hx)
    · cases p with
      | zero =>
        simp only [List.getElem?_cons_zero, Option.some.injEq] at hx
        rcases h' with h' | h'
        · exact absurd hx (h'.2.1 e sz k cs)
        · simp [h'.1, hx]
      | succ p => exact ih.arr p e sz k cs (by simpa using hx)
def Yx (md : List Blk) : List (List Blk) → Prop
  | [] => True
  | M :: r => Z6 md M ∧ Yx md r
theorem Aa3 {md : List Blk} : ∀ {l : List (List Blk)}, Yx md l → ∀ M ∈ l, Abt md M
  | [], _, M, h => by simp at h
  | N :: r, h, M, hm => by
    rcases List.mem_cons.1 hm with rfl | hm
    · exact Aex h.1
    · exact Aa3 h.2 M hm
theorem Bh {md : List Blk} (h : Yx md all) : Avb ws es all i md := .inr (Aa3 h)
end
end Go.Proofs.YtbjckaahoacbfaaGreatDoor.Abs
namespace Go.Proofs.YtbjckaahoacbfaaGreatDoor.Abs
open Go.RowKit
section
variable {P : Program} {c : Ctx} {st : AS} {ty : TypeId}
theorem Ahc {op : Op} {e sz n : Nat} {cs : List Lf} (hsz : 0 < sz) (h : Agb P c st op ty e sz n cs) : OpD P c st op ty (.s (.one (.sl n cs))) := by
  intro a w S H r dst pos af g K Q hK
  obtain ⟨v, w', vals, hrun, hext, hin, hown, hls⟩ := h a w S H r
  unfold Oper.wp
  rw [hrun]
  let S' : Dh := fun b i => S b i ∨ (Lu v = some b ∧ i < cs.length)
  have hge : ∀ b, Lu v = some b → w.heap.size ≤ b ∧ b < w'.heap.size := by
    intro b hb
    rcases hown.2 with ⟨hv, _⟩ | ⟨g', cap, cur, hv, h1, h2, _⟩
    · rw [hv] at hb; cases hb
    · rw [hv] at hb
      cases hb
      exact ⟨h1, (Array.getElem?_eq_some_iff.1 h2).1⟩
  have hext' : Ext w S w' S' := ⟨hext.os, hext.tape, hext.output, hext.size, hext.blk, fun b i hs => .inl (hext.sub b i hs), fun b i hb hs => by
    rcases hs with hs | hs
    · exact hext.back b i hb hs
    · have := (hge b hs.1).1; omega⟩
  have hin' : InH w' S' := ⟨fun b i hs => by
    rcases hs with hs | hs
    · exact hin.1 b i hs
    · exact (hge b hs.1).2, hin.2.mono fun b i hs => ⟨.inl hs, rfl⟩⟩
  refine hK v w' S' hext' hin' (Gl ?_)
  have hnl : n * sz = cs.length := by rw [← hown.1, hls.1]
  rcases hown.2 with ⟨hv, h0⟩ | ⟨g', cap, cur, hv, hbg, hg, hnc, hcm, hcs, htake⟩
  · subst h0
    have : cs = [] := List.eq_nil_of_length_eq_zero (by rw [← hnl, Nat.zero_mul])
    subst this
    rw [hv]
    exact .sl0 _ _
  · rw [hv]
    refine Rep.sl n cs g' 0 cap (fun j => vals.getD j undef) hnc hcm (fun j l hl => ?_) (fun j l hl => ?_)
    · have hj : j < cs.length := (List.getElem?_eq_some_iff.1 hl).1
      obtain ⟨u, hu, _⟩ := hls.get hl
      refine ⟨.inr ⟨by rw [hv]; simp [Lu], by omega⟩, ?_⟩
      have := hown.cells (g := g') (by rw [hv]; rfl) j u hu
      rw [Addr.add_lit] at this
      rw [this]
      simp [List.getD, hu]
    · obtain ⟨u, hu, hr⟩ := hls.get hl
      have : vals.getD j undef = u := by simp [List.getD, hu]
      rw [this]
      exact Rep.mono (fun b i h => ⟨.inl h, rfl⟩) hr
variable {α : Type} {f : α → List Lf} {sz : Nat}
theorem Aqy {t e sz bytes len : Nat} {zl out : List Lf} {F5 : Array (Nat × Operand)} {xs : List (Nat × SV)} (si : P.underlying t = some (.slice e)) (ei : EI P e sz bytes zl) (hp : Yz st F5.toList xs)
    (hb : V0 (fun i : Nat => some (i * sz, sz)) (X5 zl (len * sz)) xs out) (hout : out.all Lf.pubd = true) (hlen : len * sz ≤ 16777216) : OpD P c st (.buildSlice t len F5) ty (.s (.one (.sl len out))) :=
  Ahc ei.p (S6 si ei hp hb (List.all_eq_true.1 hout) hlen)
theorem Px {callee : Operand} {g : FuncId} {la lb : List Lf} {args : Array Operand} {ats : Array TypeId} {xs : List SV} {r : AV} (hf : FnI P g) (hcal : Cal st callee g la lb) (ho : Xu st args.toList xs) (hp : (la.map SV.one ++ xs ++ lb.map SV.one).all (fun x => x.cells.all Lf.pubd) = true) (hc : Bl P g (la.map SV.one ++ xs ++ lb.map SV.one) (· = r)) :
    OpD P c st (.call { callee := .value callee, args := args, argTypes := ats }) ty r := by
  intro a w S H rr dst pos af gd K Q hK
  obtain ⟨va, vb, hv, h1, h2⟩ := hcal.val rr
  have hsv := T2 (T2 (X3 h1) (Rn rr ho)) (X3 h2)
  have hsr : Yl (Rep w S) (la.map SV.one ++ xs ++ lb.map SV.one) (va.toList ++ args.toList.map a.eval ++ vb.toList) :=
    ⟨hsv.1, fun j x v hx hv' => Aen (hsv.2 j x v hx hv') (List.all_eq_true.1 hp x (List.mem_of_getElem? hx))⟩
  unfold Oper.wp
  have hrun : (execOp a.eval ⟨dst, .call { callee := .value callee, args := args, argTypes := ats }, ty, pos, af, gd⟩).run P w = .ok (.enter g (va ++ args.map a.eval ++ vb)) w := by
    simp [execOp, resolve, hv, Deferred.ofValue, invoke, hf.run]
  rw [hrun]
  refine (hc w S (va ++ args.map a.eval ++ vb) rr.sl (by simpa using hsr)).mono ?_
  rintro e w' ⟨v, x, S', rfl, rfl, hext, hin, hav⟩
  exact hK v w' S' hext hin (T0 hav)
end
section
variable {P : Program} {c : Ctx} {t : Nat → AV} {m : List Blk} {ops : Array Oper} {Q : Exit → AS → Prop} {rest : List Oper} {op : Op} {ty : TypeId} {pos : String} {af : Array Edge} {d : Tmp} {x : AV}
theorem sd (hd : decide (d < c.nt) = true) (h : OpD P c ⟨t, m⟩ op ty x) (k : AWL P c ops Q rest ⟨upd t d x, m⟩) : AWL P c ops Q (⟨some d, op, ty, pos, af, none⟩ :: rest) ⟨t, m⟩ := by
  intro a w S H r
  refine wpList_plain rfl fun K hK => ?_
  exact h a w S H r (some d) pos af none K _ (fun v w' S' hext hin hav => hK _ _ (k _ _ _ _ ((r.ext hext hin).put (of_decide_eq_true hd) hav)))
theorem Vi {t' e sz bytes len : Nat} {zl out : List Lf} {F5 : Array (Nat × Operand)} {xs : List (Nat × SV)} (hd : decide (d < c.nt) = true) (si : P.underlying t' = some (.slice e)) (ei : EI P e sz bytes zl) (hp : Yz ⟨t, m⟩ F5.toList xs)
    (hb : V0 (fun i : Nat => some (i * sz, sz)) (X5 zl (len * sz)) xs out) (hout : out.all Lf.pubd = true) (hlen : len * sz ≤ 16777216)
    (k : AWL P c ops Q rest ⟨upd t d (.s (.one (.ls m.length len))), m ++ [.arr e sz 0 out]⟩) : AWL P c ops Q (⟨some d, .buildSlice t' len F5, ty, pos, af, none⟩ :: rest) ⟨t, m⟩ :=
  Q5 ei.p (of_decide_eq_true hd) (S6 si ei hp hb (List.all_eq_true.1 hout) hlen) k
end
end Go.Proofs.YtbjckaahoacbfaaGreatDoor.Abs
namespace Go.Proofs.YtbjckaahoacbfaaGreatDoor.Abs
open Go.RowKit
section
variable {P : Program} {c : Ctx} {st : AS} {t : Nat → AV} {m : List Blk} {ops : Array Oper} {Q : Exit → AS → Prop} {rest : List Oper} {ty : TypeId} {pos : String} {af : Array Edge} {d : Tmp}
theorem Aqi {xt yt e n : Nat} {x : Operand} {cs : List Lf} (hd : decide (d < c.nt) = true) (hu : P.underlying xt = some (.slice e)) (hx : Ca ⟨t, m⟩ x = .s (.one (.sl n cs)))
  (k : ∀ b, (b = true → n = 0) → AWL P c ops Q rest ⟨upd t d (.s (.one (.b b))), m⟩) : AWL P c ops Q (⟨some d, .binOp .eql xt x (.const (.slice none 0 0)) yt, ty, pos, af, none⟩ :: rest) ⟨t, m⟩ := by
 intro a w S H r
 have hx' := Bm r x
 rw [hx] at hx'
 have hx'' : Rep w S (.sl n cs) (a.eval x) := hx'
 refine wpList_plain rfl fun K hK => ?_
 unfold Oper.wp
 have key : ∀ b, (b = true → n = 0) → (execOp a.eval ⟨some d, .binOp .eql xt x (.const (.slice none 0 0)) yt, ty, pos, af, none⟩).run P w = .ok (.value (.bool b)) w → Oper.upon P ⟨some d, .binOp .eql xt x (.const (.slice none 0 0)) yt, ty, pos, af, none⟩ a K (QR c Q) ((execOp a.eval ⟨some d, .binOp .eql xt x (.const (.slice none 0 0)) yt, ty, pos, af, none⟩).run P w) := by
  intro b hb hrun
  rw [hrun]
  exact hK _ _ (k b hb _ _ _ _ (r.put (d := d) (x := .s (.one (.b b))) (of_decide_eq_true hd) (Gl (.b b))))
 generalize hv : a.eval x = v at hx''
 have hc : a.eval (.const (.slice none 0 0)) = .slice none 0 0 := rfl
 cases hx'' with
 | sl0 ad cap =>
  refine key ad.isNone (fun _ => rfl) ?_
  cases ad <;> simp [execOp, hv, hc, eqGuard, binOp, run_underlying hu, run_equal_slice_nil w xt e _ _ _ hu]
 | sl n cs bk off cap vals hcn hm hs hr =>
  refine key false (fun h => by cases h) ?_
  simp [execOp, hv, hc, eqGuard, binOp, run_underlying hu, run_equal_slice_nil w xt e _ _ _ hu]
theorem Aip (d : Nat) {w : World} {t e : TypeId} {a : Addr} (h : P.underlying t = some (.pointer e)) : (Op.equalIn (d + 1) t (.pointer (some a)) (.pointer none)).run P w = .ok false w := by
 simp [Op.equalIn, run_underlying h]
theorem Apq (d : Nat) {w : World} {t : TypeId} {ds : TypeDesc} {f : Fn} {va vb : Array Value} (h : P.underlying t = some ds) (hd : (match ds with | .func .. => true | _ => false) = true) : (Op.equalIn (d + 1) t (.func f va vb) .nilFunc).run P w = .ok false w := by
 cases ds <;> simp at hd
 simp [Op.equalIn, run_underlying h]
theorem W8 {xt yt e : TypeId} {x : Operand} {p o : Nat} (hu : P.underlying xt = some (.pointer e)) (hx : Ca st x = .s (.one (.lp p o))) : OpV P c st (.binOp .eql xt x (.const (.pointer none)) yt) ty (.s (.one (.b false))) := by
 intro a w S H r
 have hx' := Bm r x
 rw [hx] at hx'
 obtain ⟨_, g, _, hv⟩ := hx'
 refine ⟨.bool false, Gl (.b _), fun _ _ _ _ => ?_⟩
 have hc : a.eval (.const (.pointer none)) = .pointer none := rfl
 simp [execOp, hv, hc, eqGuard, binOp, Op.equal, show Op.maxDepth = 9999 + 1 from rfl, Aip 9999 hu]
theorem Adt {xt yt : TypeId} {x : Operand} {d : TypeDesc} {f : FuncId} {la lb : List Lf} (hu : P.underlying xt = some d) (hd : (match d with | .func .. => true | _ => false) = true) (hx : Ca st x = .s (.one (.fn f la lb))) : OpV P c st (.binOp .eql xt x (.const .nilFunc) yt) ty (.s (.one (.b false))) := by
 intro a w S H r
 have hx' := Bm r x
 rw [hx] at hx'
 obtain ⟨va, vb, hv, _⟩ := hx'
 refine ⟨.bool false, Gl (.b _), fun _ _ _ _ => ?_⟩
 have hc : a.eval (.const .nilFunc) = .nilFunc := rfl
 simp [execOp, hv, hc, eqGuard, binOp, Op.equal, show Op.maxDepth = 9999 + 1 from rfl, Apq 9999 hu hd]
end
end Go.Proofs.YtbjckaahoacbfaaGreatDoor.Abs
namespace Go.Proofs.YtbjckaahoacbfaaGreatDoor.Abs
open Go.RowKit
section
variable {P : Program} {c : Ctx} {st : AS} {ty : TypeId}
theorem L8 {t : TypeId} {x : Operand} {e sz : Nat} (si : SI P t e sz) (hx : Ca st x = .s (.one (.raw (.slice none 0 0)))) :
  OpV P c st (.call { callee := .builtin .cap, args := #[x], argTypes := #[t] }) ty (.s (.one (.i .i64 0))) := by
 intro a w S H r
 have hx' := Bm r x
 rw [hx] at hx'
 have hv : a.eval x = .slice none 0 0 := Nb hx'
 refine ⟨.int .i64 0, Gl (.i _ _), fun _ _ _ _ => ?_⟩
 simp [execOp, resolve, invoke, builtin, Builtin.cap_, run_underlying si.u, hv, goInt]
theorem Pg {t : TypeId} {x o : Operand} {e sz : Nat} {k : IntKind} (si : SI P t e sz) (hx : Ca st x = .s (.one (.raw (.slice none 0 0)))) (ho : Ca st o = .s (.one (.i k 0))) :
  OpV P c st (.slice t x none (some o) none) ty (.s (.one (.raw (.slice none 0 0)))) := by
 intro a w S H r
 have hx' := Bm r x
 rw [hx] at hx'
 have hv : a.eval x = .slice none 0 0 := Nb hx'
 refine ⟨.slice none 0 0, Gl (.raw _ rfl), fun _ _ _ _ => ?_⟩
 have hb := No (P := P) r ho (Int.le_refl 0) 0 (Nat.zero_le _) .sliceAcap
 simp only [Int.toNat_zero] at hb
 simp [execOp, hv, Instr.sliceAt, Instr.slice, run_underlying si.u, Instr.sliceBounds, C7 si.i, hb]
end
section
variable {P : Program} {c : Ctx} {t : Nat → AV} {m : List Blk} {ops : Array Oper} {Q : Exit → AS → Prop} {rest : List Oper} {ty : TypeId} {pos : String} {af : Array Edge} {d : Tmp} {α : Type} {f : α → List Lf} {sz : Nat}
theorem Arb {x y : Operand} {t' t2 e bytes : Nat} {zl : List Lf} {k kn : IntKind} {n : Int} {z : α} (hd : decide (d < c.nt) = true) (si : P.underlying t' = some (.slice e)) (ei : EI P e sz bytes zl) (h2 : P.underlying t2 = some (.int kn)) (hf : ∀ x, (f x).length = sz) (hz : f z = zl) (hx : Ca ⟨t, m⟩ x = .s (.one (.raw (.slice none 0 0)))) (hy : Ca ⟨t, m⟩ y = .s (.one (.i k n)))
  (h : 0 < n ∧ n * (bytes : Int) ≤ 281474976710656) (hb : 0 < bytes)
  (kk : AWL P c ops Q rest ⟨upd t d (.s (.one (.ls m.length (List.replicate n.toNat z).length))), m ++ [.arr e sz 0 ((List.replicate n.toNat z).flatMap f)]⟩) :
  AWL P c ops Q (⟨some d, .call { callee := .builtin .append, args := #[x, y], argTypes := #[t', t2] }, ty, pos, af, none⟩ :: rest) ⟨t, m⟩ := by
 obtain ⟨N, rfl⟩ : ∃ N : Nat, n = (N : Int) := ⟨n.toNat, by omega⟩
 have hN : 0 < N := by omega
 have h48 : N * bytes ≤ 281474976710656 := by have := h.2; rw [← Int.natCast_mul] at this; omega
 have hle : N ≤ N * bytes := Nat.le_mul_of_pos_right _ hb
 rw [Int.toNat_natCast, List.length_replicate, ← Yq hz hf] at kk
 refine Q5 (e := e) (sz := sz) (n := N) (cs := X5 zl (N * sz)) ei.p (of_decide_eq_true hd) (fun a w S H r => ?_) kk
 obtain ⟨i, zz, hi, hzz, hsize, hbytes, hzs, hzl, hzo⟩ := ei.h
 have hx' := Bm r x
 rw [hx] at hx'
 have hv : a.eval x = .slice none 0 0 := Nb hx'
 have hy' := Bm r y
 rw [hy] at hy'
 have ev : a.eval y = .int k N := Q3 hy'
 subst hsize hbytes
 have hrun := Lib.run_append_nil_zeros (P := P) w t' t2 ty e i zz k kn si h2 hi hzz N hN ei.p (by omega) h48
 have hcap := grownCap_ge w N 0 e
 have hcm : grownCap w N 0 e ≤ maxLen := grownCap_le_maxLen w N 0 e (by simp only [maxLen]; omega)
 have hlen1 : (Builtin.zeroCells zz.cells N).size = N * i.size := by rw [size_zeroCells, hzs]
 refine ⟨.slice (some ⟨w.heap.size, 0, none⟩) N (grownCap w N 0 e), w.drew.alloc (.cells (Builtin.zeroCells zz.cells N ++ Builtin.zeroCells zz.cells (grownCap w N 0 e - N)) e), (Builtin.zeroCells zz.cells N).toList, fun _ _ _ _ => by simp [execOp, resolve, invoke, builtin, hv, ev, hrun], ?_, r.sl.ext ((Ext.drew w S).trans (Ext.alloc w.drew S _)), ?_, ?_⟩
 ·exact (Ext.drew w S).trans (Ext.alloc w.drew S _)
 ·refine ⟨by rw [Array.length_toList, hlen1], .inr ⟨w.heap.size, grownCap w N 0 e, _, rfl, Nat.le_refl _, heap_alloc_new w.drew _, hcap, hcm, ?_, ?_⟩⟩
  ·simp only [Array.size_append, size_zeroCells, hzs, ← Nat.add_mul]
   congr 1; omega
  ·simp only [Array.toList_append]
   rw [List.take_left' (by rw [Array.length_toList, hlen1])]
 ·have := X8 (w := w.drew.alloc (.cells (Builtin.zeroCells zz.cells N ++ Builtin.zeroCells zz.cells (grownCap w N 0 e - N)) e)) (S := S) (z := zz) (by rw [hzs]; exact ei.p) hzo (N * i.size) (N * i.size) (Nat.le_refl _)
  have e2 : (madeCells zz.cells (N * i.size)).toList.take (N * i.size) = (Builtin.zeroCells zz.cells N).toList := by
   rw [List.take_of_length_le (by rw [Array.length_toList, size_madeCells]; exact Nat.le_refl _)]
   unfold madeCells Builtin.zeroCells
   rw [hzs]
  rw [e2] at this
  rw [← hzl]
  exact this
theorem Agy {x o : Operand} {t' e p n : Nat} {cs : List Lf} {xs : List α} {k : IntKind} {j : Int} (hd : decide (d < c.nt) = true) (si : SI P t' e sz) (hf : ∀ x, (f x).length = sz) (hx : Ca ⟨t, m⟩ x = .s (.one (.ls p n))) (hm : m[p]? = some (.arr e sz 0 cs)) (hcs : cs = xs.flatMap f) (hn : n = xs.length) (ho : Ca ⟨t, m⟩ o = .s (.one (.i k j))) (h : 0 ≤ j ∧ j ≤ xs.length)
  (kk : AWL P c ops Q rest ⟨upd t d (.s (.one (.ls m.length (xs.take j.toNat).length))), m.set p .dead ++ [.arr e sz 0 ((xs.take j.toNat).flatMap f)]⟩) :
  AWL P c ops Q (⟨some d, .slice t' x none (some o) none, ty, pos, af, none⟩ :: rest) ⟨t, m⟩ := by
 intro a w S H r
 have hx' := Bm r x
 rw [hx] at hx'
 obtain ⟨hp, _, hr⟩ := hx'
 have hnl : n * sz = cs.length := by rw [hcs, A7 hf, hn]
 have hv : a.eval x = H p := (hr _ _ _ _ hm).2 hnl
 obtain ⟨hsz, hk, n0, vals, hown, hls, hst⟩ := r.bl p _ hm
 have hn0 : n0 = n := Te hown hsz (by rw [← hls.1]; exact hnl)
 subst hn0
 have hjn : j.toNat ≤ n0 := by omega
 have hfl : (xs.take j.toNat).flatMap f = cs.take (j.toNat * sz) := by rw [hcs, Vv hf]
 have htl : (xs.take j.toNat).length = j.toNat := by rw [List.length_take]; omega
 have hsetl : m.set p .dead = m.set p .dead := rfl
 have hhead : ∃ v', (∀ dst pos af g, (execOp a.eval ⟨dst, .slice t' x none (some o) none, ty, pos, af, g⟩).run P w = .ok (.value v') w) ∧ w.ownsRow 0 e sz v' j.toNat (vals.take (j.toNat * sz)) ∧ (∀ g, Lu v' = some g → Lu (H p) = some g) ∧ v'.oneCell' = true := by
  have hvl : (vals.take (j.toNat * sz)).length = j.toNat * sz := by rw [List.length_take, hown.1, Nat.min_eq_left (Nat.mul_le_mul_right _ hjn)]
  rcases hown.2 with ⟨h1, h0⟩ | ⟨g, cap, cur, h1, h2, h3, h4, h5, h6, h7⟩
  ·have hj0 : j = 0 := by omega
   subst hj0
   have hb := No (P := P) r ho (Int.le_refl 0) 0 (Nat.zero_le _) .sliceAcap
   simp only [Int.toNat_zero] at hb
   refine ⟨.slice none 0 0, fun _ _ _ _ => by simp [execOp, hv, h1, Instr.sliceAt, Instr.slice, run_underlying si.u, Instr.sliceBounds, C7 si.i, hb], ⟨hvl, .inl ⟨rfl, rfl⟩⟩, (fun g hg => by cases hg), rfl⟩
  ·have hb := No (P := P) r ho h.1 cap (by omega) .sliceAcap
   refine ⟨.slice (some ⟨g, 0, none⟩) j.toNat cap, fun _ _ _ _ => by simp [execOp, hv, h1, Instr.sliceAt, Instr.slice, run_underlying si.u, Instr.sliceBounds, C7 si.i, hb, show (⟨g, 0, none⟩ : Addr).add 0 = ⟨g, 0, none⟩ from Addr.add_lit _ _ _], ⟨hvl, .inr ⟨g, cap, cur, rfl, h2, h3, by omega, h5, h6, ?_⟩⟩, fun g' hg => by rw [h1]; exact hg, rfl⟩
   rw [← h7, List.take_take, Nat.min_eq_left (Nat.mul_le_mul_right _ hjn)]
 obtain ⟨v', hrun, hown', hvo, hone⟩ := hhead
 have r1 : Rel c ⟨t, m.set p .dead⟩ a w S (Ub H p (H p)) := by
  refine r.change (p := p) (b' := .dead) (v := H p) (by simp) (by simp [hp]) (fun q hq => List.getElem?_set_ne (fun e => hq e.symm)) (fun b i h => ⟨h, rfl⟩) (fun g _ h => rfl) (fun e sz k cs _ h => by cases h)
   (fun g _ _ => rfl) trivial (fun g hg => by cases hg) (fun q b g i _ _ _ h => h) (fun g i _ _ h => h) r.sl (Nat.le_refl _) rfl rfl rfl (fun _ _ h => h)
 have hml : (m.set p Blk.dead).length = m.length := by simp
 have r2 : Rel c ⟨t, m.set p .dead ++ [.arr e sz 0 ((xs.take j.toNat).flatMap f)]⟩ a w S (Ub (Ub H p (H p)) m.length v') := by
  refine r1.change (p := m.length) (b' := .arr e sz 0 ((xs.take j.toNat).flatMap f)) (v := v') (by simp) (by rw [← hml]; simp) (fun q hq => ?_) (fun b i h => ⟨h, rfl⟩) (fun g h => absurd h (by rw [hml]; exact Nat.lt_irrefl _)) (fun e sz k cs h => absurd h (by rw [hml]; exact Nat.lt_irrefl _))
   (fun g _ _ => rfl) ⟨hsz, Nat.zero_le _, j.toNat, vals.take (j.toNat * sz), hown', ?_, fun g _ i hi => absurd hi (Nat.not_lt_zero _)⟩ (fun g hg => ?_) (fun q b g i _ _ _ h => h) (fun g i _ _ h => h) r1.sl (Nat.le_refl _) rfl rfl rfl
  ·rcases Nat.lt_or_ge q (m.set p Blk.dead).length with h | h
   ·rw [List.getElem?_append_left h]
   ·rw [List.getElem?_eq_none (by simp at h ⊢; omega), List.getElem?_eq_none h]
  ·rw [hfl]
   refine ⟨by rw [List.length_take, List.length_take, hls.1], fun q l u h1 h2 => ?_⟩
   rw [List.getElem?_take] at h1 h2
   split at h1
   ·rename_i hq
    rw [if_pos hq] at h2
    exact hls.2 q l u h1 h2
   ·cases h1
  ·have hg' : Lu v' = some g := hg
   have hgp := hvo g hg'
   have hlo := r.lo p _ g hm hgp
   refine ⟨hlo.1, hlo.2, fun q b _ hb hob => ?_, fun i hi => absurd (r.sb p _ g i hm hgp hi) (Nat.not_lt_zero _)⟩
   by_cases hqp : q = p
   ·subst hqp
    have hb' : (m.set q Blk.dead)[q]? = some b := hb
    rw [List.getElem?_set_self hp] at hb'
    cases hb'
    cases hob
   ·have hb' : (m.set p Blk.dead)[q]? = some b := hb
    rw [List.getElem?_set_ne (fun e => hqp e.symm)] at hb'
    rw [Dp H (H p) hqp] at hob
    exact hqp (r.inj q p b _ g hb' hm hob hgp)
 refine wpList_plain rfl fun K hK => ?_
 unfold Oper.wp
 rw [hrun]
 refine hK _ _ (kk _ _ _ _ (r2.put (d := d) (x := .s (.one (.ls m.length (xs.take j.toNat).length))) (of_decide_eq_true hd) ?_))
 refine ⟨by simp, ⟨hone, by rw [Df]; exact (U5 hown').2⟩, fun e2 sz2 k2 cs2 hm2 => ?_⟩
 have e0 : (m.set p Blk.dead ++ [.arr e sz 0 ((xs.take j.toNat).flatMap f)])[m.length]? = some (.arr e sz 0 ((xs.take j.toNat).flatMap f)) := by rw [← hml]; simp
 rw [e0] at hm2
 cases hm2
 exact ⟨by rw [A7 hf]; exact Nat.le_refl _, fun _ => (Df _ _ _).symm⟩
end
end Go.Proofs.YtbjckaahoacbfaaGreatDoor.Abs
namespace Go.Proofs.YtbjckaahoacbfaaGreatDoor.Abs
theorem T5 {α : Type} {f : α → List Lf} (h : ∀ n x, (f x).all (Lf.inbB n) = true) {n : Nat} (xs : List α) : (xs.flatMap f).all (Lf.inbB n) = true := by
 rw [List.all_flatMap]
 exact List.all_eq_true.2 fun x _ => h n x
end Go.Proofs.YtbjckaahoacbfaaGreatDoor.Abs
namespace Go.Proofs.YtbjckaahoacbfaaGreatDoor.Abs
open Go.RowKit
section
variable {P : Program} {c : Ctx} {t : Nat → AV} {m : List Blk} {ops : Array Oper} {Q : Exit → AS → Prop} {rest : List Oper} {ty : TypeId} {pos : String} {af : Array Edge} {d : Tmp} {sz : Nat}
end
end Go.Proofs.YtbjckaahoacbfaaGreatDoor.Abs
namespace Go.Proofs.YtbjckaahoacbfaaGreatDoor.Abs
open Go.RowKit
theorem Afh {c : Ctx} {st : AS} {a : Act} {w : World} {S : Dh} {H : Nat → Value} (r : Rel c st a w S H) {p i : Nat} {cs : List Lf} {l l' : Lf} {m' : List Blk} (hm : st.m[p]? = some (.box cs)) (hi : cs[i]? = some l) (hp : Em st.m l l' m') (hm' : m'[p]? = some (.box cs)) :
  ∃ S' H', Rel c ⟨st.t, m'.set p (.box (cs.set i l'))⟩ a w S' H' := by
 obtain ⟨S', k, g⟩ := hp.keeps (t := st.t) r
 have r' := k.rel
 have hpl : p < m'.length := (List.getElem?_eq_some_iff.1 hm').1
 obtain ⟨gg, e, cur, h1, h2, h3⟩ := r.bl p _ hm
 obtain ⟨gg', e', cur', h1', h2', h3'⟩ := r'.bl p _ hm'
 have e1 : gg = gg' := by rw [h1] at h1'; cases h1'; rfl
 subst e1
 have e2 : cur = cur' := by rw [h2] at h2'; cases h2'; rfl
 subst e2
 refine ⟨S', Ub H p (H p), r'.change (p := p) (b' := .box (cs.set i l')) (v := H p) (by simp) (by rw [List.getElem?_set_self hpl]) (fun q hq => List.getElem?_set_ne (fun e => hq e.symm)) (fun b i h => ⟨h, rfl⟩)
  (fun g _ _ => rfl) (fun e sz k cs _ h => by cases h) (fun g _ _ => rfl) ⟨gg, e', cur, h1', h2', ?_⟩
  (fun g hg => ⟨(r'.lo p _ g hm' hg).1, (r'.lo p _ g hm' hg).2, fun q b hq hb ho => hq (r'.inj q p b _ g hb hm' ho hg), fun j hj => r'.sb p (.box cs) g j hm' hg hj⟩) (fun q b g i _ _ _ h => h) (fun g i _ _ h => h) r'.sl (Nat.le_refl _) rfl rfl rfl⟩
 have hset : Ub H p (H p) = H := by
  funext q
  by_cases e' : q = p
  ·subst e'; exact Df H q _
  ·exact Dp H _ e'
 rw [hset]
 have hmono : ∀ l v, C9 w S' m' H l v → C9 w S' (m'.set p (.box (cs.set i l'))) H l v := fun l v =>
  C9.mono (fun b i h => ⟨h, rfl⟩) (by simp) (fun _ _ => rfl) (fun q e sz k cs1 _ hmm => by
   by_cases hq : q = p
   ·subst hq
    rw [List.getElem?_set_self hpl] at hmm
    cases hmm
   ·rw [List.getElem?_set_ne (fun e => hq e.symm)] at hmm
    exact ⟨k, cs1, hmm, rfl⟩)
 refine ⟨by rw [List.length_set]; exact h3.1, fun j x v hx hv => ?_⟩
 by_cases hj : j = i
 ·subst hj
  have hlt : j < cs.length := (List.getElem?_eq_some_iff.1 hi).1
  rw [List.getElem?_set_self hlt] at hx
  cases hx
  exact C9.of_rep (g v (h3.2 j l v hi hv))
 ·rw [List.getElem?_set_ne (fun e => hj e.symm)] at hx
  exact hmono _ _ (h3'.2 j x v hx hv)
section
variable {P : Program} {c : Ctx} {t : Nat → AV} {m : List Blk} {ops : Array Oper} {Q : Exit → AS → Prop}
theorem Ab0 {x : Code} (p i : Nat) {cs : List Lf} {u y : Lf} {m' : List Blk} (hm : m[p]? = some (.box cs)) (hi : cs[i]? = some u) (hp : Em m u y m') (hm' : m'[p]? = some (.box cs)) (k : AWC P c x Q ⟨t, m'.set p (.box (cs.set i y))⟩) : AWC P c x Q ⟨t, m⟩ :=
 Af9 _ (fun _ _ _ _ r => Afh (st := ⟨t, m⟩) r hm hi hp hm') k
end
end Go.Proofs.YtbjckaahoacbfaaGreatDoor.Abs
namespace Go.Proofs.YtbjckaahoacbfaaGreatDoor.Abs
open Go.RowKit
section
variable {P : Program} {c : Ctx} {st : AS} {ty : TypeId}
theorem Aca {xt yt e : TypeId} {x : Operand} {p o : Nat} (hu : P.underlying xt = some (.pointer e)) (hx : Ca st x = .s (.one (.lp p o))) : OpV P c st (.binOp .neq xt x (.const (.pointer none)) yt) ty (.s (.one (.b true))) := by
 intro a w S H r
 have hx' := Bm r x
 rw [hx] at hx'
 obtain ⟨_, g, _, hv⟩ := hx'
 refine ⟨.bool true, Gl (.b _), fun _ _ _ _ => ?_⟩
 have hc : a.eval (.const (.pointer none)) = .pointer none := rfl
 simp [execOp, hv, hc, eqGuard, binOp, Op.equal, show Op.maxDepth = 9999 + 1 from rfl, Aip 9999 hu]
end
end Go.Proofs.YtbjckaahoacbfaaGreatDoor.Abs
namespace Go.Proofs.YtbjckaahoacbfaaGreatDoor.Abs
open Go.RowKit
theorem Ars {w : World} {S : Dh} {n : Nat} {cs : List Lf} {ad : Option Addr} {cap cap' : Nat} (h : Rep w S (.sl n cs) (.slice ad n cap)) (h1 : n ≤ cap') (h2 : cap' ≤ cap) : Rep w S (.sl n cs) (.slice ad n cap') := by
 cases h with
 | sl0 => exact .sl0 _ _
 | sl _ _ b off _ vals hnc hcm hs hr => exact .sl _ _ b off cap' vals h1 (Nat.le_trans h2 hcm) hs hr
section
variable {P : Program} {c : Ctx} {st : AS} {ty : TypeId}
theorem Ahd {t e sz n lo hi mx : Nat} {x o2 o3 : Operand} {cs : List Lf} {l : Option Operand} (si : SI P t e sz) (hx : Ca st x = .s (.one (.sl n cs))) (hcs : cs.length = n * sz) (hl : Xo st l 0 lo) (hh : Xo st (some o2) n hi) (hm : Xo st (some o3) n mx) (h1 : lo ≤ hi) (h2 : hi ≤ mx) (h3 : mx ≤ n) :
  OpV P c st (.slice t x l (some o2) (some o3)) ty (.s (.one (.sl (hi - lo) ((cs.drop (lo * sz)).take ((hi - lo) * sz))))) := by
 intro a w S H r
 have hx' := Bm r x
 rw [hx] at hx'
 obtain ⟨ad, cap, hv, hnc, hrep⟩ := Ako (hx' : Rep w S (.sl n cs) (a.eval x)) h1 (Nat.le_trans h2 h3) hcs
 have hrep' : Rep w S (.sl (hi - lo) ((cs.drop (lo * sz)).take ((hi - lo) * sz))) (.slice (if mx = lo then ad else ad.map (·.add (lo * sz))) (hi - lo) (mx - lo)) := by
  by_cases e : hi = lo
  ·subst e
   rw [Nat.sub_self, Nat.zero_mul, List.take_zero]
   exact .sl0 _ _
  ·rw [if_neg (by omega)] at hrep ⊢
   exact Ars hrep (by omega) (by omega)
 refine ⟨_, Gl hrep', fun _ _ _ _ => ?_⟩
 obtain ⟨k2, i2, ho2, h02, rfl⟩ := hh
 obtain ⟨k3, i3, ho3, h03, rfl⟩ := hm
 have hb3 := No (P := P) r ho3 h03 cap (by omega) .slice3Acap
 have hb2 := No (P := P) r ho2 h02 i3.toNat h2 .slice3B
 have hrun : (Instr.sliceAt t (.slice ad n cap) (l.map a.eval) (some (a.eval o2)) (some (a.eval o3))).run P w = .ok (.slice (if i3.toNat = lo then ad else ad.map (·.add (lo * sz))) (i2.toNat - lo) (i3.toNat - lo)) w := by
  cases l with
  | none =>
   have : lo = 0 := hl
   subst this
   simp [Instr.sliceAt, Instr.slice, run_underlying si.u, Instr.sliceBounds, C7 si.i, hb2, hb3]
  | some o =>
   obtain ⟨k, i, ho, h0, rfl⟩ := hl
   have hb1 := No (P := P) r ho h0 i2.toNat h1 .slice3C
   simp [Instr.sliceAt, Instr.slice, run_underlying si.u, Instr.sliceBounds, C7 si.i, hb1, hb2, hb3]
 simp only [execOp, hv, Sem.run_bind, Option.map_some]
 rw [hrun]
 rfl
end
end Go.Proofs.YtbjckaahoacbfaaGreatDoor.Abs
namespace Go.Proofs.YtbjckaahoacbfaaGreatDoor.Abs
open Go.RowKit
section
variable {P : Program} {c : Ctx} {st : AS} {ty : TypeId} {α : Type} {f : α → List Lf} {sz : Nat}
theorem Afq {t e n : Nat} {x o2 o3 : Operand} {cs : List Lf} {xs ys : List α} {l : Option Operand} {lo hi mx : Int} (si : SI P t e sz) (hf : ∀ x, (f x).length = sz) (hx : Ca st x = .s (.one (.sl n cs))) (hcs : cs = xs.flatMap f) (hn : n = xs.length)
  (hl : Xo st l 0 lo.toNat) (hh : Xo st (some o2) n hi.toNat) (hm : Xo st (some o3) n mx.toNat) (hc : cut xs lo hi = some ys) (h3 : hi ≤ mx ∧ mx ≤ (xs.length : Int)) : OpV P c st (.slice t x l (some o2) (some o3)) ty (.s (.one (.sl ys.length (ys.flatMap f)))) := by
 obtain ⟨⟨h0, h1, h2⟩, rfl⟩ := L9 hc
 have := Ahd (P := P) (c := c) (ty := ty) si hx (by rw [hcs, A7 hf, hn]) hl hh hm (by omega) (by omega) (by rw [hn]; omega)
 rw [hcs, Vp hf, Vv hf] at this
 rw [List.length_take, List.length_drop, Nat.min_eq_left (by omega)]
 exact this
end
end Go.Proofs.YtbjckaahoacbfaaGreatDoor.Abs
namespace Go.Proofs.YtbjckaahoacbfaaGreatDoor.Abs
open Go.RowKit
theorem Adc {P : Program} (w : World) (dT sT ty elem : TypeId) (g n m q dCap sCap sz : Nat) (ad : Option Addr) (cur : Array Value) (t : TypeId) (cs : List Value)
  (hu : P.underlying dT = some (.slice elem)) (hs : (P.info? elem).map (·.size) = some sz)
  (hg : w.heap[g]? = some (.cells cur t (0, 0))) (hq : Nat.min m n = q)
  (hsrc : (Builtin.firstCells sz q (.slice ad m sCap)).run P w = .ok cs.toArray w) (hfit : cs.length ≤ cur.size) (h1 : ∀ v ∈ cs, v.oneCell' = true) :
  (Builtin.copy_ #[dT, sT] ty #[.slice (some ⟨g, 0, none⟩) n dCap, .slice ad m sCap]).run P w =
   .ok (goInt (q : Nat)) (w.setRow g (cs ++ cur.toList.drop cs.length).toArray) := by
 have hst := run_storeCells_at P g 0 t cs 0 cur w hg (by simpa using hfit) h1
 simp only [Nat.zero_add, List.take_zero, List.nil_append] at hst
 cases hi0 : P.info? elem with
 | none => simp [hi0] at hs
 | some i =>
  have hi : i.size = sz := by simpa [hi0] using hs
  simp [Builtin.copy_, run_underlying hu, Builtin.lenOf, sizeOf, typeInfo, hi0, hi, hq, hsrc, hst]
theorem Rel.copy {P : Program} {c : Ctx} {st : AS} {a : Act} {w : World} {S : Dh} {H : Nat → Value} (r : Rel c st a w S H) {t t2 ty e sz p n m : Nat} {cs ys : List Lf} {y : Value}
  (ht : P.underlying t = some (.slice e)) (hi : (P.info? e).map (·.size) = some sz) (hm : st.m[p]? = some (.arr e sz 0 cs)) (hn : n * sz = cs.length) (hy : Rep w S (.sl m ys) y) (hyl : ys.length = m * sz) :
  ∃ w', (Builtin.copy_ #[t, t2] ty #[H p, y]).run P w = .ok (goInt (Nat.min m n : Nat)) w' ∧ Rel c ⟨st.t, st.m.set p (.arr e sz 0 (ys.take (Nat.min m n * sz) ++ cs.drop (Nat.min m n * sz)))⟩ a w' S H := by
 have hp : p < st.m.length := (List.getElem?_eq_some_iff.1 hm).1
 obtain ⟨hsz, hk, n0, vals, hown, hcs, hstb⟩ := r.bl p _ hm
 have hnn : n0 = n := Te hown hsz (by rw [← hcs.1]; exact hn)
 subst hnn
 have hset : Ub H p (H p) = H := by
  funext q
  by_cases e' : q = p
  ·rw [e', Df]
  ·exact Dp H _ e'
 have hqm : Nat.min m n0 ≤ m := Nat.min_le_left _ _
 have hqn : Nat.min m n0 ≤ n0 := Nat.min_le_right _ _
 generalize hq : Nat.min m n0 = q at *
 have hqm' : q * sz ≤ m * sz := Nat.mul_le_mul_right _ hqm
 have hqn' : q * sz ≤ n0 * sz := Nat.mul_le_mul_right _ hqn
 have hsrc : ∃ ad cap news, y = .slice ad m cap ∧ news.length = q * sz ∧ (Builtin.firstCells sz q (.slice ad m cap)).run P w = .ok news.toArray w ∧ LsR (Rep w S) (ys.take (q * sz)) news := by
  cases hy with
  | sl0 ad cap =>
   have h0 : q = 0 := by omega
   subst h0
   refine ⟨ad, cap, [], rfl, by simp, ?_, by simp, fun j l v h => by simp at h⟩
   cases ad <;> simp [Builtin.firstCells, loadCells, loadCellsFrom]
  | sl m ys bk off cap vs hc hmx hs hr =>
   refine ⟨_, cap, (List.range (q * sz)).map vs, rfl, by simp, ?_, by rw [List.length_take, List.length_map, List.length_range, hyl]; exact Nat.min_eq_left hqm', fun j l u h1 h2 => ?_⟩
   ·refine run_firstCells_some w sz q ⟨bk, off, none⟩ m cap _ (by simp) (fun j v hj => ?_)
    rw [List.getElem?_map] at hj
    have hjl : j < q * sz := by
     rcases Nat.lt_or_ge j (q * sz) with h | h
     ·exact h
     ·rw [List.getElem?_eq_none (by simpa using h)] at hj; cases hj
    rw [List.getElem?_range hjl] at hj
    cases hj
    rw [Addr.add_lit]
    exact (hs j _ (List.getElem?_eq_getElem (by omega))).2
   ·rw [List.getElem?_take] at h1
    split at h1
    ·rename_i hjl
     rw [List.getElem?_map, List.getElem?_range hjl] at h2
     cases h2
     exact hr j l h1
    ·cases h1
 obtain ⟨ad, cap, news, rfl, hnl, hfc, hls⟩ := hsrc
 have hone : ∀ u ∈ news, u.oneCell' = true := by
  intro u hu
  obtain ⟨j, hj, hju⟩ := List.getElem_of_mem hu
  have hj' : j < (ys.take (q * sz)).length := by rw [hls.1]; exact hj
  exact Rep.oneCell (hls.2 j _ u (List.getElem?_eq_getElem hj') (by rw [List.getElem?_eq_getElem hj, hju]))
 rcases hown.2 with ⟨hv, h0⟩ | ⟨g, cp, cur, hv, hbg, hg, hnc, hcm, hcsz, htake⟩
 ·subst h0
  have hq0 : q = 0 := by omega
  subst hq0
  have hn0 : news = [] := List.eq_nil_of_length_eq_zero (by rw [hnl, Nat.zero_mul])
  subst hn0
  have hsame : st.m.set p (.arr e sz 0 (ys.take (0 * sz) ++ cs.drop (0 * sz))) = st.m := by
   rw [Nat.zero_mul, List.take_zero, List.drop_zero, List.nil_append]
   apply List.ext_getElem?
   intro j
   by_cases e' : p = j
   ·subst e'; rw [List.getElem?_set_self hp, hm]
   ·rw [List.getElem?_set_ne e']
  refine ⟨w, ?_, by rw [hsame]; exact r⟩
  rw [hv]
  cases hq' : P.info? e with
  | none => simp [hq'] at hi
  | some i =>
   have hi' : i.size = sz := by simpa [hq'] using hi
   simp [Builtin.copy_, run_underlying ht, Builtin.lenOf, sizeOf, typeInfo, hq', hi', hfc, hq]
 ·have hrun := Adc (P := P) w t t2 ty e g n0 m q cp cap sz ad cur e news ht hi hg hq hfc (by
   have := hown.1
   have h3 := congrArg List.length htake
   rw [List.length_take, Array.length_toList] at h3
   omega) hone
  have hrow := setRow_heap w g cur (news ++ cur.toList.drop news.length).toArray e _ hg
  have hoth : ∀ b, b ≠ g → (w.setRow g (news ++ cur.toList.drop news.length).toArray).heap[b]? = w.heap[b]? := fun b hb => setRow_other w g b _ hb
  have hownp : (Blk.arr e sz 0 cs).own (H p) = some g := by rw [hv]; rfl
  have hkeep : ∀ b j, S b j → S b j ∧ (w.setRow g (news ++ cur.toList.drop news.length).toArray).cell? ⟨b, j, none⟩ = w.cell? ⟨b, j, none⟩ := by
   intro b j hS
   refine ⟨hS, ?_⟩
   by_cases hbg' : b = g
   ·subst hbg'
    exact absurd (r.sb p _ b j hm hownp hS) (Nat.not_lt_zero _)
   ·exact World.cell?_of_block (w := w) (hoth b hbg')
  have hvl : vals.length = n0 * sz := hown.1
  have hown' : (w.setRow g (news ++ cur.toList.drop news.length).toArray).ownsRow 0 e sz (H p) n0 (news ++ vals.drop (q * sz)) := by
   refine ⟨by rw [List.length_append, hnl, List.length_drop, hvl]; omega, .inr ⟨g, cp, _, hv, hbg, hrow, hnc, hcm, ?_, ?_⟩⟩
   ·have := Nat.mul_le_mul_right sz hnc
    simp only [List.size_toArray, List.length_append, List.length_drop, Array.length_toList, hnl]; omega
   ·simp only [List.length_append, List.length_drop, hnl, hvl]
    rw [List.take_append, hnl]
    have hq1 : news.take (n0 * sz) = news := List.take_of_length_le (by rw [hnl]; omega)
    rw [hq1, ← htake, List.drop_take]
  refine ⟨_, by rw [hv]; exact hrun, ?_⟩
  have hch := r.change (m' := st.m.set p (.arr e sz 0 (ys.take (q * sz) ++ cs.drop (q * sz)))) (p := p) (b' := .arr e sz 0 (ys.take (q * sz) ++ cs.drop (q * sz))) (v := H p) (w' := w.setRow g (news ++ cur.toList.drop news.length).toArray) (S' := S)
   (by simp) (by rw [List.getElem?_set_self hp]) (fun j hj => List.getElem?_set_ne (fun e => hj e.symm)) hkeep (fun _ _ _ => rfl)
   (fun e' sz' k' cs' _ h => by cases h; exact ⟨0, cs, hm, .inl ⟨by rw [List.length_append, List.length_take, List.length_drop, hyl]; omega, rfl⟩⟩)
   (fun g' _ hne => hoth g' (fun e' => hne _ hm (by rw [e']; exact hownp))) ?_ (fun g' hg' => ?_) (fun _ _ _ _ _ _ _ hs => hs) (fun _ _ _ _ hs => hs) ⟨fun b j hs => by simp; exact r.sl.1 b j hs, r.sl.2.mono hkeep⟩ (by simp) rfl rfl rfl
  ·rw [hset] at hch; exact hch
  ·rw [hset]
   refine ⟨hsz, Nat.zero_le _, n0, news ++ vals.drop (q * sz), hown', ?_, fun g' _ j hj => absurd hj (Nat.not_lt_zero _)⟩
   refine (LsR.append hls (y := vals.drop (q * sz)) (b := cs.drop (q * sz)) ⟨by rw [List.length_drop, List.length_drop, hcs.1], fun j l v h1 h2 => ?_⟩).mono (fun l v => Rep.mono hkeep)
   rw [List.getElem?_drop] at h1 h2
   exact hcs.2 _ l v h1 h2
  ·have hg'' : g' = g := by
    have := hg'
    rw [hv] at this
    simp only [Blk.own, Lu, Option.some.injEq] at this
    exact this.symm
   subst hg''
   exact ⟨(r.lo p _ g' hm hownp).1, by simp; exact (r.lo p _ g' hm hownp).2, fun j b hj hb ho => hj (r.inj j p b _ g' hb hm ho hownp), fun j hj => (show j < 0 from r.sb p _ g' j hm hownp hj)⟩
section
variable {P : Program} {c : Ctx} {t : Nat → AV} {m : List Blk} {ops : Array Oper} {Q : Exit → AS → Prop} {rest : List Oper} {ty : TypeId} {pos : String} {af : Array Edge} {d : Tmp} {α : Type} {f : α → List Lf} {sz : Nat}
theorem Axu {x y : Operand} {t' t2 e p n k : Nat} {cs ys : List Lf} {xs us : List α} (hd : decide (d < c.nt) = true) (si : P.underlying t' = some (.slice e)) (hi : (P.info? e).map (·.size) = some sz) (hf : ∀ x, (f x).length = sz)
  (hx : Ca ⟨t, m⟩ x = .s (.one (.ls p n))) (hm : m[p]? = some (.arr e sz k cs)) (hk : k = 0) (hcs : cs = xs.flatMap f) (hn : n = xs.length) (hy : Ca ⟨t, m⟩ y = .s (.one (.sl us.length ys))) (hys : ys = us.flatMap f)
  (kk : AWL P c ops Q rest ⟨upd t d (.s (.one (.i .i64 ((Nat.min us.length xs.length : Nat) : Int)))), m.set p (.arr e sz 0 ((us.take xs.length ++ xs.drop us.length).flatMap f))⟩) :
  AWL P c ops Q (⟨some d, .call { callee := .builtin .copy, args := #[x, y], argTypes := #[t', t2] }, ty, pos, af, none⟩ :: rest) ⟨t, m⟩ := by
 subst hcs hn hys hk
 intro a w S H r
 have hy' := Bm r y
 rw [hy] at hy'
 have hx' := Bm r x
 rw [hx] at hx'
 obtain ⟨_, _, hr⟩ := hx'
 have hH := (hr _ _ _ _ hm).2 (A7 hf xs).symm
 obtain ⟨w', hrun, hrel⟩ := r.copy (P := P) (t2 := t2) (ty := ty) si hi hm (A7 hf xs).symm (hy' : Rep w S (.sl us.length (us.flatMap f)) (a.eval y)) (A7 hf us)
 refine wpList_plain rfl fun K hK => ?_
 unfold Oper.wp
 have hrun' : (execOp a.eval ⟨some d, .call { callee := .builtin .copy, args := #[x, y], argTypes := #[t', t2] }, ty, pos, af, none⟩).run P w = .ok (.value (goInt (Nat.min us.length xs.length : Nat))) w' := by
  simp [execOp, resolve, invoke, builtin, hH, hrun]
 rw [hrun']
 have e : (us.flatMap f).take (Nat.min us.length xs.length * sz) ++ (xs.flatMap f).drop (Nat.min us.length xs.length * sz) = (us.take xs.length ++ xs.drop us.length).flatMap f := by
  rw [List.flatMap_append]
  congr 1
  ·have : us.flatMap f = (us.take xs.length).flatMap f ++ (us.drop xs.length).flatMap f := by rw [← List.flatMap_append, List.take_append_drop]
   rw [this]
   have hl : ((us.take xs.length).flatMap f).length = Nat.min us.length xs.length * sz := by rw [A7 hf, List.length_take, Nat.min_comm]
   rw [← hl]
   exact List.take_left
  ·have : xs.flatMap f = (xs.take us.length).flatMap f ++ (xs.drop us.length).flatMap f := by rw [← List.flatMap_append, List.take_append_drop]
   rw [this]
   have hl : ((xs.take us.length).flatMap f).length = Nat.min us.length xs.length * sz := by rw [A7 hf, List.length_take]
   rw [← hl]
   exact List.drop_left
 rw [e] at hrel
 exact hK _ _ (kk _ _ _ _ (hrel.put (d := d) (x := .s (.one (.i .i64 ((Nat.min us.length xs.length : Nat) : Int)))) (of_decide_eq_true hd) (Gl (.i _ _))))
end
theorem Abm {α : Type} (us xs : List α) : xs.length = (us.take xs.length ++ xs.drop us.length).length := by
 rw [List.length_append, List.length_take, List.length_drop]
 omega
section
variable {P : Program} {c : Ctx} {t : Nat → AV} {m : List Blk} {ops : Array Oper} {Q : Exit → AS → Prop}
end
end Go.Proofs.YtbjckaahoacbfaaGreatDoor.Abs
namespace Go.Proofs.YtbjckaahoacbfaaGreatDoor.Abs
open Go.RowKit
theorem Ans {c : Ctx} {t : Nat → AV} {m : List Blk} {a : Act} {w : World} {S : Dh} {H : Nat → Value} (r : Rel c ⟨t, m⟩ a w S H) : Rel c ⟨t, m ++ [.hole]⟩ a w S (Ub H m.length undef) := by
 refine r.change (p := m.length) (b' := .hole) (v := undef) (by simp) (by simp) (fun q hq => ?_) (fun b i h => ⟨h, rfl⟩) (fun g h => absurd h (Nat.lt_irrefl _)) (fun e sz k cs h => absurd h (Nat.lt_irrefl _))
  (fun g _ _ => rfl) rfl (fun g hg => by cases hg) (fun q b g i _ _ _ h => h) (fun g i _ _ h => h) r.sl (Nat.le_refl _) rfl rfl rfl (fun _ h => absurd h (Nat.lt_irrefl _))
 rcases Nat.lt_or_ge q m.length with h | h
 ·rw [List.getElem?_append_left h]
 ·rw [List.getElem?_eq_none (by simp; omega), List.getElem?_eq_none h]
theorem Rel.fillBox {c : Ctx} {t : Nat → AV} {m : List Blk} {a : Act} {w : World} {S : Dh} {H : Nat → Value} (r : Rel c ⟨t, m⟩ a w S H) {p : Nat} (hm : m[p]? = some .hole) {e : TypeId} {cells : Array Value} {ls : List Lf} (hls : LsR (C9 w S m H) ls cells.toList) :
  Rel c ⟨t, m.set p (.box ls)⟩ a (w.alloc (.cells cells e)) S (Ub H p (.pointer (some ⟨w.heap.size, 0, none⟩))) := by
 have hx : Ext w S (w.alloc (.cells cells e)) S := Ext.alloc w S _
 have hp : p < m.length := (List.getElem?_eq_some_iff.1 hm).1
 have hH : H p = undef := r.bl p _ hm
 have hf := r.fresh (Nat.le_refl w.heap.size)
 have hkeep : ∀ b i, S b i → S b i ∧ (w.alloc (.cells cells e)).cell? ⟨b, i, none⟩ = w.cell? ⟨b, i, none⟩ := fun b i h => hx.keeps r.sl b i h
 have hoth : ∀ q, q ≠ p → (m.set p (.box ls))[q]? = m[q]? := fun q hq => List.getElem?_set_ne (fun e => hq e.symm)
 have hgr : ∀ l v, C9 w S m H l v → C9 (w.alloc (.cells cells e)) S (m.set p (.box ls)) (Ub H p (.pointer (some ⟨w.heap.size, 0, none⟩))) l v := fun l v =>
  C9.mono2 hkeep (by simp) (fun q g hq hh => by
   by_cases e1 : q = p
   ·subst e1; exact (Agh (hH.symm.trans hh)).elim
   ·exact Dp H _ e1) (fun q _ hne => by
   by_cases e1 : q = p
   ·subst e1; exact absurd hH hne
   ·rw [Dp H _ e1]; exact hne) (fun q e1 sz k cs hq hm1 => by
   by_cases e2 : q = p
   ·subst e2; rw [List.getElem?_set_self hp] at hm1; cases hm1
   ·rw [hoth q e2] at hm1
    exact ⟨k, cs, hm1, .inl ⟨rfl, Dp H _ e2⟩⟩)
 refine r.change (p := p) (b' := .box ls) (by simp) (List.getElem?_set_self hp) hoth hkeep (fun g _ h => (Agh (hH.symm.trans h)).elim) (fun e sz k cs _ h => by cases h)
  (fun g hg _ => hx.blk g hg) ⟨w.heap.size, e, cells, rfl, heap_alloc_new w _, hls.mono hgr⟩ (fun g hg => ?_) (fun q b g i _ _ _ h => h) (fun g i _ _ h => h) (r.sl.ext hx) hx.size rfl rfl rfl
 have hg' : w.heap.size = g := by simpa [Blk.own, Lu] using hg
 subst hg'
 exact ⟨.inl r.ex.size, by simp, fun q b _ hb => hf.1 q b hb, fun i hi => absurd hi (hf.2 i)⟩
section
variable {P : Program} {c : Ctx} {t : Nat → AV} {m : List Blk} {ops : Array Oper} {Q : Exit → AS → Prop} {rest : List Oper} {ty : TypeId} {pos : String} {af : Array Edge} {d : Tmp}
theorem Aey {x : Code} (k : AWC P c x Q ⟨t, m ++ [.hole]⟩) : AWC P c x Q ⟨t, m⟩ := Af9 _ (fun _ _ S _ r => ⟨S, _, Ans r⟩) k
theorem Nq {tt : TypeId} {zl : List Lf} (p : Nat) (hd : decide (d < c.nt) = true) (zi : ZI P tt zl) (hm : m[p]? = some .hole)
  (k : AWL P c ops Q rest ⟨upd t d (.s (.one (.lp p 0))), m.set p (.box zl)⟩) : AWL P c ops Q (⟨some d, .alloc tt, ty, pos, af, none⟩ :: rest) ⟨t, m⟩ := by
 obtain ⟨i, z, hi, hz, hl, ho⟩ := zi.h
 subst hl
 intro a w S H r
 refine wpList_plain rfl fun K hK => ?_
 unfold Oper.wp
 have hrun : (execOp a.eval ⟨some d, .alloc tt, ty, pos, af, none⟩).run P w = .ok (.value (.pointer (some ⟨w.heap.size, 0, none⟩))) (w.alloc (.cells z.cells tt)) := by simp [execOp, Instr.alloc, zeroValue, typeInfo, hi, hz, newVar, newRow]
 rw [hrun]
 have r' := r.fillBox (e := tt) (cells := z.cells) hm (X7 ho)
 have hp : p < m.length := (List.getElem?_eq_some_iff.1 hm).1
 exact hK _ _ (k _ _ _ _ (r'.put (d := d) (x := .s (.one (.lp p 0))) (of_decide_eq_true hd) ⟨by simpa using hp, w.heap.size, Df _ _ _, rfl⟩))
end
end Go.Proofs.YtbjckaahoacbfaaGreatDoor.Abs
namespace Go.Proofs.YtbjckaahoacbfaaGreatDoor.Abs
open Go.RowKit
def Avh : Lf → Lf → Option Bool
 | .i k n, .i k' m => if k = k' then some (decide (n = m)) else none
 | .b x, .b y => some (x == y)
 | .s x, .s y => some (x.toList == y.toList)
 | _, _ => none
def Ab6 : List Lf → List Lf → Option Bool
 | [], [] => some true
 | a :: l, b :: r => match Avh a b, Ab6 l r with
  | some x, some y => some (x && y)
  | _, _ => none
 | _, _ => none
def Lf.tag : Lf → Nat
 | .i _ _ => 0
 | .b _ => 1
 | .s _ => 2
 | _ => 3
def Yp : Option TypeDesc → Nat
 | some (.int _) => 0
 | some .bool => 1
 | some .string => 2
 | _ => 4
def Akw (P : Program) : Nat → List Field → List Nat → Bool
 | _, [], [] => true
 | i, f :: r, k :: ks => f.name != "_" && f.offset == i && Yp (P.underlying f.type) == k && Akw P (i + 1) r ks
 | _, _, _ => false
theorem Rc {P : Program} {w : World} {t : TypeId} {xs : Array Value} {i : Nat} {v : Value} (h : Yp (P.underlying t) < 4) (hv : xs[i]? = some v) : (part t xs i).run P w = .ok v w := by
 cases hu : P.underlying t with
 | none => rw [hu] at h; simp [Yp] at h
 | some d => rw [hu] at h; cases d <;> simp [Yp] at h <;> simp [part, isAgg, run_underlying hu, hv]
theorem Wj {P : Program} {S : Dh} {m : List Blk} {H : Nat → Value} {w : World} {d : Nat} {xs ys : Array Value} : ∀ (fs : List Field) (i : Nat) (ls ls' : List Lf) (b : Bool), Akw P i fs (ls.map Lf.tag) = true → ls.map Lf.tag = ls'.map Lf.tag → Ab6 ls ls' = some b →
  (∀ j l, ls[j]? = some l → ∃ v, xs[i + j]? = some v ∧ C9 w S m H l v) → (∀ j l, ls'[j]? = some l → ∃ v, ys[i + j]? = some v ∧ C9 w S m H l v) →
  (Op.eqFields (d + 1) xs ys fs).run P w = .ok b w
 | [], i, ls, ls', b, hf, _, he, _, _ => by
  cases ls with
  | cons _ _ => cases hf
  | nil =>
   cases ls' with
   | nil => cases he; rfl
   | cons _ _ => cases he
 | f :: fs, i, [], ls', b, hf, _, _, _, _ => by cases hf
 | f :: fs, i, l :: ls, [], b, _, _, he, _, _ => by cases he
 | f :: fs, i, l :: ls, l' :: ls', b, hf, hl, he, hx, hy => by
  simp only [List.map_cons, Akw, Bool.and_eq_true, bne_iff_ne, ne_eq, beq_iff_eq] at hf
  obtain ⟨⟨⟨h1, h2⟩, h3⟩, h4⟩ := hf
  simp only [List.map_cons, List.cons.injEq] at hl
  obtain ⟨hl1, hl2⟩ := hl
  obtain ⟨v, hv, hr⟩ := hx 0 l rfl
  obtain ⟨v', hv', hr'⟩ := hy 0 l' rfl
  unfold Ab6 at he
  cases e1 : Avh l l' with
  | none => rw [e1] at he; cases he
  | some x =>
  cases e2 : Ab6 ls ls' with
  | none => rw [e1, e2] at he; cases he
  | some y =>
  rw [e1, e2] at he
  obtain rfl : (x && y) = b := Option.some.inj he
  have ht4 : Yp (P.underlying f.type) < 4 := by
   rw [h3]; cases l <;> simp [Lf.tag]
  have heq : (Op.equalIn (d + 1) f.type v v').run P w = .ok x w := by
   cases hu : P.underlying f.type with
   | none => rw [hu] at ht4; simp [Yp] at ht4
   | some dd =>
    rw [hu] at h3
    cases l <;> cases l' <;> simp only [Avh, reduceCtorEq, Option.some.injEq] at e1
    ·rename_i k n k' m'
     by_cases hk : k = k'
     ·subst hk
      rw [if_pos rfl] at e1
      obtain rfl := Option.some.inj e1
      have q1 : v = _ := Q3 hr
      have q2 : v' = _ := Q3 hr'
      subst q1 q2
      cases dd <;> simp [Yp, Lf.tag] at h3
      exact (run_equalIn_int w d f.type _ _ _ _ hu).trans (by rw [Ajx])
     ·rw [if_neg hk] at e1; cases e1
    ·subst e1
     have q1 : v = _ := Ud hr
     have q2 : v' = _ := Ud hr'
     subst q1 q2
     cases dd <;> simp [Yp, Lf.tag] at h3
     simp [Op.equalIn, run_underlying hu]
    ·subst e1
     have q1 : v = _ := Amo hr
     have q2 : v' = _ := Amo hr'
     subst q1 q2
     cases dd <;> simp [Yp, Lf.tag] at h3
     simp [Op.equalIn, run_underlying hu, beq_toListBytes]
  have ih := Wj (d := d) fs (i + 1) ls ls' y h4 hl2 e2 (fun j l h => by have := hx (j + 1) l (by simpa using h); rwa [show i + (j + 1) = i + 1 + j by omega] at this) (fun j l h => by have := hy (j + 1) l (by simpa using h); rwa [show i + (j + 1) = i + 1 + j by omega] at this)
  unfold Op.eqFields
  rw [Nat.add_zero] at hv hv'
  rw [if_pos h1, h2]
  simp only [Sem.run_bind, Rc ht4 hv, Rc ht4 hv', Result.andThen_ok, heq]
  cases x
  ·simp
  ·simp [ih]
section
variable {P : Program} {c : Ctx} {st : AS} {ty : TypeId} {xt yt : TypeId} {x y : Operand}
structure EqT (P : Program) (t : TypeId) (n : List Nat) : Prop where
 u : P.underlying t = some (.struct (P.fieldsOf t))
 h : P.stoodInHeld t = false
 g : P.eqGuardType P.depth t = false
 f : Akw P 0 (P.fieldsOf t).toList n = true
end
end Go.Proofs.YtbjckaahoacbfaaGreatDoor.Abs
namespace Go.Proofs.YtbjckaahoacbfaaGreatDoor.Abs
open Go.RowKit
section
variable {P : Program} {c : Ctx} {st : AS} {ty : TypeId} {α : Type} {f : α → List Lf} {sz : Nat}
theorem Ark {t n e g : Nat} {y : Operand} {cs : List Lf} {xs : List α} {k : IntKind} {j : Int} {u : α} (ai : AI P t n e sz) (hf : ∀ x, (f x).length = sz) (hG : (g, cs) ∈ GL) (hcs : cs = xs.flatMap f) (hn : n = xs.length) (hy : Ca st y = .s (.one (.i k j))) (h : idx xs j = some u) :
  OpV P c st (.indexAddr t (.global g) y) ty (.s (.one (.cp (f u ++ (xs.drop (j.toNat + 1)).flatMap f)))) := by
 intro a w S H r
 obtain ⟨h0, h1⟩ := Vy h
 have h2 := (Akd h).2
 have hx : C9 w S st.m H (.cp cs) (.pointer (some ⟨g, 0, none⟩)) := r.sl.2 _ hG
 have hy' := Bm r y
 rw [hy] at hy'
 have ey : a.eval y = .int k j := Q3 hy'
 obtain ⟨g', o, hv, hr⟩ := Abz (l := .cp cs) rfl hx (fun _ _ _ h => by cases h)
 cases hv
 have hj : j < n := by rw [hn]; exact h2
 have h3 := hr (j.toNat * sz)
 have e1 : (Lf.cp cs).adv (j.toNat * sz) = .cp (f u ++ (xs.drop (j.toNat + 1)).flatMap f) := by
  show Lf.cp (cs.drop (j.toNat * sz)) = _
  rw [hcs, Wl hf h1]
 rw [e1] at h3
 refine ⟨_, h3, fun _ _ _ _ => ?_⟩
 have hadd : (⟨g, 0, none⟩ : Addr).add (j.toNat * sz) = ⟨g, 0 + j.toNat * sz, none⟩ := Addr.add_lit _ _ _
 have ev : a.eval (.global g) = .pointer (some ⟨g, 0, none⟩) := rfl
 simp [execOp, ev, ey, Instr.indexAt, asIntOf, Instr.sureAddr, run_underlying ai.u, h0, hj, C7 ai.i, hadd]
end
def Aww {H : Type} (rows : List (List Bool)) : DataW H := .agg (rows.map fun r => .agg (r.map fun b => .lit (.bool b)))
def Pn (P : Program) : List Field → Nat → Bool
 | [], _ => true
 | f :: fs, i => f.offset == i && (P.cellsOf f.type == 1 && ((match P.underlying f.type with | some .bool => true | _ => false) && Pn P fs (i + 1)))
theorem Vx {P : Program} : ∀ {fs : List Field} {i j : Nat} {f : Field}, Pn P fs i = true → fs[j]? = some f → f.offset = i + j ∧ P.cellsOf f.type = 1 ∧ P.underlying f.type = some .bool
 | f :: fs, i, 0, g, h, hg => by
  simp only [Pn, Bool.and_eq_true, beq_iff_eq] at h
  simp at hg; subst hg
  refine ⟨h.1, h.2.1, ?_⟩
  have := h.2.2.1
  split at this
  ·assumption
  ·cases this
 | f :: fs, i, j + 1, g, h, hg => by
  simp only [Pn, Bool.and_eq_true] at h
  obtain ⟨a, b, c⟩ := Vx (j := j) h.2.2.2 (by simpa using hg)
  exact ⟨by omega, b, c⟩
 | [], i, j, g, h, hg => by simp at hg
theorem Ai7 {P : Program} {H : Type} {enc : TypeId × Value → H} {w : World} {base fuel t n e k : Nat} {spare : Nat → Bool} {held : Bool} {fs : Array Field} {cs : List Value} {rows : List (List Bool)} {q : List MemPlace}
  (ht : P.underlying t = some (.array n e)) (he : P.underlying e = some (.struct fs)) (hk : P.cellsOf e = k) (hb : Pn P fs.toList 0 = true)
  (h : DataW.trod enc P w base spare held fuel t cs = some (Aww rows, q)) :
  ∀ (i j : Nat) (r : List Bool) (b : Bool), rows[i]? = some r → r[j]? = some b → j < k ∧ cs[i * k + j]? = some (.bool b) := by
 intro i j r b hi hj
 obtain ⟨xs, m, rfl, hx, hlen, hxl, hel⟩ := DataW.trod_array ht h
 simp only [Aww, Prod.mk.injEq, DataW.agg.injEq] at hx
 have hx1 := hx.1
 have hin : i < n := by
  have := congrArg List.length hx1
  simp at this
  have := (List.getElem?_eq_some_iff.1 hi).1
  omega
 have hE := hel i hin
 have hxi : xs[i]? = some (xs[i]'(by omega)) := List.getElem?_eq_getElem _
 have hd : (xs[i]'(by omega)).1 = .agg (r.map fun b => .lit (.bool b)) := by
  have := congrArg (fun l => l[i]?) hx1
  simp only [List.getElem?_map, hi, hxi, Option.map_some, Option.some.injEq] at this
  exact this.symm
 rw [hxi, hk] at hE
 obtain ⟨ys, m', rfl, hy, hlen', hyl, hel'⟩ := DataW.trod_struct he hE
 rw [hy] at hd
 simp only [DataW.agg.injEq] at hd
 have hjn : j < fs.size := by
  have := congrArg List.length hd
  simp at this
  have := (List.getElem?_eq_some_iff.1 hj).1
  omega
 obtain ⟨f1, f2, f3⟩ := Vx (j := j) hb (f := fs[j]) (by simp [hjn])
 have hE' := hel' j fs[j] (by simp [hjn])
 have hyj : ys[j]? = some (ys[j]'(by omega)) := List.getElem?_eq_getElem _
 have hdj : (ys[j]'(by omega)).1 = .lit (.bool b) := by
  have := congrArg (fun l => l[j]?) hd
  simp only [List.getElem?_map, hj, hyj, Option.map_some, Option.some.injEq] at this
  exact this
 rw [hyj, f2] at hE'
 obtain ⟨b', hc, hv⟩ := DataW.trod_bool f3 hE'
 rw [hv] at hdj
 simp only [DataW.lit.injEq, Lit.bool.injEq] at hdj
 subst hdj
 have e1 := congrArg (fun l => l[0]?) hc
 simp only [List.getElem?_cons_zero, List.getElem?_take, List.getElem?_drop, f1] at e1
 have hjk : j < k := by
  by_cases hjk : j < k
  ·exact hjk
  ·have : (0 + j + 0) = j := by omega
   rw [this, if_neg hjk] at e1
   simp at e1
 refine ⟨hjk, ?_⟩
 have e2 : (0 + j + 0) = j := by omega
 rw [e2, if_pos hjk] at e1
 simpa using e1
theorem Ak0 {α : Type} {k : Nat} : ∀ {rows : List (List α)} {p : Nat} {x : α}, (∀ r ∈ rows, r.length = k) → rows.flatten[p]? = some x → ∃ i j r, rows[i]? = some r ∧ r[j]? = some x ∧ p = i * k + j
 | [], p, x, _, h => by simp at h
 | r :: rows, p, x, hk, h => by
  rw [List.flatten_cons] at h
  by_cases hp : p < r.length
  ·rw [List.getElem?_append_left hp] at h
   exact ⟨0, p, r, rfl, h, by simp⟩
  ·rw [List.getElem?_append_right (by omega)] at h
   obtain ⟨i, j, r', h1, h2, h3⟩ := Ak0 (fun r hr => hk r (List.mem_cons_of_mem _ hr)) h
   refine ⟨i + 1, j, r', by simpa using h1, h2, ?_⟩
   have := hk r (List.mem_cons_self ..)
   rw [Nat.add_mul]; omega
theorem tab_rep {P : Program} {W : World} {name : String} {g t n e k : Nat} {fs : Array Field} {rows : List (List Bool)} (h : laidMetH P [(name, Aww rows)] W)
  (hg : P.globalNamed name = some g) (htp : (P.globals[g]?).map (·.type) = some t) (ht : P.underlying t = some (.array n e)) (he : P.underlying e = some (.struct fs)) (hk : P.cellsOf e = k) (hb : Pn P fs.toList 0 = true)
  (hr : ∀ r ∈ rows, r.length = k) : Rep W (allS W) (.cp (rows.flatten.map .b)) (.pointer (some ⟨g, 0, none⟩)) := by
 rw [MakeChecks.laidMetH_plain _ _ _ rfl] at h
 obtain ⟨ps, ⟨g0, t0, cs0, f0, p0, q0, hg0, ht0, hv0, hd0, _, _⟩, _, _⟩ := h
 obtain rfl := Option.some.inj (hg.symm.trans hg0)
 obtain rfl := Option.some.inj (htp.symm.trans ht0)
 have hc : ∀ (j : Nat) (l : Lf), (rows.flatten.map Lf.b)[j]? = some l → ∃ b, l = .b b ∧ W.cell? ⟨g, 0 + j, none⟩ = some (.bool b) := by
  intro j l hj
  rw [List.getElem?_map] at hj
  cases hx : rows.flatten[j]? with
  | none => rw [hx] at hj; cases hj
  | some b =>
   rw [hx] at hj
   cases hj
   obtain ⟨i, j', r, h1, h2, h3⟩ := Ak0 hr hx
   obtain ⟨_, h4⟩ := Ai7 ht he hk hb hd0 i j' r b h1 h2
   refine ⟨b, rfl, ?_⟩
   have := World.var?_cell hg hv0 j
   rw [Nat.zero_add, this]
   rw [h3]
   simpa using h4
 refine .cp _ g 0 (fun j => (W.cell? ⟨g, 0 + j, none⟩).getD undef) (fun j l hj => ?_) (fun j l hj => ?_)
 ·obtain ⟨b, _, h1⟩ := hc j l hj
  exact ⟨(Afe h1).1, by rw [h1]; rfl⟩
 ·obtain ⟨b, rfl, h1⟩ := hc j l hj
  show Rep _ _ _ ((W.cell? ⟨g, 0 + j, none⟩).getD undef)
  rw [h1]
  exact .b b
theorem Zl {w : World} {S : Dh} {l : Lf} {v : Value} (h : Rep w S l v) : Rep w S l.canon v := by
 unfold Lf.canon
 split
 ·obtain rfl := Nb h
  exact .sl0 _ _
 ·exact h
theorem Aky {w : World} {S : Dh} {x : SV} {v : Value} (h : SVR (Rep w S) x v) : SVR (Rep w S) x.canon v := by
 cases x with
 | one l => exact Zl h
 | agg ls =>
  obtain ⟨cs, rfl, h1, h2⟩ := h
  refine ⟨cs, rfl, by simpa using h1, fun j l u hl hu => ?_⟩
  rw [List.getElem?_map] at hl
  cases hx : ls[j]? with
  | none => rw [hx] at hl; cases hl
  | some l' =>
   rw [hx] at hl
   cases hl
   exact Zl (h2 j l' u hx hu)
theorem Vr {P : Program} {c : Ctx} {st : AS} {ty : TypeId} {f : FuncId} {args : Array Operand} {ats : Array TypeId} {xs : List SV} {r : AV} (hf : FnI P f) (ho : Xu st args.toList xs) (hp : xs.all (fun x => x.cells.all Lf.pubd) = true) (hc : Bl P f (xs.map SV.canon) (· = r)) :
  OpD P c st (.call { callee := .value (.func f), args := args, argTypes := ats }) ty r := by
 intro a w S H rr dst pos af g K Q hK
 have hv := Rn rr ho
 unfold Oper.wp
 have hrun : (execOp a.eval ⟨dst, .call { callee := .value (.func f), args := args, argTypes := ats }, ty, pos, af, g⟩).run P w = .ok (.enter f (args.map a.eval)) w := by
  simp [execOp, resolve, Act.eval, Deferred.ofValue, invoke, hf.run]
 rw [hrun]
 refine (hc w S (args.map a.eval) rr.sl ⟨by simpa using hv.1, fun j x v h1 h2 => ?_⟩).mono ?_
 ·rw [List.getElem?_map] at h1
  cases hx : xs[j]? with
  | none => rw [hx] at h1; cases h1
  | some y =>
   rw [hx] at h1
   cases h1
   exact Aky (Aen (hv.2 j y v hx (by simpa using h2)) (List.all_eq_true.1 hp y (List.mem_of_getElem? hx)))
 ·rintro e w' ⟨v, x, S', rfl, rfl, hext, hin, hav⟩
  exact hK v w' S' hext hin (T0 hav)
end Go.Proofs.YtbjckaahoacbfaaGreatDoor.Abs
namespace Go.Proofs.YtbjckaahoacbfaaGreatDoor.Abs
open Go.RowKit
def Afn (ops : Array Oper) : Bool :=
 ((List.range ops.size).all fun i => match ops[i]? with
  | none => false
  | some o => o.dst.isSome && o.after.all (fun e => decide (e.on < i)) && (List.range ops.size).all (fun j => match ops[j]? with
    | none => false
    | some p => (decide (i = j) || !(o.dst == p.dst)) && (match p.dst with
      | none => false
      | some d => !(o.looksAt ops).contains d || decide (j + 1 = ops.size) || o.after.any (fun e => e.on == j && Region.binds .any e)))) &&
 (decide (0 < ops.size) && (match ops[ops.size - 1]? with
  | none => false
  | some o => (List.range (ops.size - 1)).all fun j => o.after.any (fun e => e.on == j && Region.binds .any e)))
structure Ak8 (ops : Array Oper) (n : Nat) : Prop where
 sz : ops.size = n + 1
 dst : ∀ (i : Nat) (o : Oper), ops[i]? = some o → ∃ d, o.dst = some d
 lt : ∀ (i : Nat) (o : Oper), ops[i]? = some o → ∀ e ∈ o.after, e.on < i
 ne : ∀ (i : Nat) (o : Oper) (j : Nat) (p : Oper), ops[i]? = some o → ops[j]? = some p → i ≠ j → o.dst ≠ p.dst
 ed : ∀ (i : Nat) (o : Oper) (j : Nat) (p : Oper) (d : Tmp), ops[i]? = some o → ops[j]? = some p → p.dst = some d → j < n → d ∈ o.looksAt ops → ∃ e ∈ o.after, e.on = j ∧ Region.binds .any e = true
 all : ∀ (o : Oper) (j : Nat), ops[n]? = some o → j < n → ∃ e ∈ o.after, e.on = j ∧ Region.binds .any e = true
theorem Ahz {ops : Array Oper} (h : Afn ops = true) : Ak8 ops (ops.size - 1) := by
 unfold Afn at h
 simp only [Bool.and_eq_true] at h
 obtain ⟨h0, hpos, hlast⟩ := h
 have hpos := of_decide_eq_true hpos
 have key : ∀ (i : Nat) (o : Oper), ops[i]? = some o → o.dst.isSome = true ∧ o.after.all (fun e => decide (e.on < i)) = true ∧ ∀ (j : Nat) (p : Oper), ops[j]? = some p → (decide (i = j) || !(o.dst == p.dst)) = true ∧ (match p.dst with
      | none => false
      | some d => !(o.looksAt ops).contains d || decide (j + 1 = ops.size) || o.after.any (fun e => e.on == j && Region.binds .any e)) = true := by
  intro i o hi
  have hil : i < ops.size := (Array.getElem?_eq_some_iff.1 hi).1
  have h1 := List.all_eq_true.1 h0 i (List.mem_range.2 hil)
  rw [hi] at h1
  simp only [Bool.and_eq_true] at h1
  refine ⟨h1.1.1, h1.1.2, fun j p hj => ?_⟩
  have hjl : j < ops.size := (Array.getElem?_eq_some_iff.1 hj).1
  have h2 := List.all_eq_true.1 h1.2 j (List.mem_range.2 hjl)
  rw [hj] at h2
  simp only [Bool.and_eq_true] at h2
  exact h2
 have hany : ∀ {o : Oper} {j : Nat}, o.after.any (fun e => e.on == j && Region.binds .any e) = true → ∃ e ∈ o.after, e.on = j ∧ Region.binds .any e = true := by
  intro o j h
  rw [Array.any_eq_true] at h
  obtain ⟨i', hi', h⟩ := h
  simp only [Bool.and_eq_true, beq_iff_eq] at h
  exact ⟨_, Array.getElem_mem hi', h.1, h.2⟩
 refine ⟨by omega, fun i o hi => Option.isSome_iff_exists.1 (key i o hi).1, fun i o hi e he => ?_, fun i o j p hi hj hne he => ?_, fun i o j p d hi hj hd hjn hm => ?_, fun o j ho hj => ?_⟩
 ·have := (key i o hi).2.1
  rw [Array.all_eq_true'] at this
  exact of_decide_eq_true (this e he)
 ·have := ((key i o hi).2.2 j p hj).1
  simp only [Bool.or_eq_true, decide_eq_true_eq, Bool.not_eq_true', beq_eq_false_iff_ne] at this
  rcases this with h | h
  ·exact hne h
  ·exact h he
 ·have := ((key i o hi).2.2 j p hj).2
  rw [hd] at this
  simp only [Bool.or_eq_true, Bool.not_eq_true'] at this
  rcases this with (h | h) | h
  ·rw [List.contains_eq_mem] at h
   simp [hm] at h
  ·have := of_decide_eq_true h
   omega
  ·exact hany h
 ·rw [ho] at hlast
  exact hany (List.all_eq_true.1 hlast j (List.mem_range.2 hj))
section
variable {P : Program} {c : Ctx} {t : Nat → AV} {m : List Blk} {Q : Exit → AS → Prop}
open Classical in
noncomputable def TM (ops : Array Oper) (n : Nat) (T T' : Nat → AV) (listed : Array Bool) : Nat → AV :=
 if listed.getD n true = true then T' else fun x => if ∃ (i : Nat) (o : Oper), i < n ∧ ops[i]? = some o ∧ o.dst = some x ∧ listed.getD i true = false then .top else T x
open Classical in
theorem Alf {ops : Array Oper} {n : Nat} (hok : Ak8 ops n) {T : Nat → AV} (hT : ∀ (i : Nat) (o : Oper), i < n → ops[i]? = some o → ∃ d, o.dst = some d ∧ d < c.nt ∧ Tn P c m ops T o (T d))
  {dl : Tmp} {xl : AV} {ol : Oper} (hol : ops[n]? = some ol) (hdl : ol.dst = some dl) (hln : dl < c.nt) (hgl : Tn P c m ops T ol xl) (hQ : Q .normal ⟨upd T dl xl, m⟩) :
  ∀ (fuel : Nat) (listed : Array Bool) (a : Act) (w : World) (S : Dh) (H : Nat → Value), listed.size = ops.size → (List.range ops.size).countP (fun i => !listed.getD i true) ≤ fuel →
   (listed.getD n true = true → ∀ j, j < n → listed.getD j true = true) →
   Rel c ⟨TM ops n T (upd T dl xl) listed, m⟩ a w S H → wpAny P .any ops (QR c Q) fuel listed a w := by
 have hsz1 := hok.sz
 have done : ∀ (listed : Array Bool) (a : Act) (w : World) (S : Dh) (H : Nat → Value), listed.size = ops.size → Region.ready .any ops listed = [] → Rel c ⟨TM ops n T (upd T dl xl) listed, m⟩ a w S H → QR c Q .normal a w := by
  intro listed a w S H hsz hr r
  have hall : ∀ n i, i < n → i < ops.size → listed.getD i true = true := by
   intro n
   induction n with
   | zero => intro i h; omega
   | succ n ih =>
    intro i hi hio
    by_cases hb : listed.getD i true = true
    ·exact hb
    ·exfalso
     have hmem : i ∈ Region.ready .any ops listed := by
      unfold Region.ready
      refine List.mem_filter.2 ⟨List.mem_range.2 hio, ?_⟩
      have hlt := hok.lt i ops[i] (Array.getElem?_eq_getElem hio)
      have hb' : listed.getD i true = false := by simpa using hb
      simp only [hb', Bool.not_false, Bool.true_and, Array.getElem?_eq_getElem hio, Option.map_some, Option.getD_some]
      rw [Array.all_eq_true']
      intro e he
      have hel := hlt e he
      have h1 := ih e.on (by omega) (by omega)
      have h2 : listed.getD e.on false = true := by
       simp only [Array.getD_eq_getD_getElem?] at h1 ⊢
       rw [Array.getElem?_eq_getElem (by omega)] at h1 ⊢
       exact h1
      simp [h2]
     rw [hr] at hmem
     cases hmem
  have hTM : TM ops n T (upd T dl xl) listed = upd T dl xl := by
   unfold TM
   rw [if_pos (hall (n + 1) n (by omega) (by omega))]
  rw [hTM] at r
  exact ⟨_, S, H, r, hQ⟩
 intro fuel
 induction fuel with
 | zero =>
  intro listed a w S H hsz hc _ r
  have hr : Region.ready .any ops listed = [] := by
   unfold Region.ready
   rw [List.filter_eq_nil_iff]
   intro i hi hb
   simp only [Bool.and_eq_true] at hb
   have : 0 < (List.range ops.size).countP (fun i => !listed.getD i true) := List.countP_pos_iff.2 ⟨i, hi, hb.1⟩
   omega
  exact ⟨hr, done listed a w S H hsz hr r⟩
 | succ fuel ih =>
  intro listed a w S H hsz hc hinv r
  refine ⟨fun hr => done listed a w S H hsz hr r, fun i hi => ?_⟩
  unfold Region.ready at hi
  rw [List.mem_filter] at hi
  obtain ⟨hi1, hi2⟩ := hi
  have hio : i < ops.size := List.mem_range.1 hi1
  have hget : ops[i]? = some ops[i] := Array.getElem?_eq_getElem hio
  simp only [Bool.and_eq_true, hget, Option.map_some, Option.getD_some] at hi2
  obtain ⟨hun, haf⟩ := hi2
  have hun' : listed.getD i true = false := by simpa using hun
  have hnl : listed.getD n true = false := by
   cases hb : listed.getD n true with
   | false => rfl
   | true =>
    by_cases hin : i = n
    ·subst hin; rw [hun'] at hb; cases hb
    ·rw [hinv hb i (by omega)] at hun'; cases hun'
  have hedge : ∀ (j : Nat) (e : Edge), e ∈ ops[i].after → e.on = j → Region.binds .any e = true → j < ops.size → listed.getD j true = true := by
   intro j e he heo hbind hjl
   rw [Array.all_eq_true'] at haf
   have h1 := haf e he
   rw [hbind, heo] at h1
   simp only [Bool.not_true, Bool.false_or] at h1
   simp only [Array.getD_eq_getD_getElem?] at h1 ⊢
   rw [Array.getElem?_eq_getElem (by omega)] at h1 ⊢
   simpa using h1
  have hTMl : TM ops n T (upd T dl xl) listed = fun x => if ∃ (i : Nat) (o : Oper), i < n ∧ ops[i]? = some o ∧ o.dst = some x ∧ listed.getD i true = false then .top else T x := by
   unfold TM
   rw [if_neg (by rw [hnl]; simp)]
  have hlook : ∀ y ∈ (ops[i]).looksAt ops, TM ops n T (upd T dl xl) listed y = T y := by
   intro y hy
   rw [hTMl]
   simp only
   rw [if_neg]
   rintro ⟨j, p, hjn, hj, hpd, hl⟩
   obtain ⟨e, he, heo, hbind⟩ := hok.ed i _ j p y hget hj hpd hjn hy
   have := hedge j e he heo hbind (by omega)
   rw [this] at hl
   cases hl
  have hsame : ∀ j, i ≠ j → (listed.setIfInBounds i true).getD j true = listed.getD j true := fun j hij => by
   simp only [Array.getD_eq_getD_getElem?, Array.getElem?_setIfInBounds_ne hij]
  have hself : (listed.setIfInBounds i true).getD i true = true := by
   simp only [Array.getD_eq_getD_getElem?, Array.getElem?_setIfInBounds_self_of_lt (by omega : i < listed.size), Option.getD_some]
  obtain ⟨d, x, hd, hdn, hgood, hTM', hinv'⟩ : ∃ d x, (ops[i]).dst = some d ∧ d < c.nt ∧ Tn P c m ops T ops[i] x ∧ upd (TM ops n T (upd T dl xl) listed) d x = TM ops n T (upd T dl xl) (listed.setIfInBounds i true) ∧
    ((listed.setIfInBounds i true).getD n true = true → ∀ j, j < n → (listed.setIfInBounds i true).getD j true = true) := by
   by_cases hin : i = n
   ·subst hin
    rw [hget] at hol
    cases hol
    have hallj : ∀ j, j < i → listed.getD j true = true := fun j hj => by
     obtain ⟨e, he, heo, hb⟩ := hok.all _ j hget hj
     exact hedge j e he heo hb (by omega)
    refine ⟨dl, xl, hdl, hln, hgl, ?_, fun _ j hj => by rw [hsame j (by omega)]; exact hallj j hj⟩
    have e1 : TM ops i T (upd T dl xl) listed = T := by
     rw [hTMl]
     funext y
     rw [if_neg]
     rintro ⟨j, p, hjn, _, _, hl⟩
     rw [hallj j hjn] at hl
     cases hl
    rw [e1]
    unfold TM
    rw [if_pos hself]
   ·obtain ⟨d, hd, hdn, hgood⟩ := hT i _ (by omega) hget
    refine ⟨d, T d, hd, hdn, hgood, ?_, fun hb => ?_⟩
    ·rw [hTMl]
     unfold TM
     rw [if_neg (by rw [hsame n hin, hnl]; simp)]
     funext x
     rw [H2]
     by_cases hx : x = d
     ·subst hx
      rw [if_pos rfl, if_neg]
      rintro ⟨j, p, hjn, hj, hpd, hl⟩
      by_cases hij : i = j
      ·subst hij
       rw [hself] at hl
       cases hl
      ·exact hok.ne i _ j p hget hj hij (by rw [hd, hpd])
     ·rw [if_neg hx]
      by_cases hex : ∃ (j : Nat) (p : Oper), j < n ∧ ops[j]? = some p ∧ p.dst = some x ∧ listed.getD j true = false
      ·rw [if_pos hex]
       obtain ⟨j, p, hjn, hj, hpd, hl⟩ := hex
       rw [if_pos]
       have hij : i ≠ j := by
        intro e; subst e
        rw [hget] at hj
        cases hj
        rw [hd] at hpd
        cases hpd
        exact hx rfl
       exact ⟨j, p, hjn, hj, hpd, by rw [hsame j hij]; exact hl⟩
      ·rw [if_neg hex, if_neg]
       rintro ⟨j, p, hjn, hj, hpd, hl⟩
       refine hex ⟨j, p, hjn, hj, hpd, ?_⟩
       by_cases hij : i = j
       ·subst hij; exact hun'
       ·rw [hsame j hij] at hl; exact hl
    ·rw [hsame n hin, hnl] at hb
     cases hb
  have hcnt : (List.range ops.size).countP (fun j => !(listed.setIfInBounds i true).getD j true) ≤ fuel := by
   have := Abv (fun j => !listed.getD j true) (fun j => !(listed.setIfInBounds i true).getD j true) (List.range ops.size) (fun j _ hj => by
    by_cases hij : i = j
    ·subst hij
     rw [hself] at hj
     cases hj
    ·rw [hsame j hij] at hj
     exact hj) hi1 hun (by rw [hself]; rfl)
   omega
  generalize ho : ops[i] = o at *
  have next : ∀ v w' S', Ext w S w' S' → InH w' S' → AVR (C9 w' S' m H) x v → wpAny P .any ops (QR c Q) fuel (listed.setIfInBounds i true) (a.put o.dst v) w' := by
   intro v w' S' hext hin hv
   rw [hd]
   refine ih _ _ w' S' H (by simpa using hsz) hcnt hinv' ?_
   rw [← hTM']
   exact (r.ext hext hin).put hdn hv
  have hw : wpOp P ops (QR c Q) i (wpAny P .any ops (QR c Q) fuel (listed.setIfInBounds i true)) a w := by
   unfold wpOp
   rw [hget]
   simp only
   have hrr : Rel c ⟨Q9 T (o.looksAt ops), m⟩ a w S H := by
    refine r.weak (fun y => ?_)
    unfold Q9
    cases hc' : (o.looksAt ops).contains y with
    | false => exact .inr rfl
    | true => exact .inl (hlook y (by simpa using hc')).symm
   rcases hgood with ⟨hg, hop⟩ | ⟨hg, hx⟩
   ·have hwant : Region.wanted o (yielded ops a.tmps) = true := by
     rcases hg with hg | ⟨j, want, dj, h1, h2, h3⟩
     ·simp [Region.wanted, hg]
     ·have h4 := r.tm dj
      have h5 : TM ops n T (upd T dl xl) listed dj = .s (.one (.b want)) := by rw [hlook dj (Fg h1 h2)]; exact h3
      rw [show (⟨TM ops n T (upd T dl xl) listed, m⟩ : AS).t dj = .s (.one (.b want)) from h5] at h4
      have hv : a.tmps.getD dj undef = .bool want := Ud (h4 : Rep w S (.b want) (a.tmps.getD dj undef))
      have hs : a.tmps[dj]? = some (.bool want) := by
       simp only [Array.getD_eq_getD_getElem?] at hv
       cases hq : a.tmps[dj]? with
       | none => rw [hq] at hv; cases hv
       | some u => rw [hq] at hv; simp only [Option.getD_some] at hv; rw [hv]
      simp only [Region.wanted, h1, yielded, h2, Option.bind_some, hs, beq_self_eq_true]
    rw [if_pos hwant]
    obtain ⟨odst, oop, oty, opos, oaf, og⟩ := o
    exact .inl (hop a w S H hrr odst opos oaf og _ _ (fun v w' S' h1 h2 h3 => next v w' S' h1 h2 h3))
   ·have hwant : Region.wanted o (yielded ops a.tmps) = false := by
     obtain ⟨j, want, dj, h1, h2, h3⟩ := hg
     have h4 := r.tm dj
     rw [show (⟨TM ops n T (upd T dl xl) listed, m⟩ : AS).t dj = T dj from hlook dj (Fg h1 h2)] at h4
     simp only [Region.wanted, h1, yielded, h2, Option.bind_some]
     rcases h3 with h3 | ⟨b, h3, hb⟩
     ·rw [h3] at h4
      obtain ⟨vs, hv, _⟩ := h4
      simp only [Array.getD_eq_getD_getElem?] at hv
      cases hq : a.tmps[dj]? with
      | none => rfl
      | some u => rw [hq] at hv; simp only [Option.getD_some] at hv; subst hv; rfl
     ·rw [h3] at h4
      have hv : a.tmps.getD dj undef = .bool b := Ud (h4 : Rep w S (.b b) (a.tmps.getD dj undef))
      simp only [Array.getD_eq_getD_getElem?] at hv
      cases hq : a.tmps[dj]? with
      | none => rfl
      | some u =>
       rw [hq] at hv; simp only [Option.getD_some] at hv; subst hv
       cases b <;> cases want <;> first | rfl | cases hb
    rw [if_neg (by rw [hwant]; simp)]
    have := next undef w S (Ext.refl w S) r.sl (by rw [hx]; exact Nr)
    exact this
  exact hw
theorem DR.split {ops : Array Oper} {k : (Nat → AV) → Prop} : ∀ {l : List Oper} {o : Oper} {t : Nat → AV}, DR P c m ops k (l ++ [o]) t → DR P c m ops (fun T => ∃ x d, o.dst = some d ∧ d < c.nt ∧ Tn P c m ops T o x ∧ k (upd T d x)) l t
 | [], o, t, h => by
  obtain ⟨x, d, h1, h2, h3, h4⟩ := h
  exact ⟨x, d, h1, h2, h3, h4⟩
 | o' :: l, o, t, h => by
  obtain ⟨x, d, h1, h2, h3, h4⟩ := h
  exact ⟨x, d, h1, h2, h3, DR.split h4⟩
theorem Af7 {id : Nat} {l : List Oper} (hm : P.follows .mixedOrders = true) (hok : Afn l.toArray = true) (h : DR P c m l.toArray (fun T => Q .normal ⟨T, m⟩) l t) : AWC P c (.region id l.toArray true) Q ⟨t, m⟩ := by
 have ok := Ahz hok
 have hne : l ≠ [] := by
  intro e; subst e
  have := ok.sz
  simp at this
 obtain ⟨l0, ol, rfl⟩ : ∃ l0 ol, l = l0 ++ [ol] := ⟨l.dropLast, l.getLast hne, (List.dropLast_concat_getLast hne).symm⟩
 have hn : (l0 ++ [ol]).toArray.size - 1 = l0.length := by simp
 rw [hn] at ok
 have h' := DR.split h
 have hgl : ∀ {i : Nat} {o : Oper}, l0[i]? = some o → (l0 ++ [ol])[i]? = some o := fun {i o} hi => by
  rw [List.getElem?_append_left (List.getElem?_eq_some_iff.1 hi).1]; exact hi
 have hnd : (Ku l0).Nodup := by
  have aux : ∀ (l : List Oper), (∀ (i : Nat) (o : Oper) (j : Nat) (p : Oper), l[i]? = some o → l[j]? = some p → i ≠ j → o.dst ≠ p.dst) → (Ku l).Nodup := by
   intro l
   induction l with
   | nil => intro _; exact List.nodup_nil
   | cons o l ih =>
    intro hne
    have ih' := ih (fun i o' j p hi hj hij => hne (i + 1) o' (j + 1) p (by simpa using hi) (by simpa using hj) (by omega))
    cases hd : o.dst with
    | none => simpa [Ku, hd] using ih'
    | some d =>
     have : Ku (o :: l) = d :: Ku l := by simp [Ku, hd]
     rw [this]
     refine List.nodup_cons.2 ⟨fun hm => ?_, ih'⟩
     unfold Ku at hm
     rw [List.mem_filterMap] at hm
     obtain ⟨p, hp, hpd⟩ := hm
     obtain ⟨j, hj, hjp⟩ := List.getElem_of_mem hp
     exact hne 0 o (j + 1) p rfl (by simp [List.getElem?_eq_getElem hj, hjp]) (by omega) (by rw [hd, hpd])
  exact aux l0 (fun i o j p hi hj => ok.ne i o j p (by simpa using hgl hi) (by simpa using hgl hj))
 obtain ⟨T, ⟨x, d, hod, hdn, hgood, hQ⟩, hTt, hG⟩ := DR.get h' hnd (fun i o hi y hy hm' => by
  unfold Ku at hm'
  rw [List.mem_filterMap] at hm'
  obtain ⟨p, hp, hpd⟩ := hm'
  obtain ⟨j, hj, hjp⟩ := List.getElem_of_mem hp
  have hjb : i + j < l0.length := by simp at hj; omega
  have hjl : l0[i + j]? = some p := by
   rw [List.getElem_drop] at hjp
   rw [List.getElem?_eq_getElem hjb, hjp]
  obtain ⟨e, he, heo, _⟩ := ok.ed i o (i + j) p y (by simpa using hgl hi) (by simpa using hgl hjl) hpd hjb hy
  have := ok.lt i o (by simpa using hgl hi) e he
  omega)
 intro a w S H r
 refine wp_region_any hm ?_
 have hG' : ∀ (i : Nat) (o : Oper), i < l0.length → ((l0 ++ [ol]).toArray)[i]? = some o → ∃ d, o.dst = some d ∧ d < c.nt ∧ Tn P c m (l0 ++ [ol]).toArray T o (T d) := fun i o hi ho => hG i o (by
  have : (l0 ++ [ol])[i]? = some o := by simpa using ho
  rwa [List.getElem?_append_left hi] at this)
 have hcnt : (List.range (l0 ++ [ol]).toArray.size).countP (fun i => !(Array.replicate (l0 ++ [ol]).toArray.size false).getD i true) ≤ (l0 ++ [ol]).toArray.size := by
  refine Nat.le_trans List.countP_le_length ?_
  simp
 have hlf : (Array.replicate (l0 ++ [ol]).toArray.size false).getD l0.length true = false := by
  simp [Array.getD_eq_getD_getElem?]
 refine Alf ok hG' (ol := ol) (by simp) hod hdn hgood hQ (l0 ++ [ol]).toArray.size (Array.replicate (l0 ++ [ol]).toArray.size false) a _ S H (by simp) hcnt (fun hb => by rw [hlf] at hb; cases hb) ?_
 have r' : Rel c ⟨t, m⟩ a w.drew S H := r.ext (Ext.drew w S) (r.sl.ext (Ext.drew w S))
 refine r'.weak (fun x => ?_)
 unfold TM
 rw [if_neg (by rw [hlf]; simp)]
 by_cases hx : x ∈ Ku l0
 ·right
  rw [if_pos]
  unfold Ku at hx
  rw [List.mem_filterMap] at hx
  obtain ⟨p, hp, hpd⟩ := hx
  obtain ⟨j, hj, hjp⟩ := List.getElem_of_mem hp
  refine ⟨j, p, hj, ?_, hpd, ?_⟩
  ·have : l0[j]? = some p := by rw [List.getElem?_eq_getElem hj, hjp]
   simpa using hgl this
  ·have : j < l0.length + 1 := by omega
   simp [Array.getD_eq_getD_getElem?, this]
 ·left
  rw [if_neg, hTt x hx]
  rintro ⟨i, o, hin, hi, hod, _⟩
  refine hx ?_
  unfold Ku
  rw [List.mem_filterMap]
  have hi' : l0[i]? = some o := by
   have : (l0 ++ [ol])[i]? = some o := by simpa using hi
   rwa [List.getElem?_append_left hin] at this
  exact ⟨o, List.mem_of_getElem? hi', hod⟩
end
theorem Cg {place : Nat → Option (Nat × Nat)} {cs out : List Lf} {i off s : Nat} {x : SV} {rest : List (Nat × SV)} (cs' : List Lf) (hp : place i = some (off, s)) (hl : x.cells.length = s) (hb : off + s ≤ cs.length) (he : Kc cs off x.cells = cs') (t : V0 place cs' rest out) : V0 place cs ((i, x) :: rest) out := by
 subst he
 exact .cons _ _ _ _ _ _ _ hp hl hb t
end Go.Proofs.YtbjckaahoacbfaaGreatDoor.Abs
namespace Go.Proofs.YtbjckaahoacbfaaGreatDoor.Abs
open Go.RowKit
section
variable {P : Program} {c : Ctx} {st : AS} {ty : TypeId} {α : Type} {f : α → List Lf} {sz : Nat}
end
end Go.Proofs.YtbjckaahoacbfaaGreatDoor.Abs
namespace Go.Proofs.YtbjckaahoacbfaaGreatDoor.Abs
open Go.RowKit
structure FT (P : Program) (s : TypeId) (f off : Nat) (ft : TypeId) : Prop where
 h : ∃ fs fld, P.underlying s = some (.struct fs) ∧ fs[f]? = some fld ∧ fld.offset = off ∧ fld.type = ft
section
variable {P : Program} {c : Ctx} {st : AS} {ty : TypeId}
end
end Go.Proofs.YtbjckaahoacbfaaGreatDoor.Abs
namespace Go.Proofs.YtbjckaahoacbfaaGreatDoor.Abs
open Go.RowKit
theorem Ahf (zl : List Lf) (n : Nat) : (X5 zl n).map Lf.canon = X5 (zl.map Lf.canon) n := by
 unfold X5
 rw [List.map_map, List.length_map]
 apply List.map_congr_left
 intro j _
 simp only [Function.comp, List.getD_eq_getElem?_getD, List.getElem?_map]
 cases zl[j % zl.length]? <;> rfl
theorem Ali {w : World} {S : Dh} {ls : List Lf} {vs : List Value} (h : LsR (Rep w S) ls vs) : LsR (Rep w S) (ls.map Lf.canon) vs := by
 refine ⟨by simpa using h.1, fun j l u hl hu => ?_⟩
 rw [List.getElem?_map] at hl
 cases hx : ls[j]? with
 | none => rw [hx] at hl; cases hl
 | some l' =>
  rw [hx] at hl
  cases hl
  exact Zl (h.2 j l' u hx hu)
section
variable {P : Program} {c : Ctx} {t : Nat → AV} {m : List Blk} {ops : Array Oper} {Q : Exit → AS → Prop} {rest : List Oper} {ty : TypeId} {pos : String} {af : Array Edge} {d : Tmp} {α : Type} {f : α → List Lf} {sz : Nat}
theorem As4 {x y : Operand} {t' t2 e bytes : Nat} {zl : List Lf} {k kn : IntKind} {n : Int} {z : α} (hd : decide (d < c.nt) = true) (si : P.underlying t' = some (.slice e)) (ei : EI P e sz bytes zl) (h2 : P.underlying t2 = some (.int kn)) (hf : ∀ x, (f x).length = sz) (hz : f z = zl.map Lf.canon) (hx : Ca ⟨t, m⟩ x = .s (.one (.raw (.slice none 0 0)))) (hy : Ca ⟨t, m⟩ y = .s (.one (.i k n)))
  (h : 0 < n ∧ n * (bytes : Int) ≤ 281474976710656) (hb : 0 < bytes)
  (kk : AWL P c ops Q rest ⟨upd t d (.s (.one (.ls m.length (List.replicate n.toNat z).length))), m ++ [.arr e sz 0 ((List.replicate n.toNat z).flatMap f)]⟩) :
  AWL P c ops Q (⟨some d, .call { callee := .builtin .append, args := #[x, y], argTypes := #[t', t2] }, ty, pos, af, none⟩ :: rest) ⟨t, m⟩ := by
 obtain ⟨N, rfl⟩ : ∃ N : Nat, n = (N : Int) := ⟨n.toNat, by omega⟩
 have hN : 0 < N := by omega
 have h48 : N * bytes ≤ 281474976710656 := by have := h.2; rw [← Int.natCast_mul] at this; omega
 have hle : N ≤ N * bytes := Nat.le_mul_of_pos_right _ hb
 rw [Int.toNat_natCast, List.length_replicate, ← Yq hz hf, ← Ahf] at kk
 refine Q5 (e := e) (sz := sz) (n := N) (cs := (X5 zl (N * sz)).map Lf.canon) ei.p (of_decide_eq_true hd) (fun a w S H r => ?_) kk
 obtain ⟨i, zz, hi, hzz, hsize, hbytes, hzs, hzl, hzo⟩ := ei.h
 have hx' := Bm r x
 rw [hx] at hx'
 have hv : a.eval x = .slice none 0 0 := Nb hx'
 have hy' := Bm r y
 rw [hy] at hy'
 have ev : a.eval y = .int k N := Q3 hy'
 subst hsize hbytes
 have hrun := Lib.run_append_nil_zeros (P := P) w t' t2 ty e i zz k kn si h2 hi hzz N hN ei.p (by omega) h48
 have hcap := grownCap_ge w N 0 e
 have hcm : grownCap w N 0 e ≤ maxLen := grownCap_le_maxLen w N 0 e (by simp only [maxLen]; omega)
 have hlen1 : (Builtin.zeroCells zz.cells N).size = N * i.size := by rw [size_zeroCells, hzs]
 refine ⟨.slice (some ⟨w.heap.size, 0, none⟩) N (grownCap w N 0 e), w.drew.alloc (.cells (Builtin.zeroCells zz.cells N ++ Builtin.zeroCells zz.cells (grownCap w N 0 e - N)) e), (Builtin.zeroCells zz.cells N).toList, fun _ _ _ _ => by simp [execOp, resolve, invoke, builtin, hv, ev, hrun], ?_, r.sl.ext ((Ext.drew w S).trans (Ext.alloc w.drew S _)), ?_, ?_⟩
 ·exact (Ext.drew w S).trans (Ext.alloc w.drew S _)
 ·refine ⟨by rw [Array.length_toList, hlen1], .inr ⟨w.heap.size, grownCap w N 0 e, _, rfl, Nat.le_refl _, heap_alloc_new w.drew _, hcap, hcm, ?_, ?_⟩⟩
  ·simp only [Array.size_append, size_zeroCells, hzs, ← Nat.add_mul]
   congr 1; omega
  ·simp only [Array.toList_append]
   rw [List.take_left' (by rw [Array.length_toList, hlen1])]
 ·have := X8 (w := w.drew.alloc (.cells (Builtin.zeroCells zz.cells N ++ Builtin.zeroCells zz.cells (grownCap w N 0 e - N)) e)) (S := S) (z := zz) (by rw [hzs]; exact ei.p) hzo (N * i.size) (N * i.size) (Nat.le_refl _)
  have e2 : (madeCells zz.cells (N * i.size)).toList.take (N * i.size) = (Builtin.zeroCells zz.cells N).toList := by
   rw [List.take_of_length_le (by rw [Array.length_toList, size_madeCells]; exact Nat.le_refl _)]
   unfold madeCells Builtin.zeroCells
   rw [hzs]
  rw [e2] at this
  rw [← hzl]
  exact Ali this
end
end Go.Proofs.YtbjckaahoacbfaaGreatDoor.Abs
namespace Go.Proofs.YtbjckaahoacbfaaGreatDoor.Abs
open Go.RowKit
section
variable {P : Program} {c : Ctx} {t : Nat → AV} {m : List Blk} {ops : Array Oper} {Q : Exit → AS → Prop} {rest : List Oper} {ty ty' : TypeId} {pos pos' : String} {af af' : Array Edge} {d d1 : Tmp} {α : Type} {f : α → List Lf} {sz : Nat}
end
end Go.Proofs.YtbjckaahoacbfaaGreatDoor.Abs
namespace Go.Proofs.YtbjckaahoacbfaaGreatDoor.Abs
open Go.RowKit
section
variable {P : Program} {c : Ctx} {t : Nat → AV} {m : List Blk} {ops : Array Oper} {Q : Exit → AS → Prop} {rest : List Oper} {ty : TypeId} {pos : String} {af : Array Edge} {d : Tmp} {α : Type} {f : α → List Lf} {sz : Nat}
end
end Go.Proofs.YtbjckaahoacbfaaGreatDoor.Abs
namespace Go.Proofs.YtbjckaahoacbfaaGreatDoor.Abs
open Go.RowKit
def FW (rd : Option Nat) : Fence := { Fence.wide with round := rd }
theorem Z8 {rd : Option Nat} {n : Nat} {P : Program} {f : FuncId} {args : Array Value} {w : World} {R : Ending → World → Prop} (h : Calls P f args w R) : CallsIn (FW rd) n P f args w R :=
  (callsIn_wide (n := n)).2 h
theorem Aja {rd : Option Nat} {n : Nat} {P : Program} {row : String} {args : Array Value} {w : World} {R : Value → World → Prop} (h : Rows P row args w R) : RowsIn (FW rd) n P row args w R :=
  fun c cs _ => let ⟨v, w', r, s⟩ := h c cs; ⟨v, w', r, (stepsIn_wide).2 s⟩
def dsl (a : Act) (ds : List Deferred) : Act := { a with defers := ds }
theorem Zo (a : Act) (ds : List Deferred) (d : Option Tmp) (v : Value) : dsl (a.put d v) ds = (dsl a ds).put d v := by cases d <;> rfl
theorem Oe (a : Act) (d : Option Tmp) (v : Value) : (a.put d v).defers = a.defers := by cases d <;> rfl
theorem Af2 {a : Act} {ds : List Deferred} (h : a.defers = ds) : dsl a ds = a := by subst h; rfl
theorem Abw (a : Act) (ds : List Deferred) : (dsl a ds).eval = a.eval := by funext x; cases x <;> rfl
def ndf (o : Oper) : Bool := match o.op with
  | .defer _ => false
  | _ => true
section
variable {P : Program} {ops : Array Oper} {K K' : Act → World → Prop} {Q1 Q2 : Exit → Act → World → Prop} {ds : List Deferred} {rd : Option Nat}
theorem Arp {o : Oper} {a : Act} {w : World} (hno : ¬ LetsOut Q1) (hK : ∀ a w, K a w → a.defers = []) (hQ : ∀ e a w, Q1 e a w → a.defers = []) (h : o.wp P a w K Q1) : a.defers = [] := by
  unfold Oper.wp at h
  generalize (execOp a.eval o).run P w = r at h
  cases r with
  | ok nx w' =>
    cases nx with
    | value v => have := hK _ _ h; rwa [Oe] at this
    | skip => have := hK _ _ h; rwa [Oe] at this
    | defer d => have := hK _ _ h; rw [Oe] at this; cases this
    | enter f args =>
      have h' : Calls P f args w' _ := h
      obtain ⟨e, w'', fr, hr, _⟩ := h' []
      cases e with
      | returned v => have := hK _ _ hr; rwa [Oe] at this
      | panicked ch => exact hQ _ _ _ hr
      | outgrown => exact absurd hr hno
    | row row args =>
      have h' : Rows P row args w' _ := h
      obtain ⟨v, w'', hr, _⟩ := h' default []
      have := hK _ _ hr; rwa [Oe] at this
    | _ => exact absurd h id
  | halt x w' =>
    cases x with
    | panic v => exact hQ _ _ _ h
    | _ => exact absurd h id
theorem Aqc {o : Oper} (hd : ndf o = true) {a : Act} {w : World} (hno : ¬ LetsOut Q1) (hnd : ∀ a w, K a w → a.defers = []) (hK : ∀ a w, K a w → K' (dsl a ds) w) (hQ : ∀ e a w, Q1 e a w → Q2 e (dsl a ds) w)
    (h : o.wp P a w K Q1) : o.wpIn (FW rd) 0 P (dsl a ds) w K' Q2 := by
  refine ⟨fun _ _ => trivial, ?_⟩
  have e2 : o.semAt (FW rd).round (dsl a ds).eval = execOp a.eval o := by
    rw [Abw]
    cases rd with
    | none => exact Oper.semAt_none _ _
    | some l => exact Oper.semAt_some l _ o (fun c hc => by simp only [ndf, hc] at hd; cases hd)
  rw [e2]
  unfold Oper.wp at h
  generalize (execOp a.eval o).run P w = r at h
  cases r with
  | ok nx w' =>
    cases nx with
    | value v => have := hK _ _ h; rw [Zo] at this; exact this
    | skip => have := hK _ _ h; rw [Zo] at this; exact this
    | defer d => have := hnd _ _ h; rw [Oe] at this; cases this
    | enter f args =>
      refine ⟨fun hh => (by simp [FW, Fence.wide] at hh), Z8 ?_⟩
      have h' : Calls P f args w' _ := h
      refine h'.mono fun e w'' hr => ?_
      cases e with
      | returned v => have := hK _ _ hr; rw [Zo] at this; exact this
      | panicked ch => exact hQ _ _ _ hr
      | outgrown => exact absurd hr hno
    | row row args =>
      refine ⟨fun hh => (by simp [FW, Fence.wide] at hh), Aja ?_⟩
      have h' : Rows P row args w' _ := h
      refine h'.mono fun v w'' hr => ?_
      have := hK _ _ hr; rw [Zo] at this; exact this
    | _ => exact absurd h id
  | halt x w' =>
    cases x with
    | panic v => exact hQ _ _ _ h
    | _ => exact absurd h id
theorem Zf (hno : ¬ LetsOut Q1) (hQ : ∀ e a w, Q1 e a w → a.defers = []) : ∀ (l : List Oper) (a : Act) (w : World), wpList P ops Q1 l a w → a.defers = []
  | [], a, w, h => hQ _ _ _ h
  | o :: rest, a, w, h => by
    unfold wpList at h
    split at h
    · rcases h with h | h
      · exact Arp hno (fun a w => Zf hno hQ rest a w) hQ h
      · exact absurd h.2 hno
    · have := Zf hno hQ rest _ _ h
      rwa [Oe] at this
theorem Zi (hno : ¬ LetsOut Q1) (hnd : ∀ e a w, Q1 e a w → a.defers = []) (hQ : ∀ e a w, Q1 e a w → Q2 e (dsl a ds) w) : ∀ (l : List Oper), l.all ndf = true → ∀ (a : Act) (w : World), wpList P ops Q1 l a w → wpListIn (FW rd) 0 P ops Q2 l (dsl a ds) w
  | [], _, a, w, h => hQ _ _ _ h
  | o :: rest, hl, a, w, h => by
    simp only [List.all_cons, Bool.and_eq_true] at hl
    unfold wpList at h
    unfold wpListIn
    have ih := Zi hno hnd hQ rest hl.2
    by_cases hw : Region.wanted o (yielded ops a.tmps) = true
    · rw [if_pos hw] at h
      rw [if_pos (show Region.wanted o (yielded ops (dsl a ds).tmps) = true from hw)]
      rcases h with h | h
      · exact Aqc hl.1 hno (Zf hno hnd rest) ih hQ h
      · exact absurd h.2 hno
    · rw [if_neg hw] at h
      rw [if_neg (show ¬ Region.wanted o (yielded ops (dsl a ds).tmps) = true from hw)]
      have := ih _ _ h
      rw [Zo] at this
      exact ⟨fun _ _ => trivial, this⟩
end
def Asa (m : List Blk) (H : Nat → Value) (g : Nat) : Prop := ∃ (p : Nat) (b : Blk), m[p]? = some b ∧ b.own (H p) = some g
abbrev Ctx.now (c : Ctx) (st : AS) (w : World) (S : Dh) (H : Nat → Value) : Ctx := ⟨w, S, c.nt, Asa st.m H, st.m, H⟩
theorem Rel.now {c : Ctx} {st : AS} {a : Act} {w : World} {S : Dh} {H : Nat → Value} (r : Rel c st a w S H) : Rel (c.now st w S H) st a w S H :=
  ⟨r.nt, r.df, r.tm, r.bl, fun p b g hb ho => ⟨.inr ⟨p, b, hb, ho⟩, (r.lo p b g hb ho).2⟩, r.inj, r.sb, r.sl, Xv.refl _ _ _, Nat.le_refl _, fun _ _ _ _ => rfl,
   fun p e sz k cs hp hm => ⟨k, cs, hm, .inl ⟨rfl, rfl⟩⟩, fun _ _ h => h⟩
theorem Xv.then_now {c : Ctx} {st : AS} {a : Act} {w w' : World} {S S' : Dh} {H : Nat → Value} (r : Rel c st a w S H) (x : Xv (Asa st.m H) w S w' S') : Xv c.X c.w0 c.S0 w' S' := by
  have k := r.ex
  have nx : ∀ b, b < c.w0.heap.size → ¬ c.X b → ¬ Asa st.m H b := fun b hb hx ⟨p, bb, h1, h2⟩ => by
    rcases (r.lo p bb b h1 h2).1 with h | h
    · omega
    · exact hx h
  refine ⟨x.os.trans k.os, x.tape.trans k.tape, x.output.trans k.output, Nat.le_trans k.size x.size, fun b hb hx => ?_, fun b i hs => x.sub b i (k.sub b i hs), fun b i hs => (x.stab b i (k.sub b i hs)).trans (k.stab b i hs), fun b i hb hx hs => ?_⟩
  · exact (x.blk b (Nat.lt_of_lt_of_le hb k.size) (nx b hb hx)).trans (k.blk b hb hx)
  · exact k.back b i hb hx (x.back b i (Nat.lt_of_lt_of_le hb k.size) (nx b hb hx) hs)
theorem Rel.then_now {c : Ctx} {st st' : AS} {a a' : Act} {w w' : World} {S S' : Dh} {H H' : Nat → Value} (r : Rel c st a w S H) (r' : Rel (c.now st w S H) st' a' w' S' H') : Rel c st' a' w' S' H' := by
  refine ⟨r'.nt, r'.df, r'.tm, r'.bl, fun p b g hb ho => ?_, r'.inj, r'.sb, r'.sl, Xv.then_now r r'.ex, Nat.le_trans r.kl r'.kl, fun p g hp hh => ?_, fun p e sz k cs hp hm => ?_, fun p hp hne => r'.ku p (Nat.lt_of_lt_of_le hp r.kl) (r.ku p hp hne)⟩
  · obtain ⟨h1, h2⟩ := r'.lo p b g hb ho
    refine ⟨?_, h2⟩
    rcases h1 with h1 | ⟨q, bb, h3, h4⟩
    · exact .inl (Nat.le_trans r.ex.size h1)
    · exact (r.lo q bb g h3 h4).1
  · have h1 := r.kh p g hp hh
    exact (r'.kh p g (Nat.lt_of_lt_of_le hp r.kl) (h1.trans hh)).trans h1
  · obtain ⟨k1, cs1, h1, h2⟩ := r'.kr p e sz k cs (Nat.lt_of_lt_of_le hp r.kl) hm
    obtain ⟨k2, cs2, h3, h4⟩ := r.kr p e sz k1 cs1 hp h1
    refine ⟨k2, cs2, h3, ?_⟩
    rcases h2 with ⟨h2, h5⟩ | h2 <;> rcases h4 with ⟨h4, h6⟩ | h4
    · exact .inl ⟨h4.trans h2, h5.trans h6⟩
    · exact .inr (by omega)
    · exact .inr (by omega)
    · exact .inr (by omega)
theorem Add {base : Nat} {w : World} {S : Dh} {m : List Blk} {H : Nat → Value} {b : Blk} {v : Value} {g : Nat} (h : Amj base w S m H b v) (ho : b.own v = some g) : ∃ o, w.heap[g]? = some o ∧ Z7 o = true := by
  cases b with
  | dead => cases ho
  | hole => cases ho
  | obj g' mk cs =>
    obtain ⟨h1, vs, o, h2, h3, _⟩ := h
    rw [h1] at ho
    have : g' = g := by simpa [Blk.own, Lu] using ho
    subst this
    exact ⟨o, h2, Acd h3⟩
  | tab mk cs =>
    obtain ⟨g', h1, vs, o, h2, h3, _⟩ := h
    rw [h1] at ho
    have : g' = g := by simpa [Blk.own, Lu] using ho
    subst this
    exact ⟨o, h2, Acd h3⟩
  | box cs =>
    obtain ⟨g', e, cur, h1, h2, _⟩ := h
    rw [h1] at ho
    have : g' = g := by simpa [Blk.own, Lu] using ho
    subst this
    exact ⟨_, h2, rfl⟩
  | arr e sz k cs =>
    obtain ⟨_, _, n, vals, h1, _⟩ := h
    rcases h1.2 with ⟨hv, _⟩ | ⟨g', cap, cur, hv, _, hg, _⟩
    · rw [hv] at ho; cases ho
    · rw [hv] at ho
      have : g' = g := by simpa [Blk.own, Lu] using ho
      subst this
      exact ⟨_, hg, rfl⟩
def Zed (w : World) (Z : List (Nat × Obj)) : Prop := ∀ x ∈ Z, w.heap[x.1]? = some x.2 ∧ Z7 x.2 = false
theorem Zed.now {c : Ctx} {st : AS} {a : Act} {w w' : World} {S S' : Dh} {H : Nat → Value} {Z : List (Nat × Obj)} (r : Rel c st a w S H) (x : Xv (Asa st.m H) w S w' S') (z : Zed w Z) : Zed w' Z := fun y hy => by
  obtain ⟨h1, h2⟩ := z y hy
  refine ⟨(x.blk y.1 (Array.getElem?_eq_some_iff.1 h1).1 fun ⟨p, b, h3, h4⟩ => ?_).trans h1, h2⟩
  obtain ⟨o, h5, h6⟩ := Add (r.bl p b h3) h4
  rw [h1] at h5
  have : y.2 = o := Option.some.inj h5
  rw [this, h6] at h2
  cases h2
theorem Zed.ext {w w' : World} {S S' : Dh} {Z : List (Nat × Obj)} (x : Ext w S w' S') (z : Zed w Z) : Zed w' Z := fun y hy => by
  obtain ⟨h1, h2⟩ := z y hy
  exact ⟨(x.blk y.1 (Array.getElem?_eq_some_iff.1 h1).1).trans h1, h2⟩
theorem Yt {o : Obj} (h : Z7 o = false) : o.isCells = false := by cases o <;> first | rfl | cases h
theorem Uv {w : World} {l : Nat} {o o' : Obj} (h : w.heap[l]? = some o) (ho : Z7 o = false) (ho' : Z7 o' = false) (a : Addr) : (w.putObj l o').cell? a = w.cell? a := by
  have ho := Yt ho
  have ho' := Yt ho'
  by_cases e : a.block = l
  · have h1 : (w.putObj l o').heap[a.block]? = some o' := by rw [e]; exact World.putObj_heap_same (Array.getElem?_eq_some_iff.1 h).1
    have h2 : w.heap[a.block]? = some o := by rw [e]; exact h
    unfold World.cell?
    rw [h1, h2]
    cases o <;> first | cases ho; done | (cases o' <;> first | rfl | (simp [Obj.isCells] at ho'; done) | (simp [Obj.isCells] at ho; done))
  · exact World.cell?_of_block (World.putObj_heap_other e)
theorem Rel.putObj {c : Ctx} {st : AS} {a : Act} {w : World} {S : Dh} {H : Nat → Value} (r : Rel c st a w S H) {l : Nat} {o : Obj} (o' : Obj) (h : w.heap[l]? = some o) (ho : Z7 o = false) (ho' : Z7 o' = false) (hl : c.w0.heap.size ≤ l) : Rel c st a (w.putObj l o') S H := by
  have hc := Uv (o' := o') h ho ho'
  have hk : ∀ b i, S b i → S b i ∧ (w.putObj l o').cell? ⟨b, i, none⟩ = w.cell? ⟨b, i, none⟩ := fun b i hs => ⟨hs, hc _⟩
  have hg : ∀ x v, C9 w S st.m H x v → C9 (w.putObj l o') S st.m H x v := fun x v => C9.mono hk (Nat.le_refl _) (fun _ _ => rfl) (fun p e sz k cs _ hm => ⟨k, cs, hm, rfl⟩)
  have hb : ∀ (p : Nat) (b : Blk) (g : Nat), st.m[p]? = some b → b.own (H p) = some g → (w.putObj l o').heap[g]? = w.heap[g]? := fun p b g h1 h2 => by
    refine World.putObj_heap_other fun e => ?_
    subst e
    obtain ⟨o2, h5, h6⟩ := Add (r.bl p b h1) h2
    rw [h] at h5
    have : o = o2 := Option.some.inj h5
    rw [this, h6] at ho
    cases ho
  refine ⟨r.nt, r.df, fun i => AVR.mono hg (r.tm i), fun p b hbb => ?_, fun p b g h1 h2 => ⟨(r.lo p b g h1 h2).1, by rw [World.putObj_size]; exact (r.lo p b g h1 h2).2⟩, r.inj, r.sb, r.sl.turn (by rw [World.putObj_size]; exact Nat.le_refl _) (fun b i hs => hc _), ?_, r.kl, r.kh, r.kr, r.ku⟩
  · have hr := r.bl p b hbb
    have hbo := hb p b
    cases b with
    | dead => trivial
    | hole => exact hr
    | obj g mk cs =>
      obtain ⟨h1, vs, o, h2, h3, h4, h5⟩ := hr
      exact ⟨h1, vs, o, (hbo g hbb (by rw [h1]; rfl)).trans h2, h3, h4, h5.mono (fun l v => Rep.mono hk)⟩
    | tab mk cs =>
      obtain ⟨g, h1, vs, o, h2, h3, h4, h5⟩ := hr
      exact ⟨g, h1, vs, o, (hbo g hbb (by rw [h1]; rfl)).trans h2, h3, h4, h5.mono (fun l v => Rep.mono hk)⟩
    | box cs =>
      obtain ⟨g, e, cur, h1, h2, h3⟩ := hr
      exact ⟨g, e, cur, h1, (hbo g hbb (by rw [h1]; rfl)).trans h2, h3.mono hg⟩
    | arr e sz k cs =>
      obtain ⟨h0, hk1, n, vals, h1, h2, h3⟩ := hr
      exact ⟨h0, hk1, n, vals, Kx h1 (fun g hgo => hbo g hbb hgo), h2.mono (fun l v => Rep.mono hk), h3⟩
  · have x := r.ex
    exact ⟨x.os, x.tape, x.output, by rw [World.putObj_size]; exact x.size, fun b hbb hx => (World.putObj_heap_other (by omega)).trans (x.blk b hbb hx), x.sub, fun b i hs => (hc _).trans (x.stab b i hs), x.back⟩
theorem Zed.putObj {w : World} {l : Nat} {o : Obj} {Z : List (Nat × Obj)} (z : Zed w Z) (hl : ∀ x ∈ Z, x.1 ≠ l) : Zed (w.putObj l o) Z := fun y hy =>
  ⟨(World.putObj_heap_other (hl y hy)).trans (z y hy).1, (z y hy).2⟩
end Go.Proofs.YtbjckaahoacbfaaGreatDoor.Abs
