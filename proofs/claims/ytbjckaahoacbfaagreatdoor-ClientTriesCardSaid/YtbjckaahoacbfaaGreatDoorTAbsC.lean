/-
  A walk over abstract states: its rules, part C.
-/
import Derived.Test.YtbjckaahoacbfaaGreatDoorTAbsB
import Derived.WalkKit
import Derived.Lib.Walk
import Derived.Lib.SliceRun
import Derived.Lib.JoinLaws
import Derived.Lib.AppendZeros
import Derived.Lib.AppendZerosOnto
import Derived.Lib.Overlaps
import Derived.Laws.Externs
import Derived.Laws.IdiomCopy
import Derived.Laws.NewBlocks
import Derived.Shelf.RegionOpenPlain
import Derived.Shelf.Spec.SlicesInsert
import Derived.Lib.ConvBytes
import Derived.Maps.Range
import Derived.Shelf.SlSortCmp.WholeK
import Derived.Shelf.SlSortCmp.NoneTotal
import Derived.Shelf.SortM.Plain
import Derived.Shelf.SortM.SortNone
import Derived.Shelf.SlicesE.Compact
import Derived.Conc.LoneSelect
import Derived.Test.YtbjckaahoacbfaaGreatDoorTAbsA
import Derived.SizedLaws
import Derived.OpenShut
import Derived.ChangeKeysEq
import Derived.LaidEql
import Derived.Stop.Asserts
import Derived.Stop.IfaceNil
import Derived.RowKitTokens
import Derived.Lib.IfaceEq
set_option linter.unusedVariables false
set_option linter.unusedSimpArgs false
namespace Go.Proofs.YtbjckaahoacbfaaGreatDoor.Abs
open Go.RowKit
structure FrK where
 ds : List Deferred
 Z : List (Nat × Obj)
def Aab (Q : Exit → AS → Prop) : Prop := ∀ st, ¬ Q .outgrown st
def QI (c : Ctx) (ok : FrK → Prop) (K : FrK) (Q : Exit → AS → Prop) : Exit → Act → World → Prop := fun e a w =>
 ∃ K' st S H a0, ok K' ∧ (∀ z ∈ K.Z, z ∈ K'.Z) ∧ a = dsl a0 K'.ds ∧ Rel c st a0 w S H ∧ Zed w K'.Z ∧ Q e st
def AWI (rd : Option Nat) (P : Program) (c : Ctx) (ok : FrK → Prop) (x : Code) (Q : Exit → AS → Prop) (st : AS) : Prop :=
 Aab Q → ∀ K, ok K → ∀ a w S H, Rel c st a w S H → Zed w K.Z → x.wpIn (FW rd) 0 P (QI c ok K Q) (dsl a K.ds) w
section
variable {rd : Option Nat} {P : Program} {c : Ctx} {ok : FrK → Prop} {Q : Exit → AS → Prop} {t : Nat → AV} {m : List Blk}
theorem Aab.then {n : AS → Prop} (h : Aab Q) : Aab (Pf n Q) := fun st hs => h st hs
theorem Aab.block {id : Nat} (h : Aab Q) : Aab (L7 id Q) := fun st hs => h st hs
theorem Sr {id : Nat} {l : List Oper} (hnd : l.all ndf = true) (h : ∀ w0 S0 X m0 H0, AWL P ⟨w0, S0, c.nt, X, m0, H0⟩ l.toArray Q l ⟨t, m⟩) : AWI rd P c ok (.region id l.toArray false) Q ⟨t, m⟩ := by
 intro hq K hK a w S H r z
 refine wpIn_region_lit (We (Q1 := QR (c.now ⟨t, m⟩ w S H) Q) ?_ ?_ ?_ l hnd a w (h _ _ _ _ _ a w S H r.now))
 ·rintro ⟨a, w, st, S, H, _, h⟩; exact hq st h
 ·rintro e a w ⟨st, S, H, r, _⟩; exact r.df
 ·rintro e a' w' ⟨st', S', H', r', h⟩
  exact ⟨K, st', S', H', a', hK, fun _ h => h, rfl, r.then_now r', z.now r r'.ex, h⟩
theorem AWI.mono {x : Code} {st : AS} {Q Q' : Exit → AS → Prop} (h : AWI rd P c ok x Q st) (hq : ∀ e st, Q e st → Q' e st) : AWI rd P c ok x Q' st := by
 intro hn K hK a w S H r z
 refine wpIn_mono (h (fun st hs => hn st (hq _ _ hs)) K hK a w S H r z) ?_
 rintro e a w ⟨K', st, S, H, a0, h1, h2, h3, h4, h5, h6⟩
 exact ⟨K', st, S, H, a0, h1, h2, h3, h4, h5, hq _ _ h6⟩
theorem Amb {x y : Code} (h : AWI rd P c ok x (Pf (AWI rd P c ok y Q) Q) ⟨t, m⟩) : AWI rd P c ok (.seq x y) Q ⟨t, m⟩ := by
 intro hn K hK a w S H r z
 refine wpIn_seq (wpIn_mono (h hn.then K hK a w S H r z) ?_)
 rintro e a w ⟨K', st, S, H, a0, h1, h2, rfl, h4, h5, h6⟩
 cases e with
 | normal =>
  have h6' : AWI rd P c ok y Q st := h6
  refine wpIn_mono (h6' hn K' h1 a0 w S H h4 h5) ?_
  rintro e a w ⟨K2, st, S, H, a0, g1, g2, g3, g4, g5, g6⟩
  exact ⟨K2, st, S, H, a0, g1, fun z hz => g2 z (h2 z hz), g3, g4, g5, g6⟩
 | _ => exact ⟨K', st, S, H, a0, h1, h2, rfl, h4, h5, h6⟩
theorem As5 (h : Q .normal ⟨t, m⟩) : AWI rd P c ok .skip Q ⟨t, m⟩ := fun _ K hK a _ S H r z => wpIn_skip ⟨K, _, S, H, a, hK, fun _ h => h, rfl, r, z, h⟩
theorem At3 (h : Q .ret ⟨t, m⟩) : AWI rd P c ok .ret Q ⟨t, m⟩ := fun _ K hK a _ S H r z => wpIn_ret ⟨K, _, S, H, a, hK, fun _ h => h, rfl, r, z, h⟩
theorem Alg {id : Nat} {x : Code} (h : AWI rd P c ok x (L7 id Q) ⟨t, m⟩) : AWI rd P c ok (.block id x) Q ⟨t, m⟩ := by
 intro hn K hK a w S H r z
 refine wpIn_block (wpIn_mono (h hn.block K hK a w S H r z) ?_)
 rintro e a w ⟨K', st, S, H, a0, h1, h2, h3, h4, h5, hq⟩
 cases e with
 | exit id' =>
  simp only [L7] at hq
  simp only [Exit.inBlock]
  split
  ·rename_i h; rw [if_pos h] at hq; exact ⟨K', st, S, H, a0, h1, h2, h3, h4, h5, hq⟩
  ·rename_i h; rw [if_neg h] at hq; exact ⟨K', st, S, H, a0, h1, h2, h3, h4, h5, hq⟩
 | _ => exact ⟨K', st, S, H, a0, h1, h2, h3, h4, h5, hq⟩
theorem Aq5 {o : Operand} {x y : Code} {b : Bool} (ho : Ch ⟨t, m⟩ o = .s (.one (.b b))) (h1 : b = true → AWI rd P c ok x Q ⟨t, m⟩) (h0 : b = false → AWI rd P c ok y Q ⟨t, m⟩) : AWI rd P c ok (.cond o x y) Q ⟨t, m⟩ := by
 intro hn K hK a w S H r z
 have h := Bn r o
 rw [ho] at h
 have hv : (dsl a K.ds).eval o = .bool b := by rw [Yf]; exact R9 (h : Rep w S (.b b) (a.eval o))
 exact wpIn_cond_split hv (fun hb => h1 hb hn K hK a w S H r z) (fun hb => h0 hb hn K hK a w S H r z)
end
section
variable {rd : Option Nat} {P : Program} {c : Ctx} {ok : FrK → Prop} {Q : Exit → AS → Prop} {t : Nat → AV} {M : List Blk}
end
def U0 (D : Nat) : Deferred := { target := .collected D, args := #[] }
def okO (c : Ctx) (K : FrK) : Prop := ∃ Ds : List Nat, K.ds = Ds.map U0 ∧ K.Z = Ds.map (fun D => (D, .deferred (some []))) ∧ Ds.Nodup ∧ ∀ D ∈ Ds, c.w0.heap.size ≤ D
def okB (K : FrK) : Prop := K.ds = []
theorem U3 {P : Program} {fn : Func} {R : Ending → World → Prop} {c : Ctx} {st : AS} {a : Act} {S : Da} {H : Nat → Value} (hR : ∀ w', Rel c st a w' S H → ∃ v, (results fn a.tmps).run P w' = .ok v w' ∧ R (.returned v) w') :
  ∀ (Ds : List Nat) (w : World), Ds.Nodup → (∀ D ∈ Ds, c.w0.heap.size ≤ D) → Zed w (Ds.map (fun D => (D, .deferred (some [])))) → Rel c st a w S H → LeavesInM Fence.wide 0 P fn a.tmps R (Ds.map U0) .returning w
 | [], w, _, _, _, r => hR w r
 | D :: Ds, w, hn, hge, z, r => by
  have hD : w.heap[D]? = some (.deferred (some [])) := (z (D, .deferred (some [])) (List.mem_cons_self ..)).1
  refine ⟨by simp, .inl ⟨D, w.putObj D (.deferred none), rfl, run_takeDeferred hD, U3 hR Ds _ (List.nodup_cons.1 hn).2 (fun D' h => hge D' (List.mem_cons_of_mem _ h)) ?_ (r.putObj _ hD rfl rfl (hge D (List.mem_cons_self ..)))⟩⟩
  refine Zed.putObj (fun x hx => z x (List.mem_cons_of_mem _ hx)) fun x hx e => ?_
  rw [List.mem_map] at hx
  obtain ⟨D', h1, rfl⟩ := hx
  exact (List.nodup_cons.1 hn).1 (e ▸ h1)
theorem Aew {P : Program} {f : FuncId} {fn : Func} {body : Code} {args : List SV} {R : AV → Prop} (hf : P.funcs[f]? = some fn) (hb : fn.body = some body) {nt : Nat} (hnt : fn.ntmps = nt) (hn : args.length ≤ nt)
  (h : ∀ w0 S0, AWI none P (Ctx.of w0 S0 nt) (okO (Ctx.of w0 S0 nt)) body (Done P fn R) ⟨Alc args, []⟩) : Bp P f args R := by
 subst hnt
 intro w S vs hS hv
 refine callsIn_wide.1 (callsIn_of_wp_marks (n := 0) hf hb trivial ?_)
 have hlen : vs.size = args.length := by have := hv.1; simp at this; omega
 have hget : ∀ i, (vs ++ Array.replicate (fn.ntmps - vs.size) undef).getD i undef = vs.getD i undef := by
  intro i
  simp only [Array.getD_eq_getD_getElem?, Array.getElem?_append]
  split
  ·rfl
  ·rename_i hi
   rw [Array.getElem?_replicate]
   have : vs[i]? = none := Array.getElem?_eq_none (by omega)
   rw [this]
   split <;> rfl
 have r0 : Rel (Ctx.of w S fn.ntmps) ⟨Alc args, []⟩ { tmps := vs ++ Array.replicate (fn.ntmps - vs.size) undef, defers := [] } w S (fun _ => undef) := by
  refine ⟨by simp; omega, rfl, fun i => ?_, fun p b h => by simp at h, fun p b g h => by simp at h, fun p q b b' g h => by simp at h, fun p b g i h => by simp at h, hS, Vb.refl _ w S, Nat.zero_le _, fun p g h => absurd h (Nat.not_lt_zero _), fun p e sz k cs h => absurd h (Nat.not_lt_zero _), fun p h => absurd h (Nat.not_lt_zero _)⟩
  rw [hget]
  show AVR _ (match args[i]? with | some x => .s x | none => .tup []) _
  cases ha : args[i]? with
  | none =>
   have : vs[i]? = none := Array.getElem?_eq_none (by rw [hlen]; exact List.getElem?_eq_none_iff.1 ha)
   simp only [Array.getD_eq_getD_getElem?, this, Option.getD_none]
   exact Mr
  | some x =>
   have hi : i < args.length := (List.getElem?_eq_some_iff.1 ha).1
   have hi' : i < vs.size := by omega
   have : vs[i]? = some vs[i] := Array.getElem?_eq_getElem hi'
   simp only [Array.getD_eq_getD_getElem?, this, Option.getD_some]
   exact SVR.mono (fun _ _ => C1.of_rep) (hv.2 i x _ ha (by simp))
 have hno : Aab (Done P fn R) := fun st hs => by rcases hs.1 with h | h <;> cases h
 refine wpIn_mono (h w S hno ⟨[], []⟩ ⟨[], rfl, rfl, List.nodup_nil, fun D h => by cases h⟩ _ w S _ r0 (fun x h => by cases h)) ?_
 rintro e a w1 ⟨K', st, S1, H, a0, ⟨Ds, h1, h2, h3, h4⟩, _, rfl, r, z, he, xs, ys, m', hx, hp, hR⟩
 have key : LeavesInM Fence.wide 0 P fn a0.tmps (fun e w' => ∃ v x S', e = .returned v ∧ R x ∧ Ext w S w' S' ∧ InH w' S' ∧ AVR (Rep w' S') x v) (Ds.map U0) .returning w1 := by
  refine U3 (c := Ctx.of w S fn.ntmps) (st := st) (S := S1) (H := H) (fun w' r => ?_) Ds w1 h3 h4 (by rw [← h2]; exact z) r
  obtain ⟨u, hu, hk⟩ := Wo r hx
  obtain ⟨S2, k2, g2⟩ := hp.keeps r
  exact ⟨u, hu, u, Aci ys, S2, rfl, hR, k2.rel.ex.toExt (fun _ h => h), k2.rel.sl, hk S2 ys g2⟩
 rw [← h1] at key
 rcases he with rfl | rfl
 ·exact key
 ·exact key
structure Ajy (w : World) (S : Da) (w' : World) (S' : Da) : Prop where
 st : ∀ b i, S b i → S' b i ∧ w'.cell? ⟨b, i, none⟩ = w.cell? ⟨b, i, none⟩
 sl : InH w' S'
def Ai7 (P : Program) (fc : FuncId) (cap : List Lf) (L : List (SV × SV)) : Prop :=
 ∀ (l : Nat) (J : Nat → World → Da → Prop) (Jx : World → Da → Prop) (w : World) (S : Da) (vs : Array Value),
  (∀ k w S w' S', J k w S → Ext w S w' S' → InH w' S' → J k w' S') → (∀ w S w' S', Jx w S → Ext w S w' S' → InH w' S' → Jx w' S') →
  (∀ k x y w S v u, L[k]? = some (x, y) → J k w S → InH w S → SVR (Rep w S) x v → SVR (Rep w S) y u →
   ∃ fn tmps assign body, (Instr.yield l #[v, u]).run P w = .ok (.round l fn tmps assign body) w ∧
    RoundIn Fence.wide 0 P l fn tmps assign body w (fun e w' => ∃ b S', e = .returned (.bool b) ∧ Ajy w S w' S' ∧ (if b then J (k + 1) w' S' else Jx w' S'))) →
  J 0 w S → InH w S → LsR (Rep w S) cap vs.toList →
  Calls P fc (#[.func (.yield l) #[] #[]] ++ vs) w fun e w' => ∃ v S', e = .returned v ∧ InH w' S' ∧ (J L.length w' S' ∨ Jx w' S')
def RQ {G : Type} (mm : G → List Blk) (pre : G → Prop) (jmp : Code → G → Prop) : Exit → AS → Prop
 | .normal, st => ∃ g ex, pre g ∧ st.m = mm g ++ ex
 | .ret, st => ∃ g ex, jmp .ret g ∧ st.m = mm g ++ ex
 | .exit id, st => ∃ g ex, jmp (.exit id) g ∧ st.m = mm g ++ ex
 | _, _ => False
theorem Rel.swap {c : Ctx} {t t' : Nat → AV} {m : List Blk} {a a' : Act} {w : World} {S : Da} {H : Nat → Value} (r : Rel c ⟨t', m⟩ a' w S H) (hn : a.tmps.size = c.nt) (hd : a.defers = []) (tm : ∀ i, AVR (C1 w S m H) (t i) (a.tmps.getD i undef)) : Rel c ⟨t, m⟩ a w S H :=
 ⟨hn, hd, tm, r.bl, r.lo, r.inj, r.sb, r.sl, r.ex, r.kl, r.kh, r.kr, r.ku⟩
section
variable {P : Program} {c : Ctx} {Q : Exit → AS → Prop} {t : Nat → AV} {m : List Blk}
theorem Aqm {go : Operand} {p1 p2 : Tmp} {assign body : Code} {fc : FuncId} {cap : List Lf} {L : List (SV × SV)} {G : Type} (mm : G → List Blk) (pre : Nat → G → Prop) (jmp : Code → G → Prop) (g0 : G)
  (hg : Ch ⟨t, m⟩ go = .s (.one (.fn fc [] cap))) (hfc : FnI P fc) (hcap : cap.all Lf.pubd0 = true) (hit : Ai7 P fc cap L) (hp1 : decide (p1 < c.nt) = true) (hp2 : decide (p2 < c.nt) = true)
  (h0 : pre 0 g0) (hm : m = mm g0) (hlen : ∀ g, (mm g).length = m.length) (hmin : ∀ g, ∀ b ∈ mm g, b.inb (mm g).length)
  (round : ∀ k x y g l, L[k]? = some (x, y) → pre k g → ∀ w0 S0 X H0, AWI (some l) P ⟨w0, S0, c.nt, X, mm g, H0⟩ okB assign
   (Pf (fun st1 => ∀ w0 S0 X H0, AWI (some l) P ⟨w0, S0, c.nt, X, st1.m, H0⟩ okB body (RQ mm (pre (k + 1)) jmp) st1) (fun _ _ => False)) ⟨upd (upd t p1 (.s x)) p2 (.s y), mm g⟩)
  (done : ∀ g, pre L.length g → Q .normal ⟨t, mm g⟩) (hret : ∀ g, jmp .ret g → Q .ret ⟨t, mm g⟩) (hex : ∀ id g, jmp (.exit id) g → Q (.exit id) ⟨t, mm g⟩) :
  AWI none P c (okO c) (.rangeFunc go #[p1, p2] assign body) Q ⟨t, m⟩ := by
 intro hq K hK a w S H r z
 obtain ⟨Ds, hds, hZ, hnd, hge⟩ := hK
 have hp1' : p1 < c.nt := of_decide_eq_true hp1
 have hp2' : p2 < c.nt := of_decide_eq_true hp2
 have hgo := Bn r go
 rw [hg] at hgo
 obtain ⟨va, vb, hgv, hva, hvb⟩ := hgo
 have hva0 : va = #[] := Array.eq_empty_of_size_eq_zero (by have := hva.1; simpa using this.symm)
 subst hva0
 refine wpIn_rangeFunc fun fn _ => ?_
 obtain ⟨D, hD⟩ : ∃ D, D = w.heap.size := ⟨_, rfl⟩
 obtain ⟨l, hl⟩ : ∃ l, l = w.heap.size + 1 := ⟨_, rfl⟩
 obtain ⟨rec, hrec⟩ : ∃ rec : LoopState → Option Code → Loop, rec = fun st pe => { state := st, pending := pe, fn, tmps := a.tmps, params := #[p1, p2], assign, body, defers := w.heap.size } := ⟨_, rfl⟩
 obtain ⟨W1, hW1⟩ : ∃ W1, (w.alloc (.deferred (some []))).alloc (.loop (rec .ready none)) = W1 := ⟨_, rfl⟩
 have hx1 : Ext w S W1 S := by rw [← hW1]; exact (Ext.alloc w S _).trans (Ext.alloc _ S _)
 have hS1 : InH W1 S := InH.ext hx1 r.sl
 have hL1 : W1.heap[l]? = some (.loop (rec .ready none)) := by
  rw [← hW1, hl]; have := World.alloc_heap_new (w.alloc (.deferred (some []))) (.loop (rec .ready none)); rwa [World.size_alloc] at this
 have hD1 : W1.heap[D]? = some (.deferred (some [])) := by
  rw [← hW1, hD]; exact (Below.heap_alloc _ _ _ (by simp)).trans (World.alloc_heap_new w _)
 have hcl : c.w0.heap.size ≤ l := by rw [hl]; exact Nat.le_trans r.ex.size (Nat.le_succ _)
 have hDl : D ≠ l := by omega
 have hZl : ∀ x ∈ K.Z, x.1 < w.heap.size := fun x hx => (Array.getElem?_eq_some_iff.1 (z x hx).1).1
 let Zr : Obj → List (Nat × Obj) := fun o => (l, o) :: (D, .deferred (some [])) :: K.Z
 have zput : ∀ {w' : World} {o : Obj} (o' : Obj), Xi o' = false → Zed w' (Zr o) → Zed (w'.putObj l o') (Zr o') := by
  intro w' o o' ho' zz x hx
  rcases List.mem_cons.1 hx with rfl | hx
  ·exact ⟨World.putObj_heap_same (Array.getElem?_eq_some_iff.1 (zz (l, o) (List.mem_cons_self ..)).1).1, ho'⟩
  ·have h1 := zz x (List.mem_cons_of_mem _ hx)
   have hne : x.1 ≠ l := by
    rcases List.mem_cons.1 hx with rfl | hx
    ·exact hDl
    ·have := hZl x hx; omega
   exact ⟨(World.putObj_heap_other hne).trans h1.1, h1.2⟩
 let J : Nat → World → Da → Prop := fun k W S => ∃ g H, pre k g ∧ Rel c ⟨t, mm g⟩ a W S H ∧ Zed W (Zr (.loop (rec .ready none)))
 let Jx : World → Da → Prop := fun W S => ∃ jc g H, jmp jc g ∧ (jc = .ret ∨ ∃ id, jc = .exit id) ∧ Rel c ⟨t, mm g⟩ a W S H ∧ Zed W (Zr (.loop (rec .done (some jc))))
 have hJ0 : J 0 W1 S := by
  refine ⟨g0, H, h0, by rw [← hm]; exact r.ext hx1 hS1, fun x hx => ?_⟩
  rcases List.mem_cons.1 hx with rfl | hx
  ·exact ⟨hL1, rfl⟩
  ·rcases List.mem_cons.1 hx with rfl | hx
   ·exact ⟨hD1, rfl⟩
   ·exact (z.ext hx1) x hx
 have hcapR : LsR (Rep W1 S) cap vb.toList := by
  refine ⟨hvb.1, fun j x v h1 h2 => ?_⟩
  exact Rep.mono (hx1.keeps r.sl) (Hw.rep (hvb.2 j x v h1 h2) ((List.all_eq_true.1 hcap) x (List.mem_of_getElem? h1)))
 have hev : (dsl a K.ds).eval go = .func (.func fc) #[] vb := by rw [Yf]; exact hgv
 refine ⟨l, [U0 D], W1, { target := .fn (.func fc) vb, args := #[.func (.yield l) #[] #[]] }, W1, fc, #[.func (.yield l) #[] #[]] ++ vb, W1, ?_, ?_, fun _ _ => trivial, ?_, fun hh => (by simp [FW, Fence.wide] at hh), ?_⟩
 ·rw [← hW1, hrec, hl, hD]; exact run_enterLoop_outer _ _ _ _ _
 ·simp only [resolve, hev]
  simp [Deferred.ofValue, Act.eval]
 ·simp [invoke, hfc.run]
 ·refine X3 ((hit l J Jx W1 S vb ?_ ?_ ?_ hJ0 hS1 hcapR).mono ?_)
  ·rintro k w S w' S' ⟨g, H, h1, h2, h3⟩ hx hin
   exact ⟨g, H, h1, h2.ext hx hin, h3.ext hx⟩
  ·rintro w S w' S' ⟨jc, g, H, h1, h1', h2, h3⟩ hx hin
   exact ⟨jc, g, H, h1, h1', h2.ext hx hin, h3.ext hx⟩
  ·
   rintro k x0 y W S v u hxy ⟨g, H, hp, r1, z1⟩ hin hv hu
   have hl1 : W.heap[l]? = some (.loop (rec .ready none)) := (z1 (l, _) (List.mem_cons_self ..)).1
   have hy := run_yield (P := P) (args := #[v, u]) hl1 (by rw [hrec]; rfl)
   rw [hrec] at hy
   have r2 : Rel c ⟨upd (upd t p1 (.s x0)) p2 (.s y), mm g⟩ ((a.put (some p1) v).put (some p2) u) W S H :=
    (r1.put hp1' (show AVR _ (.s x0) v from SVR.mono (fun _ _ h => C1.of_rep h) hv)).put hp2' (show AVR _ (.s y) u from SVR.mono (fun _ _ h => C1.of_rep h) hu)
   refine ⟨fn, _, assign, body, hy, roundIn_of_wpIn trivial ?_⟩
   have hA := round k x0 y g l hxy hp W S (Aoa (mm g) H) H (fun st hs => hs) ⟨[], Zr (.loop (rec .ready none))⟩ rfl _ W S H r2.now z1
   have hact : dsl ((a.put (some p1) v).put (some p2) u) [] = { tmps := (#[p1, p2].zip #[v, u]).foldl (fun t (x : Tmp × Value) => t.setIfInBounds x.1 x.2) a.tmps, defers := [] } := by simp [dsl, Act.put]
   rw [hact] at hA
   refine wpIn_mono hA ?_
   rintro e a1 w1 ⟨K1, st1, S1, H1, a10, hok1, hz1, rfl, r3, z3, hq1⟩
   cases e with
   | normal =>
    have hK1 : K1.ds = [] := hok1
    have z3' : Zed w1 (Zr (.loop (rec .ready none))) := fun x hx => z3 x (hz1 x hx)
    have hl3 : w1.heap[l]? = some (.loop (rec .ready none)) := (z3' (l, _) (List.mem_cons_self ..)).1
    refine ⟨_, run_beginRound hl3 (by rw [hrec]), ?_⟩
    have r3c : Rel c st1 a10 w1 S1 H1 := r2.then_now r3
    have hb3 : ({ rec .ready none with state := .busy } : Loop) = rec .busy none := by rw [hrec]
    rw [hb3]
    have r4 : Rel c st1 a10 (w1.putObj l (.loop (rec .busy none))) S1 H1 := r3c.putObj _ hl3 rfl rfl hcl
    have z4 := zput (.loop (rec .busy none)) rfl z3'
    have hB := hq1 (w1.putObj l (.loop (rec .busy none))) S1 (Aoa st1.m H1) H1 (fun st hs => hs) ⟨[], Zr (.loop (rec .busy none))⟩ rfl a10 _ S1 H1 r4.now z4
    rw [hK1]
    refine wpIn_mono hB ?_
    have fin : ∀ (st' : AS) (a0' : Act) (w3 : World) (S3 : Da) (H3 : Nat → Value) (K3 : FrK) (g' : G) (ex : List Blk) (o' : Obj), (∀ z ∈ Zr (.loop (rec .busy none)), z ∈ K3.Z) → Rel (c.now st1 (w1.putObj l (.loop (rec .busy none))) S1 H1) st' a0' w3 S3 H3 → Zed w3 K3.Z → st'.m = mm g' ++ ex → Xi o' = false →
      w3.heap[l]? = some (.loop (rec .busy none)) ∧ Ajy W S (w3.putObj l o') S3 ∧ ∃ H4, Rel c ⟨t, mm g'⟩ a (w3.putObj l o') S3 H4 ∧ Zed (w3.putObj l o') (Zr o') := by
     intro st' a0' w3 S3 H3 K3 g' ex o' hz3 r5 z5 hm' ho'
     have z5' : Zed w3 (Zr (.loop (rec .busy none))) := fun x hx => z5 x (hz3 x hx)
     have hl5 : w3.heap[l]? = some (.loop (rec .busy none)) := (z5' (l, _) (List.mem_cons_self ..)).1
     have hc2 := Su (o' := .loop (rec .busy none)) hl3 rfl rfl
     have hc4 := Su (o' := o') hl5 rfl ho'
     have r5' : Rel (c.now st1 (w1.putObj l (.loop (rec .busy none))) S1 H1) ⟨st'.t, mm g' ++ ex⟩ a0' w3 S3 H3 := by rw [← hm']; exact r5
     have r6 : Rel c ⟨st'.t, mm g' ++ ex⟩ a0' w3 S3 H3 := r4.then_now r5'
     have r7 := (r6.putObj o' hl5 rfl ho' hcl).trim (t' := fun _ => .top) (fun _ => .inl rfl) (hmin g') (by rw [hlen]; have := r.kl; exact this)
     refine ⟨hl5, ⟨fun b i hs => ?_, r7.sl⟩, H3, r7.swap r1.nt r1.df (fun i => ?_), zput o' ho' z5'⟩
     ·have s1 := r3.ex.sub b i hs
      refine ⟨r5.ex.sub b i s1, ?_⟩
      exact (hc4 _).trans ((r5.ex.stab b i s1).trans ((hc2 _).trans (r3.ex.stab b i hs)))
     ·refine AVR.mono (fun x v hx => ?_) (r1.tm i)
      have e3 : C1 w3 S3 (mm g') H3 x v := by
       have hl0 : (mm g).length = m.length := hlen g
       have hl1 : (mm g).length ≤ st1.m.length := r3.kl
       refine C1.mono2 (fun b i hs => ?_) (by rw [hlen g', hl0]; exact Nat.le_refl _) (fun p gg hp hh => ?_) (fun p hp hne => r5.ku p (Nat.lt_of_lt_of_le hp hl1) (r3.ku p hp hne)) (fun p e sz k cs hp hm => ?_) hx
       ·have s1 := r3.ex.sub b i hs
        exact ⟨r5.ex.sub b i s1, (r5.ex.stab b i s1).trans ((hc2 _).trans (r3.ex.stab b i hs))⟩
       ·have h1 : H1 p = H p := r3.kh p gg hp hh
        exact (r5.kh p gg (Nat.lt_of_lt_of_le hp hl1) (h1.trans hh)).trans h1
       ·have hm2 : (mm g' ++ ex)[p]? = some (.arr e sz k cs) := by rw [List.getElem?_append_left (by rw [hlen g', ← hl0]; exact hp)]; exact hm
        obtain ⟨k1, cs1, q1, q2⟩ := r5'.kr p e sz k cs (Nat.lt_of_lt_of_le hp hl1) hm2
        obtain ⟨k2, cs2, q3, q4⟩ := r3.kr p e sz k1 cs1 hp q1
        refine ⟨k2, cs2, q3, ?_⟩
        rcases q2 with ⟨q2, q5⟩ | q2 <;> rcases q4 with ⟨q4, q6⟩ | q4
        ·exact .inl ⟨q4.trans q2, q5.trans q6⟩
        ·exact .inr (by omega)
        ·exact .inr (by omega)
        ·exact .inr (by omega)
      exact C1.mono (fun b i hs => ⟨hs, hc4 _⟩) (Nat.le_refl _) (fun _ _ => rfl) (fun p e sz k cs _ hm => ⟨k, cs, hm, rfl⟩) e3
    rintro e a3 w3 ⟨K3, st', S3, H3, a0', hok3, hz3, rfl, r5, z5, hq3⟩
    cases e with
    | normal =>
     obtain ⟨g', ex, hp', hm'⟩ := hq3
     obtain ⟨hl5, hks, H4, hr4, hz4⟩ := fin st' a0' w3 S3 H3 K3 g' ex (.loop (rec .ready none)) hz3 r5 z5 hm' rfl
     have he := run_endRound (P := P) none hl5
     rw [hrec] at he
     refine ⟨_, _, he, true, S3, rfl, ?_, ?_⟩
     ·rw [hrec] at hks; exact hks
     ·refine ⟨g', H4, hp', ?_, ?_⟩
      ·rw [hrec] at hr4; exact hr4
      ·rw [hrec] at hz4; rw [hrec]; exact hz4
    | ret =>
     obtain ⟨g', ex, hp', hm'⟩ := hq3
     obtain ⟨hl5, hks, H4, hr4, hz4⟩ := fin st' a0' w3 S3 H3 K3 g' ex (.loop (rec .done (some .ret))) hz3 r5 z5 hm' rfl
     have he := run_endRound (P := P) (some .ret) hl5
     rw [hrec] at he
     refine ⟨_, _, he, false, S3, rfl, ?_, ?_⟩
     ·rw [hrec] at hks; exact hks
     ·refine ⟨.ret, g', H4, hp', .inl rfl, ?_, ?_⟩
      ·rw [hrec] at hr4; exact hr4
      ·rw [hrec] at hz4; rw [hrec]; exact hz4
    | exit id =>
     obtain ⟨g', ex, hp', hm'⟩ := hq3
     obtain ⟨hl5, hks, H4, hr4, hz4⟩ := fin st' a0' w3 S3 H3 K3 g' ex (.loop (rec .done (some (.exit id)))) hz3 r5 z5 hm' rfl
     have he := run_endRound (P := P) (some (.exit id)) hl5
     rw [hrec] at he
     refine ⟨_, _, he, false, S3, rfl, ?_, ?_⟩
     ·rw [hrec] at hks; exact hks
     ·refine ⟨.exit id, g', H4, hp', .inr ⟨id, rfl⟩, ?_, ?_⟩
      ·rw [hrec] at hr4; exact hr4
      ·rw [hrec] at hz4; rw [hrec]; exact hz4
    | goto lb => exact absurd hq3 id
    | panic ch => exact absurd hq3 id
    | outgrown => exact absurd hq3 id
   | _ => exact hq1
  ·
   rintro e w5 ⟨v, S5, rfl, hin, hj⟩
   have okK : okO c ⟨U0 D :: K.ds, (D, .deferred (some [])) :: K.Z⟩ := by
    refine ⟨D :: Ds, by rw [hds]; rfl, by rw [hZ]; rfl, List.nodup_cons.2 ⟨fun hm => ?_, hnd⟩, fun D' h => ?_⟩
    ·have := hZl (D, .deferred (some [])) (by rw [hZ]; exact List.mem_map.2 ⟨D, hm, rfl⟩)
     simp only at this
     omega
    ·rcases List.mem_cons.1 h with rfl | h
     ·rw [hD]; exact r.ex.size
     ·exact hge D' h
   rcases hj with ⟨g, H5, hp, r5, z5⟩ | ⟨jc, g, H5, hp, hjc, r5, z5⟩
   ·have hl5 : w5.heap[l]? = some (.loop (rec .ready none)) := (z5 (l, _) (List.mem_cons_self ..)).1
    have he := run_endLoop (P := P) hl5 (by rw [hrec]; simp)
    refine ⟨_, _, he, ?_⟩
    rw [hrec]
    exact ⟨⟨U0 D :: K.ds, (D, .deferred (some [])) :: K.Z⟩, _, S5, H5, a, okK, fun x hx => List.mem_cons_of_mem _ hx, rfl, r5.putObj _ hl5 rfl rfl hcl, fun x hx => (zput (.loop _) rfl z5) x (List.mem_cons_of_mem _ hx), done g hp⟩
   ·have hl5 : w5.heap[l]? = some (.loop (rec .done (some jc))) := (z5 (l, _) (List.mem_cons_self ..)).1
    have he := run_endLoop (P := P) hl5 (by rw [hrec]; simp)
    refine ⟨_, _, he, ?_⟩
    rw [hrec]
    have post : ∀ e, Q e ⟨t, mm g⟩ → QI c (okO c) K Q e (dsl a (U0 D :: K.ds)) (w5.putObj l (.loop { ({ state := .done, pending := some jc, fn, tmps := a.tmps, params := #[p1, p2], assign, body, defers := w.heap.size } : Loop) with state := .exhausted })) := fun e hqe =>
     ⟨⟨U0 D :: K.ds, (D, .deferred (some [])) :: K.Z⟩, _, S5, H5, a, okK, fun x hx => List.mem_cons_of_mem _ hx, rfl, r5.putObj _ hl5 rfl rfl hcl, fun x hx => (zput (.loop _) rfl z5) x (List.mem_cons_of_mem _ hx), hqe⟩
    rcases hjc with rfl | ⟨id, rfl⟩
    ·exact wpIn_ret (post _ (hret g hp))
    ·exact wpIn_exit (post _ (hex id g hp))
end
end Go.Proofs.YtbjckaahoacbfaaGreatDoor.Abs
namespace Go.Proofs.YtbjckaahoacbfaaGreatDoor.Abs
open Go.RowKit
section
variable {P : Program} {c : Ctx} {ops : Array Oper} {Q : Exit → AS → Prop} {rest : List Oper} {ty : TypeId} {pos : String} {af : Array Edge} {d : Tmp} {t : Nat → AV} {m : List Blk}
theorem Am9 {t' : TypeId} {y : Operand} {x : SV} (hd : decide (d < c.nt) = true) (hx : Ch ⟨t, m⟩ y = .s x) (hpub : x.cells.all Lf.pubd = true)
  (k : AWL P c ops Q rest ⟨upd t d (.s (.one (.cp x.cells))), m⟩) : AWL P c ops Q (⟨some d, .box t' y, ty, pos, af, none⟩ :: rest) ⟨t, m⟩ := by
 intro a w S H r
 have h := Bn r y
 rw [hx] at h
 have hls := Q6 h (fun l v => C1.oneCell)
 obtain ⟨cells, hce⟩ : ∃ cells, cells = (a.eval y).cells := ⟨_, rfl⟩
 rw [← hce] at hls
 have hrun : (execOp a.eval ⟨some d, .box t' y, ty, pos, af, none⟩).run P w = .ok (.value (.pointer (some ⟨w.heap.size, 0, none⟩))) (w.alloc (.cells cells t')) := by
  rw [hce]; simp [execOp, Instr.box, newVar, newRow]
 let S' : Da := fun b i => S b i ∨ (b = w.heap.size ∧ i < cells.size)
 have hx1 : Ext w S (w.alloc (.cells cells t')) S' := ⟨rfl, rfl, rfl, by simp, fun b hb => Below.heap_alloc w _ b hb, fun _ _ h => .inl h, fun b i hb h => by
  rcases h with h | ⟨h, _⟩
  ·exact h
  ·omega⟩
 have hin : InH (w.alloc (.cells cells t')) S' := ⟨fun b i hs => by
  rcases hs with hs | ⟨rfl, _⟩
  ·exact Nat.lt_of_lt_of_le (r.sl.1 b i hs) hx1.size
  ·simp, r.sl.2.mono (hx1.keeps r.sl)⟩
 refine wpList_plain rfl fun K hK => ?_
 unfold Oper.wp
 rw [hrun]
 refine hK _ _ (k _ _ _ _ ((r.ext hx1 hin).put (of_decide_eq_true hd) ?_))
 have hrep : Rep (w.alloc (.cells cells t')) S' (.cp x.cells) (.pointer (some ⟨w.heap.size, 0, none⟩)) := by
  have hcell : ∀ j, (w.alloc (.cells cells t')).cell? ⟨w.heap.size, j, none⟩ = cells[j]? := fun j => by
   unfold World.cell?
   rw [show (w.alloc (.cells cells t')).heap[(⟨w.heap.size, j, none⟩ : Addr).block]? = some (.cells cells t') from heap_alloc_new w _]
   rfl
  have hj : ∀ (j : Nat) (l : Lf), x.cells[j]? = some l → ∃ v, cells[j]? = some v ∧ C1 w S m H l v := fun j l hl => by
   obtain ⟨v, h1, h2⟩ := hls.get hl
   exact ⟨v, by simpa using h1, h2⟩
  refine .cp x.cells w.heap.size 0 (fun j => cells.getD j undef) (fun j l hl => ?_) (fun j l hl => ?_)
  ·obtain ⟨v, h1, h2⟩ := hj j l hl
   rw [Nat.zero_add]
   refine ⟨.inr ⟨rfl, (Array.getElem?_eq_some_iff.1 h1).1⟩, (hcell j).trans ?_⟩
   simp [h1]
  ·obtain ⟨v, h1, h2⟩ := hj j l hl
   have : cells.getD j undef = v := by simp [h1]
   rw [this]
   exact Rep.mono (hx1.keeps r.sl) (C1.rep h2 ((List.all_eq_true.1 hpub) l (List.mem_of_getElem? hl)))
 exact hrep
end
abbrev YK := World → Da → Prop
def Aqq (K : YK) : Prop := ∀ w S w' S', K w S → Ext w S w' S' → InH w' S' → K w' S'
def QY (nt : Nat) (Q : Exit → (Nat → AV) → YK → Prop) : Exit → Act → World → Prop := fun e a w => ∃ t S H K, Rel (Ctx.of w S nt) ⟨t, []⟩ a w S H ∧ K w S ∧ Q e t K
def Akf (Q : Exit → (Nat → AV) → YK → Prop) : Prop := ∀ t K, ¬ Q .outgrown t K
def Alx (n : (Nat → AV) → YK → Prop) (Q : Exit → (Nat → AV) → YK → Prop) : Exit → (Nat → AV) → YK → Prop
 | .normal, t, K => n t K
 | e, t, K => Q e t K
def Ym (id : Nat) (Q : Exit → (Nat → AV) → YK → Prop) : Exit → (Nat → AV) → YK → Prop
 | .exit id', t, K => if id' = id then Q .normal t K else Q (.exit id') t K
 | e, t, K => Q e t K
def AWY (P : Program) (nt : Nat) (x : Code) (Q : Exit → (Nat → AV) → YK → Prop) (K : YK) (t : Nat → AV) : Prop :=
 Akf Q → ∀ a w S H, Rel (Ctx.of w S nt) ⟨t, []⟩ a w S H → K w S → x.wpIn Fence.wide 0 P (QY nt Q) a w
def Aj6 (P : Program) (nt : Nat) (ops : Array Oper) (Q : Exit → (Nat → AV) → YK → Prop) (K : YK) (l : List Oper) (t : Nat → AV) : Prop :=
 Akf Q → ∀ a w S H, Rel (Ctx.of w S nt) ⟨t, []⟩ a w S H → K w S → wpListIn Fence.wide 0 P ops (QY nt Q) l a w
theorem Rel.here {c : Ctx} {t : Nat → AV} {a : Act} {w : World} {S : Da} {H : Nat → Value} {nt : Nat} (hn : c.nt = nt) (r : Rel c ⟨t, []⟩ a w S H) : Rel (Ctx.of w S nt) ⟨t, []⟩ a w S H :=
 ⟨r.nt.trans hn, r.df, r.tm, fun p b h => by simp at h, fun p b g h => by simp at h, fun p q b b' g h => by simp at h, fun p b g i h => by simp at h, r.sl, Vb.refl _ w S, Nat.zero_le _, fun p g h => absurd h (Nat.not_lt_zero _), fun p e sz k cs h => absurd h (Nat.not_lt_zero _), fun p h => absurd h (Nat.not_lt_zero _)⟩
theorem Rel.kept {t : Nat → AV} {a : Act} {w w' : World} {S S' : Da} {H : Nat → Value} {nt : Nat} (r : Rel (Ctx.of w S nt) ⟨t, []⟩ a w S H) (h : Ajy w S w' S') : Rel (Ctx.of w' S' nt) ⟨t, []⟩ a w' S' H :=
 ⟨r.nt, r.df, fun i => AVR.mono (fun l v => C1.mono h.st (Nat.le_refl _) (fun _ _ => rfl) (fun p e sz k cs hp _ => by simp at hp)) (r.tm i), fun p b h => by simp at h, fun p b g h => by simp at h, fun p q b b' g h => by simp at h, fun p b g i h => by simp at h, h.sl, Vb.refl _ w' S', Nat.zero_le _, fun p g h => absurd h (Nat.not_lt_zero _), fun p e sz k cs h => absurd h (Nat.not_lt_zero _), fun p h => absurd h (Nat.not_lt_zero _)⟩
theorem Q3 {F : Fence} {n : Nat} {P : Program} {ops : Array Oper} {Q : Exit → Act → World → Prop} {l2 : List Oper} : ∀ (l1 : List Oper) (a : Act) (w : World), wpListIn F n P ops (Exit.then (wpListIn F n P ops Q l2) Q) l1 a w → wpListIn F n P ops Q (l1 ++ l2) a w
 | [], a, w, h => h
 | o :: l1, a, w, h => by
  have ih := Q3 (F := F) (n := n) (P := P) (ops := ops) (Q := Q) (l2 := l2) l1
  simp only [List.cons_append]
  unfold wpListIn at h ⊢
  split at h
  ·rename_i hw
   rw [if_pos hw]
   obtain ⟨h1, h2⟩ := h
   refine ⟨h1, ?_⟩
   generalize (o.semAt F.round a.eval).run P w = r at h2
   have hlet : LetsOut (Exit.then (wpListIn F n P ops Q l2) Q) → LetsOut Q := fun ⟨a, w, h⟩ => ⟨a, w, h⟩
   cases r with
   | ok nx w' =>
    cases nx with
    | value v => exact ih _ _ h2
    | skip => exact ih _ _ h2
    | defer d => exact ih _ _ h2
    | enter f args =>
     refine ⟨h2.1, h2.2.mono fun e w'' hr => ?_⟩
     cases e with
     | returned v => exact ih _ _ hr
     | panicked ch => exact hr
     | outgrown => exact hlet hr
    | row row args => exact ⟨h2.1, h2.2.mono fun v w'' hr => ih _ _ hr⟩
    | round l f tmps ag bd =>
     refine ⟨h2.1, h2.2.mono fun e w'' hr => ?_⟩
     cases e with
     | returned v => exact ih _ _ hr
     | panicked ch => exact hr
     | outgrown => exact hlet hr
    | _ => exact absurd h2 id
   | halt x w' =>
    cases x with
    | panic v => exact h2
    | _ => exact absurd h2 id
  ·rename_i hw
   rw [if_neg hw]
   exact ⟨h.1, ih _ _ h.2⟩
section
variable {P : Program} {nt : Nat} {Q : Exit → (Nat → AV) → YK → Prop} {K : YK} {t : Nat → AV}
theorem Aid {x y : Code} (h : AWY P nt x (Alx (fun t K => AWY P nt y Q K t) Q) K t) : AWY P nt (.seq x y) Q K t := by
 intro hn a w S H r hK
 refine wpIn_seq (wpIn_mono (h (fun t K hs => hn t K hs) a w S H r hK) ?_)
 rintro e a w ⟨t, S, H, K, r, hK, hq⟩
 cases e with
 | normal => exact hq hn a w S H r hK
 | _ => exact ⟨t, S, H, K, r, hK, hq⟩
theorem Vj {n : (Nat → AV) → YK → Prop} (h : n t K) : Alx n Q .normal t K := h
theorem Avj {id : Nat} (h : Q .normal t K) : Ym id Q .normal t K := h
theorem Am1 (h : Q .normal t K) : AWY P nt .skip Q K t := fun _ _ _ S H r hK => wpIn_skip ⟨t, S, H, K, r, hK, h⟩
theorem Asg {id : Nat} (h : Q (.exit id) t K) : AWY P nt (.exit id) Q K t := fun _ _ _ S H r hK => wpIn_exit ⟨t, S, H, K, r, hK, h⟩
theorem Aut (h : Q .ret t K) : AWY P nt .ret Q K t := fun _ _ _ S H r hK => wpIn_ret ⟨t, S, H, K, r, hK, h⟩
theorem Akn {id : Nat} {x : Code} (h : AWY P nt x (Ym id Q) K t) : AWY P nt (.block id x) Q K t := by
 intro hn a w S H r hK
 refine wpIn_block (wpIn_mono (h (fun t K hs => hn t K hs) a w S H r hK) ?_)
 rintro e a w ⟨t, S, H, K, r, hK, hq⟩
 cases e with
 | exit id' =>
  simp only [Ym] at hq
  simp only [Exit.inBlock]
  split
  ·rename_i h; rw [if_pos h] at hq; exact ⟨t, S, H, K, r, hK, hq⟩
  ·rename_i h; rw [if_neg h] at hq; exact ⟨t, S, H, K, r, hK, hq⟩
 | _ => exact ⟨t, S, H, K, r, hK, hq⟩
theorem Ai6 {o : Operand} {x y : Code} {b : Bool} (ho : Ch ⟨t, []⟩ o = .s (.one (.b b))) (h1 : b = true → AWY P nt x Q K t) (h0 : b = false → AWY P nt y Q K t) : AWY P nt (.cond o x y) Q K t := by
 intro hn a w S H r hK
 have h := Bn r o
 rw [ho] at h
 have hv : a.eval o = .bool b := R9 (h : Rep w S (.b b) (a.eval o))
 exact wpIn_cond_split hv (fun hb => h1 hb hn a w S H r hK) (fun hb => h0 hb hn a w S H r hK)
theorem Akb {ops : Array Oper} {l1 l2 : List Oper} (hK : Aqq K) (hnd : l1.all ndf = true) (h : ∀ w0 S0, AWL P (Ctx.of w0 S0 nt) ops (fun e st => e = .normal ∧ st.m = [] ∧ Aj6 P nt ops Q K l2 st.t) l1 ⟨t, []⟩) : Aj6 P nt ops Q K (l1 ++ l2) t := by
 intro hn a w S H r hk
 refine Q3 l1 a w ?_
 have h1 := We (rd := none) (ds := []) (Q1 := QR (Ctx.of w S nt) (fun e st => e = .normal ∧ st.m = [] ∧ Aj6 P nt ops Q K l2 st.t)) (Q2 := Exit.then (wpListIn Fence.wide 0 P ops (QY nt Q) l2) (QY nt Q)) ?_ ?_ ?_ l1 hnd a w (h w S a w S H r)
 ·rw [Ac4 r.df] at h1
  exact h1
 ·rintro ⟨a, w, st, S, H, _, h, _⟩; cases h
 ·rintro e a w ⟨st, S, H, r, _⟩; exact r.df
 ·rintro e a' w' ⟨⟨t', m'⟩, S', H', r', rfl, hm, h⟩
  have hm' : m' = [] := hm
  subst hm'
  rw [Ac4 r'.df]
  exact h hn a' w' S' H' (r'.here rfl) (hK _ _ _ _ hk (r'.ex.toExt (fun _ h => h)) r'.sl)
theorem Tn {ops : Array Oper} (h : Q .normal t K) : Aj6 P nt ops Q K [] t := fun _ _ _ S H r hK => ⟨t, S, H, K, r, hK, h⟩
theorem Agx {id : Nat} {l : List Oper} (h : Aj6 P nt l.toArray Q K l t) : AWY P nt (.region id l.toArray false) Q K t := fun hn a w S H r hK => wpIn_region_lit (h hn a w S H r hK)
theorem Wc {id : Nat} {l : List Oper} (hK : Aqq K) (hnd : l.all ndf = true) (h : ∀ w0 S0, AWL P (Ctx.of w0 S0 nt) l.toArray (fun e st => e = .normal ∧ st.m = [] ∧ Aj6 P nt l.toArray Q K [] st.t) l ⟨t, []⟩) : AWY P nt (.region id l.toArray false) Q K t := by
 refine Agx ?_
 have h1 := Akb (l2 := []) hK hnd h
 rwa [List.append_nil] at h1
def Apl (P : Program) (l : Nat) (J : Nat → YK) (Jx : YK) (L : List (SV × SV)) : Prop :=
 ∀ k x y w S v u, L[k]? = some (x, y) → J k w S → InH w S → SVR (Rep w S) x v → SVR (Rep w S) y u →
   ∃ fn tmps assign body, (Instr.yield l #[v, u]).run P w = .ok (.round l fn tmps assign body) w ∧
    RoundIn Fence.wide 0 P l fn tmps assign body w (fun e w' => ∃ b S', e = .returned (.bool b) ∧ Ajy w S w' S' ∧ (if b then J (k + 1) w' S' else Jx w' S'))
theorem Agm {w : World} {S : Da} {H : Nat → Value} {x : SV} {v : Value} (h : SVR (C1 w S [] H) x v) : SVR (Rep w S) x v := by
 have h0 : ∀ l v, Hw w S [] H l v → Rep w S l v := fun l v h => by
  cases l with
  | lp p off => exact absurd h.1 (Nat.not_lt_zero _)
  | ls p n => exact absurd h.1 (Nat.not_lt_zero _)
  | ap p n off => exact absurd h.1 (Nat.not_lt_zero _)
  | mp k p => exact absurd h.1 (Nat.not_lt_zero _)
  | _ => exact h
 refine SVR.mono (fun l v h => ?_) h
 cases l with
 | lp p off => exact absurd h.1 (Nat.not_lt_zero _)
 | ls p n => exact absurd h.1 (Nat.not_lt_zero _)
 | ap p n off => exact absurd h.1 (Nat.not_lt_zero _)
 | mp k p => exact absurd h.1 (Nat.not_lt_zero _)
 | fn f a b =>
  obtain ⟨va, vb, rfl, h1, h2⟩ := h
  refine .fn f a b va vb (by simpa using h1.1) (by simpa using h2.1) (fun j l v hl hv => h0 _ _ (h1.2 j l v hl (by simpa using hv))) (fun j l v hl hv => h0 _ _ (h2.2 j l v hl (by simpa using hv)))
 | _ => exact h0 _ _ h
theorem Aiq {ops : Array Oper} {rest : List Oper} {o : Oper} {d : Tmp} {ty : Tmp} {ax ay : Operand} {ats : Array TypeId} {l : Nat} {J : Nat → YK} {Jx : YK} {L : List (SV × SV)} {k : Nat} {x y : SV}
  (ho : o.op = .call { callee := .value (.tmp ty), args := #[ax, ay], argTypes := ats }) (hod : o.dst = some d) (hw : ∀ a w S H, Rel (Ctx.of w S nt) ⟨t, []⟩ a w S H → Region.wanted o (yielded ops a.tmps) = true)
  (hs : Apl P l J Jx L) (hd : decide (d < nt) = true) (hy : t ty = .s (.one (.raw (.func (.yield l) #[] #[])))) (hx : Ch ⟨t, []⟩ ax = .s x) (hyy : Ch ⟨t, []⟩ ay = .s y) (hL : L[k]? = some (x, y))
  (h1 : Aj6 P nt ops Q (J (k + 1)) rest (upd t d (.s (.one (.b true))))) (h0 : Aj6 P nt ops Q Jx rest (upd t d (.s (.one (.b false))))) : Aj6 P nt ops Q (J k) (o :: rest) t := by
 intro hn a w S H r hK
 have e1 := Bn r ax
 rw [hx] at e1
 have e2 := Bn r ay
 rw [hyy] at e2
 have e3 := r.tm ty
 have e3' : AVR (C1 w S [] H) (t ty) (a.tmps.getD ty undef) := e3
 rw [hy] at e3'
 have hv : a.tmps.getD ty undef = .func (.yield l) #[] #[] := Ma e3'
 obtain ⟨fn, tmps, assign, body, hrun, hround⟩ := hs k x y w S (a.eval ax) (a.eval ay) hL hK r.sl (Agm e1) (Agm e2)
 have hev : (execOp a.eval o).run P w = .ok (.round l fn tmps assign body) w := by
  obtain ⟨odst, oop, oty, opos, oaf, og⟩ := o
  simp only at ho
  subst ho
  have hv' : a.eval (.tmp ty) = .func (.yield l) #[] #[] := hv
  simp only [execOp, resolve, hv', Deferred.ofValue, Sem.run_bind]
  simpa [invoke] using hrun
 have hsem : o.semAt Fence.wide.round a.eval = execOp a.eval o := Oper.semAt_none _ _
 unfold wpListIn
 rw [if_pos (hw a w S H r)]
 refine ⟨fun _ _ => trivial, ?_⟩
 rw [hsem, hev]
 refine ⟨fun hh => (by simp [Fence.wide] at hh), ?_⟩
 refine hround.mono ?_
 rintro e w' ⟨b, S', rfl, hk, hj⟩
 have r' := (r.kept hk).put (d := d) (x := .s (.one (.b b))) (v := .bool b) (of_decide_eq_true hd) (show AVR _ (.s (.one (.b b))) _ from Rep.b b)
 rw [hod]
 cases b with
 | true => exact h1 hn _ _ _ _ (r'.here rfl) hj
 | false => exact h0 hn _ _ _ _ (r'.here rfl) hj
theorem Aq9 {body : Code} {G : Type} (sl : G → List (Nat × AV)) (KK : G → YK) (pre : G → Prop) (μ : G → Nat) (g0 : G) (p0 : pre g0) (s0 : V0 t (sl g0)) (hK0 : K = KK g0) (hin : ∀ g, pre g → Air 0 (sl g))
  (round : ∀ g, pre g → AWY P nt body (Alx (fun t' K' => ∃ g', pre g' ∧ V0 t' (sl g') ∧ K' = KK g' ∧ μ g' < μ g) Q) (KK g) (Aco (fun _ => .top) (sl g))) : AWY P nt (.loop body) Q K t := by
 subst hK0
 intro hn a w S H r hK b k cs hro hb hr
 have key : ∀ n, ∀ g a w S H, pre g → μ g = n → Rel (Ctx.of w S nt) ⟨Aco (fun _ => .top) (sl g), []⟩ a w S H → KK g w S →
   ∃ e a' w', QY nt Q e a' w' ∧ ArrivesIn (Machine.fenced P Fence.wide) P (lone (b.atR a (.code body :: .inLoop body :: k)) cs w) b k cs e a' w' := by
  intro n
  induction n using Nat.strongRecOn with
  | _ n ih =>
   intro g a w S H hp hμ r hK
   obtain ⟨e, a₁, w₁, hqq, harr⟩ := round g hp (fun t K hs => hn t K hs) a w S H r hK b (.inLoop body :: k) cs hro hb hr
   obtain ⟨t', S', H', K', r', hK', hqq⟩ := hqq
   cases e with
   | normal =>
    obtain ⟨g', hp', hs', rfl, hlt⟩ := hqq
    have rt : Rel (Ctx.of w₁ S' nt) ⟨Aco (fun _ => .top) (sl g'), []⟩ a₁ w₁ S' H' := r'.weak fun i => by
     rcases N7 hs' (hin g' hp') i with h | h
     ·exact .inr h
     ·exact .inl h.1
    obtain ⟨e₂, a₂, w₂, hq₂, harr₂⟩ := ih (μ g') (hμ ▸ hlt) g' a₁ w₁ S' H' hp' rfl rt hK'
    exact ⟨e₂, a₂, w₂, hq₂, .of_steps (StepsIn.trans harr (.one (fenced_calm (n := 0) hb hr rfl) stepR_inLoop)) harr₂⟩
   | exit id => exact ⟨_, _, w₁, ⟨t', S', H', K', r', hK', hqq⟩, .pass (x := .inLoop body) rfl (fun _ _ => .inl (by simp)) harr⟩
   | goto l => exact ⟨_, _, w₁, ⟨t', S', H', K', r', hK', hqq⟩, .pass (x := .inLoop body) rfl (fun _ _ => .inl (by simp)) harr⟩
   | ret => exact ⟨_, _, w₁, ⟨t', S', H', K', r', hK', hqq⟩, .pass (x := .inLoop body) rfl (fun _ _ => .inl (by simp)) harr⟩
   | panic ch => exact ⟨_, _, w₁, ⟨t', S', H', K', r', hK', hqq⟩, .pass (x := .inLoop body) rfl (fun _ _ => .inl (by simp)) harr⟩
   | outgrown => exact ⟨_, _, w₁, ⟨t', S', H', K', r', hK', hqq⟩, .pass (x := .inLoop body) rfl (fun _ _ => .inl (by simp)) harr⟩
 have rt : Rel (Ctx.of w S nt) ⟨Aco (fun _ => .top) (sl g0), []⟩ a w S H := r.weak fun i => by
  rcases N7 s0 (hin g0 p0) i with h | h
  ·exact .inr h
  ·exact .inl h.1
 obtain ⟨e, a', w', hqq, harr⟩ := key _ g0 a w S H p0 rfl rt hK
 exact ⟨e, a', w', hqq, .of_steps (.one (fenced_calm (n := 0) hb hr rfl) stepR_loop) harr⟩
end
theorem Afd {args : List SV} {w : World} {S : Da} {vs : Array Value} {nt : Nat} (hn : args.length ≤ nt) (hS : InH w S) (hv : V9 (Rep w S) args vs.toList) :
  Rel (Ctx.of w S nt) ⟨Alc args, []⟩ { tmps := vs ++ Array.replicate (nt - vs.size) undef, defers := [] } w S (fun _ => undef) := by
 have hlen : vs.size = args.length := by have := hv.1; simp at this; omega
 have hget : ∀ i, (vs ++ Array.replicate (nt - vs.size) undef).getD i undef = vs.getD i undef := by
  intro i
  simp only [Array.getD_eq_getD_getElem?, Array.getElem?_append]
  split
  ·rfl
  ·rename_i hi
   rw [Array.getElem?_replicate]
   have : vs[i]? = none := Array.getElem?_eq_none (by omega)
   rw [this]
   split <;> rfl
 refine ⟨by simp; omega, rfl, fun i => ?_, fun p b h => by simp at h, fun p b g h => by simp at h, fun p q b b' g h => by simp at h, fun p b g i h => by simp at h, hS, Vb.refl _ w S, Nat.zero_le _, fun p g h => absurd h (Nat.not_lt_zero _), fun p e sz k cs h => absurd h (Nat.not_lt_zero _), fun p h => absurd h (Nat.not_lt_zero _)⟩
 rw [hget]
 show AVR _ (match args[i]? with | some x => .s x | none => .tup []) _
 cases ha : args[i]? with
 | none =>
  have : vs[i]? = none := Array.getElem?_eq_none (by rw [hlen]; exact List.getElem?_eq_none_iff.1 ha)
  simp only [Array.getD_eq_getD_getElem?, this, Option.getD_none]
  exact Mr
 | some x =>
  have hi : i < args.length := (List.getElem?_eq_some_iff.1 ha).1
  have hi' : i < vs.size := by omega
  have : vs[i]? = some vs[i] := Array.getElem?_eq_getElem hi'
  simp only [Array.getD_eq_getD_getElem?, this, Option.getD_some]
  exact SVR.mono (fun _ _ => C1.of_rep) (hv.2 i x _ ha (by simp))
theorem Ajx {P : Program} {fc : FuncId} {fn : Func} {body : Code} {cap : List Lf} {L : List (SV × SV)} (hf : P.funcs[fc]? = some fn) (hb : fn.body = some body) (hres : fn.results = #[]) {nt : Nat} (hnt : fn.ntmps = nt) (hn : cap.length + 1 ≤ nt)
  (h : ∀ l J Jx, (∀ k, Aqq (J k)) → Aqq Jx → Apl P l J Jx L → AWY P nt body (fun e _ K => (e = .normal ∨ e = .ret) ∧ (K = J L.length ∨ K = Jx)) (J 0) (Alc (.one (.raw (.func (.yield l) #[] #[])) :: cap.map .one))) : Ai7 P fc cap L := by
 subst hnt
 intro l J Jx w S vs hJ hJx hs h0 hS hcap
 refine callsIn_wide.1 (callsIn_of_wp (n := 0) hf hb trivial ?_)
 have hv : V9 (Rep w S) (.one (.raw (.func (.yield l) #[] #[])) :: cap.map .one) ((#[Value.func (.yield l) #[] #[]] ++ vs : Array Value)).toList := by
  refine ⟨by have := hcap.1; simp at this ⊢; omega, fun j x v hx hv => ?_⟩
  cases j with
  | zero =>
   simp at hx hv
   subst hx; subst hv
   exact Rep.raw (.func (.yield l) #[] #[]) rfl
  | succ j =>
   simp at hx hv
   obtain ⟨x', hx', rfl⟩ := hx
   exact hcap.2 j x' v hx' (by simpa using hv)
 have r0 := Afd (nt := fn.ntmps) (by simpa using hn) hS hv
 refine wpIn_mono (h l J Jx (fun k => hJ k) hJx hs (fun t K hs => by rcases hs.1 with h | h <;> cases h) _ w S _ r0 h0) ?_
 rintro e a w1 ⟨t, S1, H, K, r, hK, he, hk⟩
 have hr : (results fn a.tmps).run P w1 = .ok (.tuple #[]) w1 := by
  rw [Ug, hres]
  simp
 have hfin : ∃ v S', Ending.returned (.tuple #[]) = .returned v ∧ InH w1 S' ∧ (J L.length w1 S' ∨ Jx w1 S') := by
  refine ⟨_, S1, rfl, r.sl, ?_⟩
  rcases hk with rfl | rfl
  ·exact .inl hK
  ·exact .inr hK
 rcases he with rfl | rfl
 ·exact ⟨r.df, _, hr, hfin⟩
 ·exact ⟨r.df, _, hr, hfin⟩
end Go.Proofs.YtbjckaahoacbfaaGreatDoor.Abs
namespace Go.Proofs.YtbjckaahoacbfaaGreatDoor.Abs
open Go.RowKit
def Ud {α σ : Type} (f : σ → α → Option (σ ⊕ (Nat × σ))) : List α → σ → Option (σ ⊕ (Nat × σ))
 | [], s => some (.inl s)
 | x :: xs, s => match f s x with
  | none => none
  | some (.inl s') => Ud f xs s'
  | some (.inr j) => some (.inr j)
def Alh {σ ρ : Type} (k kr : σ → Option ρ) (ke : Nat → σ → Option ρ) : σ ⊕ (Nat × σ) → Option ρ
 | .inl s => k s
 | .inr (0, s) => kr s
 | .inr (n + 1, s) => ke n s
def Apk : Code → Nat
 | .exit id => id + 1
 | _ => 0
theorem Ab4 {α σ : Type} {f : σ → α → Option (σ ⊕ (Nat × σ))} {x : α} {xs : List α} {s : σ} {r : σ ⊕ (Nat × σ)} (h : Ud f (x :: xs) s = some r) :
  ∃ y, f s x = some y ∧ (∀ s', y = .inl s' → Ud f xs s' = some r) ∧ ∀ j, y = .inr j → r = .inr j := by
 unfold Ud at h
 cases hf : f s x with
 | none => rw [hf] at h; cases h
 | some y =>
  rw [hf] at h
  refine ⟨y, rfl, fun s' e => ?_, fun j e => ?_⟩
  ·subst e; exact h
  ·subst e; exact (Option.some.inj h).symm
section
variable {P : Program} {c : Ctx} {Q : Exit → AS → Prop} {t : Nat → AV} {m : List Blk}
theorem RQ.mono {G : Type} {mm : G → List Blk} {p p' : G → Prop} {j j' : Code → G → Prop} (hp : ∀ g, p g → p' g) (hj : ∀ c g, j c g → j' c g) : ∀ e st, RQ mm p j e st → RQ mm p' j' e st := by
 intro e st h
 cases e with
 | normal => obtain ⟨g, ex, h1, h2⟩ := h; exact ⟨g, ex, hp g h1, h2⟩
 | ret => obtain ⟨g, ex, h1, h2⟩ := h; exact ⟨g, ex, hj _ g h1, h2⟩
 | exit id => obtain ⟨g, ex, h1, h2⟩ := h; exact ⟨g, ex, hj _ g h1, h2⟩
 | _ => exact h
theorem Alp {go : Operand} {p1 p2 : Tmp} {assign body : Code} {fc : FuncId} {cap : List Lf} {α σ : Type} (f : σ → α → Option (σ ⊕ (Nat × σ))) (Lst : List α) (sx sy : α → SV) (mm : σ → List Blk) (s0 : σ) {rr : σ ⊕ (Nat × σ)} (hr : Ud f Lst s0 = some rr)
  (hg : Ch ⟨t, m⟩ go = .s (.one (.fn fc [] cap))) (hfc : FnI P fc) (hcap : cap.all Lf.pubd0 = true) (hit : Ai7 P fc cap (Lst.map fun x => (sx x, sy x))) (hp1 : decide (p1 < c.nt) = true) (hp2 : decide (p2 < c.nt) = true)
  (hm : m = mm s0) (hlen : ∀ g, (mm g).length = m.length) (hmin : ∀ g, ∀ b ∈ mm g, b.inb (mm g).length)
  (round : ∀ x s y l, f s x = some y → ∀ w0 S0 X H0, AWI (some l) P ⟨w0, S0, c.nt, X, mm s, H0⟩ okB assign
   (Pf (fun st1 => ∀ w0 S0 X H0, AWI (some l) P ⟨w0, S0, c.nt, X, st1.m, H0⟩ okB body (RQ mm (fun s' => y = .inl s') (fun jc s' => y = .inr (Apk jc, s'))) st1) (fun _ _ => False)) ⟨upd (upd t p1 (.s (sx x))) p2 (.s (sy x)), mm s⟩)
  (done : ∀ s, rr = .inl s → Q .normal ⟨t, mm s⟩) (hret : ∀ s, rr = .inr (0, s) → Q .ret ⟨t, mm s⟩) (hex : ∀ id s, rr = .inr (id + 1, s) → Q (.exit id) ⟨t, mm s⟩) :
  AWI none P c (okO c) (.rangeFunc go #[p1, p2] assign body) Q ⟨t, m⟩ := by
 refine Aqm (L := Lst.map fun x => (sx x, sy x)) mm (fun k s => Ud f (Lst.drop k) s = some rr) (fun jc s => rr = .inr (Apk jc, s)) s0 hg hfc hcap hit hp1 hp2 hr hm hlen hmin ?_ (fun g h => ?_) (fun g h => hret g h) (fun id g h => hex id g h)
 ·intro k X Y s l hk hp w0 S0 X0 H0
  rw [List.getElem?_map] at hk
  cases hx : Lst[k]? with
  | none => rw [hx] at hk; cases hk
  | some x =>
   rw [hx] at hk
   simp only [Option.map_some, Option.some.injEq, Prod.mk.injEq] at hk
   obtain ⟨rfl, rfl⟩ := hk
   have hlt := (List.getElem?_eq_some_iff.1 hx).1
   have hd : Lst.drop k = x :: Lst.drop (k + 1) := by
    rw [List.drop_eq_getElem_cons hlt, (List.getElem?_eq_some_iff.1 hx).2]
   rw [hd] at hp
   obtain ⟨y, hy, h1, h2⟩ := Ab4 hp
   refine (round x s y l hy w0 S0 X0 H0).mono fun e st h => ?_
   cases e with
   | normal =>
    exact fun w0 S0 X0 H0 => AWI.mono (h w0 S0 X0 H0) (RQ.mono (fun s' h => h1 s' h) (fun jc s' h => h2 _ h))
   | _ => exact h
 ·have h' : Ud f (Lst.drop (Lst.map fun x => (sx x, sy x)).length) g = some rr := h
  rw [List.length_map, List.drop_length] at h'
  exact done g (Option.some.inj h').symm
end
end Go.Proofs.YtbjckaahoacbfaaGreatDoor.Abs
namespace Go.Proofs.YtbjckaahoacbfaaGreatDoor.Abs
open Go.RowKit
section
variable {P : Program}
end
section
variable {P : Program} {c : Ctx} {t : Nat → AV} {m : List Blk} {Q : Exit → AS → Prop}
end
end Go.Proofs.YtbjckaahoacbfaaGreatDoor.Abs
namespace Go.Proofs.YtbjckaahoacbfaaGreatDoor.Abs
open Go.RowKit
abbrev Ac0 := List (List Bool × List Blk)
def Y2 : Ac0 → List Bool → Option (List Blk)
  | [], _ => none
  | (b, M) :: r, bits => if b == bits then some M else Y2 r bits
theorem Adb : ∀ {tbl : Ac0} {bits : List Bool} {M : List Blk}, Y2 tbl bits = some M → (bits, M) ∈ tbl
  | (b, N) :: r, bits, M, h => by
    unfold Y2 at h
    by_cases hb : (b == bits) = true
    · rw [if_pos hb] at h
      cases h
      have : b = bits := by simpa using hb
      subst this
      exact List.mem_cons_self ..
    · rw [if_neg hb] at h
      exact List.mem_cons_of_mem _ (Adb h)
theorem Uw : ∀ {es : List Nat} {a b : Nat}, (a, b) ∈ es.zip es → a = b ∧ a ∈ es
  | [], _, _, h => by simp at h
  | e :: r, a, b, h => by
    rw [List.zip_cons_cons] at h
    rcases List.mem_cons.1 h with h | h
    · cases h; exact ⟨rfl, List.mem_cons_self ..⟩
    · obtain ⟨h1, h2⟩ := Uw h
      exact ⟨h1, List.mem_cons_of_mem _ h2⟩
def Kv (es : List Nat) (listed : Array Bool) : List Bool := es.map fun e => listed.getD e false
def Up (ws es : List Nat) (i : Nat) (bits : List Bool) : Bool := (es.zip bits).all fun x => (!((ws.getD i 0).testBit x.1) || x.2) && (!(x.1 == i || (ws.getD x.1 0).testBit i) || !x.2)
def Abw (ws es : List Nat) (bits : List Bool) : Bool := (es.zip bits).all fun x => !x.2 || (es.zip bits).all fun y => !((ws.getD x.1 0).testBit y.1) || y.2
def Vz : Nat → List (List Bool)
  | 0 => [[]]
  | n + 1 => (Vz n).map (false :: ·) ++ (Vz n).map (true :: ·)
theorem W6 : ∀ {n : Nat} {bits : List Bool}, bits.length = n → bits ∈ Vz n
  | 0, [], _ => List.mem_singleton.2 rfl
  | 0, _ :: _, h => by simp at h
  | n + 1, [], h => by simp at h
  | n + 1, b :: bits, h => by
    have ih := W6 (n := n) (bits := bits) (by simpa using h)
    unfold Vz
    rw [List.mem_append]
    cases b with
    | false => exact .inl (List.mem_map.2 ⟨bits, ih, rfl⟩)
    | true => exact .inr (List.mem_map.2 ⟨bits, ih, rfl⟩)
def Ap9 (ws es : List Nat) (tbl : Ac0) : Bool := (Vz es.length).all fun bits => !Abw ws es bits || (Y2 tbl bits).isSome
def Abb (p : List Bool → Bool) (Q : List Bool → List Blk → Prop) (tbl : Ac0) : Prop := ∀ e ∈ tbl, p e.1 = true → Q e.1 e.2
theorem Jq {p : List Bool → Bool} {Q : List Bool → List Blk → Prop} : Abb p Q [] := fun e h => by cases h
theorem Dc {p : List Bool → Bool} {Q : List Bool → List Blk → Prop} {b : List Bool} {M : List Blk} {r : Ac0} (_ : p b = true) (q : Q b M) (h : Abb p Q r) : Abb p Q ((b, M) :: r) := fun e he hp => by
  rcases List.mem_cons.1 he with rfl | he
  · exact q
  · exact h e he hp
theorem Gg {p : List Bool → Bool} {Q : List Bool → List Blk → Prop} {b : List Bool} {M : List Blk} {r : Ac0} (hf : p b = false) (h : Abb p Q r) : Abb p Q ((b, M) :: r) := fun e he hp => by
  rcases List.mem_cons.1 he with rfl | he
  · have hp' : p b = true := hp
    rw [hf] at hp'; cases hp'
  · exact h e he hp
section
variable {P : Program} {c : Ctx} {t : Nat → AV} {m : List Blk} {Q : Exit → AS → Prop}
def Age (P : Program) (c : Ctx) (ops : Array Oper) (ws es : List Nat) (tbl : Ac0) (i : Nat) (t : Nat → AV) (o : Oper) (x : AV) : Prop :=
  (∃ md, Qw P c md ops t o x ∧ Abb (Up ws es i) (fun _ M => Yk md M) tbl) ∨ Abb (Up ws es i) (fun _ M => Qw P c M ops t o x) tbl
theorem Age.congr {ops : Array Oper} {ws es : List Nat} {tbl : Ac0} {i : Nat} {t t' : Nat → AV} {o : Oper} {x : AV} (h : Age P c ops ws es tbl i t o x) (ht : ∀ y ∈ o.looksAt ops, t y = t' y) : Age P c ops ws es tbl i t' o x := by
  rcases h with ⟨md, h1, h2⟩ | h
  · exact .inl ⟨md, h1.congr ht, h2⟩
  · exact .inr fun e he hp => (h e he hp).congr ht
def DM (P : Program) (c : Ctx) (ops : Array Oper) (ws es : List Nat) (tbl : Ac0) (k : (Nat → AV) → Prop) : Nat → List Oper → (Nat → AV) → Prop
  | _, [], t => k t
  | i, o :: rest, t =>
    (es.contains i = false ∧ ∃ x d, o.dst = some d ∧ d < c.nt ∧ Age P c ops ws es tbl i t o x ∧ DM P c ops ws es tbl k (i + 1) rest (upd t d x)) ∨
    (∃ j x, es[j]? = some i ∧ Aig ops t o ∧ Abb (Up ws es i) (fun b M => ∃ M', Y2 tbl (b.set j true) = some M' ∧ Akx P c ops t M M' o x) tbl ∧ (∀ d, o.dst = some d → d < c.nt) ∧
      DM P c ops ws es tbl k (i + 1) rest (match o.dst with | some d => upd t d x | none => t))
theorem DM.get {ops : Array Oper} {ws es : List Nat} {tbl : Ac0} {k : (Nat → AV) → Prop} : ∀ {l : List Oper} {i : Nat} {t : Nat → AV}, DM P c ops ws es tbl k i l t → (Jw l).Nodup → (∀ (q : Nat) (o : Oper), l[q]? = some o → ∀ y ∈ o.looksAt ops, y ∉ Jw (l.drop q)) →
    ∃ T, k T ∧ (∀ y, y ∉ Jw l → T y = t y) ∧ ∀ (q : Nat) (o : Oper), l[q]? = some o →
      (es.contains (i + q) = false ∧ ∃ d, o.dst = some d ∧ d < c.nt ∧ Age P c ops ws es tbl (i + q) T o (T d)) ∨
      (∃ j x, es[j]? = some (i + q) ∧ Aig ops T o ∧ Abb (Up ws es (i + q)) (fun b M => ∃ M', Y2 tbl (b.set j true) = some M' ∧ Akx P c ops T M M' o x) tbl ∧ ∀ d, o.dst = some d → d < c.nt ∧ T d = x)
  | [], i, t, h, _, _ => ⟨t, h, fun _ _ => rfl, fun q o h => by simp at h⟩
  | o :: rest, i, t, h, hnd, hl => by
    have hlook : ∀ y ∈ o.looksAt ops, y ∉ Jw (o :: rest) := fun y hy => by simpa using hl 0 o rfl y hy
    have hlt : ∀ (q : Nat) (o' : Oper), rest[q]? = some o' → ∀ y ∈ o'.looksAt ops, y ∉ Jw (rest.drop q) := fun q o' h' y hy => by
      have := hl (q + 1) o' (by simpa using h') y hy
      simpa using this
    rcases h with ⟨hne, x, d, hd, hdn, hg, hr⟩ | ⟨j, x, h1, h6, h7, h8, hr⟩
    · have hds : Jw (o :: rest) = d :: Jw rest := by simp [Jw, hd]
      rw [hds] at hnd hlook
      have hnd' := List.nodup_cons.1 hnd
      obtain ⟨T, hk, hT, hG⟩ := DM.get hr hnd'.2 hlt
      have hTl : ∀ y ∈ o.looksAt ops, t y = T y := fun y hy => by
        have := hlook y hy
        simp only [List.mem_cons, not_or] at this
        rw [hT y this.2, Hj, if_neg this.1]
      have hTd : T d = x := by rw [hT d hnd'.1, Hj, if_pos rfl]
      refine ⟨T, hk, fun y hy => ?_, fun q o' h' => ?_⟩
      · rw [hds] at hy
        simp only [List.mem_cons, not_or] at hy
        rw [hT y hy.2, Hj, if_neg hy.1]
      · cases q with
        | zero =>
          simp only [List.getElem?_cons_zero, Option.some.injEq] at h'
          subst h'
          exact .inl ⟨hne, d, hd, hdn, by rw [hTd]; exact hg.congr hTl⟩
        | succ q =>
          have := hG q o' (by simpa using h')
          rw [show i + 1 + q = i + (q + 1) by omega] at this
          exact this
    · have fin : ∀ {T : Nat → AV}, (∀ y ∈ o.looksAt ops, t y = T y) → Abb (Up ws es i) (fun b M => ∃ M', Y2 tbl (b.set j true) = some M' ∧ Akx P c ops T M M' o x) tbl := fun hTl e he hp => by
        obtain ⟨M', h3, h4⟩ := h7 e he hp
        exact ⟨M', h3, h4.congr hTl⟩
      cases hd : o.dst with
      | none =>
        have hds : Jw (o :: rest) = Jw rest := by simp [Jw, hd]
        rw [hds] at hnd hlook
        rw [hd] at hr
        obtain ⟨T, hk, hT, hG⟩ := DM.get hr hnd hlt
        have hTl : ∀ y ∈ o.looksAt ops, t y = T y := fun y hy => (hT y (hlook y hy)).symm
        refine ⟨T, hk, fun y hy => hT y (by rw [hds] at hy; exact hy), fun q o' h' => ?_⟩
        cases q with
        | zero =>
          simp only [List.getElem?_cons_zero, Option.some.injEq] at h'
          subst h'
          exact .inr ⟨j, x, h1, h6.congr hTl, fin hTl, fun d h => by rw [hd] at h; cases h⟩
        | succ q =>
          have := hG q o' (by simpa using h')
          rw [show i + 1 + q = i + (q + 1) by omega] at this
          exact this
      | some d =>
        have hds : Jw (o :: rest) = d :: Jw rest := by simp [Jw, hd]
        rw [hds] at hnd hlook
        have hnd' := List.nodup_cons.1 hnd
        rw [hd] at hr
        obtain ⟨T, hk, hT0, hG⟩ := DM.get hr hnd'.2 hlt
        have hT : ∀ y, y ∉ Jw rest → T y = upd t d x y := hT0
        have hTl : ∀ y ∈ o.looksAt ops, t y = T y := fun y hy => by
          have := hlook y hy
          simp only [List.mem_cons, not_or] at this
          rw [hT y this.2, Hj, if_neg this.1]
        have hTd : T d = x := by rw [hT d hnd'.1, Hj, if_pos rfl]
        refine ⟨T, hk, fun y hy => ?_, fun q o' h' => ?_⟩
        · rw [hds] at hy
          simp only [List.mem_cons, not_or] at hy
          rw [hT y hy.2, Hj, if_neg hy.1]
        · cases q with
          | zero =>
            simp only [List.getElem?_cons_zero, Option.some.injEq] at h'
            subst h'
            refine .inr ⟨j, x, h1, h6.congr hTl, fin hTl, fun d' h => ?_⟩
            rw [hd] at h
            cases h
            exact ⟨h8 d hd, hTd⟩
          | succ q =>
            have := hG q o' (by simpa using h')
            rw [show i + 1 + q = i + (q + 1) by omega] at this
            exact this
theorem Aij {l : List Oper} (es ws : List Nat) (tbl : Ac0) {last : List Blk} (hws : Lj l [] = ws) (hok : V4 l.toArray = true) (hnd : es.Nodup) (hes : (es.all fun e => decide (e < l.length)) = true) (hfull : Ap9 ws es tbl = true) (h0 : Y2 tbl (es.map fun _ => false) = some m) (hlast : Y2 tbl (es.map fun _ => true) = some last)
    (h : DM P c l.toArray ws es tbl (fun T => Q .normal ⟨T, last⟩) 0 l t) : AWD P c Q l ⟨t, m⟩ := by
  subst hws
  have ok := Xt hok
  have hdn : (Jw l).Nodup := by
    have key : ∀ (k : List Oper) (n : Nat), (∀ i o, k[i]? = some o → l[n + i]? = some o) → (Jw k).Nodup := by
      intro k
      induction k with
      | nil => intro n _; exact List.nodup_nil
      | cons o r ih =>
        intro n hk
        have ih' := ih (n + 1) (fun i o' h' => by have := hk (i + 1) o' (by simpa using h'); rw [← this]; congr 1; omega)
        cases hd : o.dst with
        | none => simpa [Jw, hd] using ih'
        | some d =>
          have hds : Jw (o :: r) = d :: Jw r := by simp [Jw, hd]
          rw [hds]
          refine List.nodup_cons.2 ⟨fun hmem => ?_, ih'⟩
          unfold Jw at hmem
          rw [List.mem_filterMap] at hmem
          obtain ⟨p, hp, hpd⟩ := hmem
          obtain ⟨q, hq, hqp⟩ := List.getElem_of_mem hp
          have h1 := hk 0 o rfl
          have h2 := hk (q + 1) p (by simp [hq, hqp])
          exact ok.ne n o (n + (q + 1)) p (by simpa using h1) (by simpa using h2) (by omega) d hd hpd
    exact key l 0 (fun i o h => by simpa using h)
  obtain ⟨T, hQ, hTt, hG⟩ := DM.get h hdn (later ok)
  let B : Array Bool → List Blk := fun listed => (Y2 tbl (Kv es listed)).getD []
  let HI : Array Bool → (Nat → Value) → Prop := fun listed _ => Pp l.toArray listed
  have hws : ∀ {listed : Array Bool}, Pp l.toArray listed → ∀ i, listed.getD i false = true → ∀ j, ((Lj l []).getD i 0).testBit j = true → listed.getD j false = true := fun hc =>
    T6 hc l [] (fun i o h => by simpa using h) (fun i h => by simp at h)
  have huf : ∀ {listed : Array Bool} {i : Nat}, listed.size = l.toArray.size → i < l.length → listed.getD i true = false → listed.getD i false = false := by
    intro listed i hs hi h
    simp only [Array.getD_eq_getD_getElem?] at h ⊢
    rw [Array.getElem?_eq_getElem (by rw [hs]; simpa using hi)] at h ⊢
    exact h
  have hzip : ∀ {listed : Array Bool} {x : Nat × Bool}, x ∈ es.zip (Kv es listed) → x.2 = listed.getD x.1 false ∧ x.1 ∈ es := by
    intro listed x hx
    unfold Kv at hx
    rw [List.zip_map_right] at hx
    obtain ⟨y, hy, rfl⟩ := List.mem_map.1 hx
    obtain ⟨a, b⟩ := y
    have hab := Uw hy
    obtain ⟨rfl, hm⟩ := hab
    exact ⟨rfl, hm⟩
  have hclosed : ∀ {listed : Array Bool}, Pp l.toArray listed → Abw (Lj l []) es (Kv es listed) = true := by
    intro listed hc
    unfold Abw
    rw [List.all_eq_true]
    intro x hx
    obtain ⟨h1, _⟩ := hzip hx
    cases hb : x.2 with
    | false => rfl
    | true =>
      simp only [Bool.not_true, Bool.false_or]
      rw [List.all_eq_true]
      intro y hy
      obtain ⟨h2, _⟩ := hzip hy
      cases hw : ((Lj l []).getD x.1 0).testBit y.1 with
      | false => rfl
      | true =>
        rw [h1] at hb
        rw [h2, hws hc x.1 hb y.1 hw]
        rfl
  have hmem : ∀ {listed : Array Bool}, Pp l.toArray listed → (Kv es listed, B listed) ∈ tbl := by
    intro listed hc
    have hf := (List.all_eq_true.1 hfull) (Kv es listed) (W6 (by simp [Kv]))
    rw [hclosed hc] at hf
    simp only [Bool.not_true, Bool.false_or, Option.isSome_iff_exists] at hf
    obtain ⟨M, hM⟩ := hf
    have : B listed = M := by show (Y2 tbl (Kv es listed)).getD [] = M; rw [hM]; rfl
    rw [this]
    exact Adb hM
  have hcons : ∀ {listed : Array Bool} {i : Nat} {o : Oper}, Pp l.toArray listed → l[i]? = some o → Met listed o → listed.getD i false = false → Up (Lj l []) es i (Kv es listed) = true := by
    intro listed i o hc ho hmt hun
    unfold Up
    rw [List.all_eq_true]
    intro x hx
    obtain ⟨h1, _⟩ := hzip hx
    rw [Bool.and_eq_true, Bool.or_eq_true, Bool.or_eq_true]
    constructor
    · cases hw : ((Lj l []).getD i 0).testBit x.1 with
      | false => exact .inl rfl
      | true =>
        right
        rw [h1]
        exact V7 (ops := l.toArray) hc (i := i) (o := o) (by simpa using ho) hmt (j := x.1) hw
    · cases hb : x.2 with
      | false => exact .inr rfl
      | true =>
        left
        rw [h1] at hb
        simp only [Bool.not_eq_true', Bool.or_eq_false_iff]
        constructor
        · cases he : (x.1 == i) with
          | false => rfl
          | true =>
            have : x.1 = i := by simpa using he
            rw [this, hun] at hb; cases hb
        · cases hw : ((Lj l []).getD x.1 0).testBit i with
          | false => rfl
          | true =>
            have := hws hc x.1 hb i hw
            rw [hun] at this; cases this
  have hbsame : ∀ {listed : Array Bool} {i : Nat}, es.contains i = false → Kv es (listed.setIfInBounds i true) = Kv es listed := by
    intro listed i hi
    unfold Kv
    refine List.map_congr_left fun e he => ?_
    have : i ≠ e := fun e' => by subst e'; have : es.contains i = true := by simpa using he
                                 rw [hi] at this; cases this
    simp only [Array.getD_eq_getD_getElem?, Array.getElem?_setIfInBounds_ne this]
  have hlk : ∀ {i : Nat} {o : Oper}, l.toArray[i]? = some o → l[i]? = some o ∧ i < l.length := fun {i o} h => by
    have h' : l[i]? = some o := by simpa using h
    exact ⟨h', (List.getElem?_eq_some_iff.1 h').1⟩
  refine Aaf (T := T) (B := B) (HI := HI) ok (fun i o ho => ?_) hTt (fun a w S H r => ⟨H, ?_, ?_⟩) (fun listed hs hl => ?_)
  · obtain ⟨ho', hil⟩ := hlk ho
    rcases hG i o ho' with ⟨hne, d, hd, hdn, hg⟩ | ⟨j, x, h1, h5, h6, h7⟩
    · rw [Nat.zero_add] at hne hg
      refine .inl fun listed H hs hun hmt hc => ?_
      have hBs : B (listed.setIfInBounds i true) = B listed := by
        show (Y2 tbl (Kv es (listed.setIfInBounds i true))).getD [] = _
        rw [hbsame hne]
      have hm := hmem hc
      have hcs := hcons hc ho' hmt (huf hs hil hun)
      rcases hg with ⟨md, hg, hmd⟩ | hg
      · exact ⟨md, ⟨d, hd, hdn, hg⟩, hmd _ hm hcs, hBs, hc.set ho hmt⟩
      · exact ⟨B listed, ⟨d, hd, hdn, hg _ hm hcs⟩, Yk.refl _, hBs, hc.set ho hmt⟩
    · rw [Nat.zero_add] at h1 h6
      refine .inr ⟨h5, fun listed hs hun hmt a w S H r hc K Qn hK => ?_⟩
      have hm := hmem hc
      have hcs := hcons hc ho' hmt (huf hs hil hun)
      obtain ⟨M', hM', h6⟩ := h6 _ hm hcs
      have hbits : Kv es (listed.setIfInBounds i true) = (Kv es listed).set j true := by
        refine List.ext_getElem? fun q => ?_
        unfold Kv
        rw [List.getElem?_map, List.getElem?_set, List.length_map, List.getElem?_map]
        have hjl := (List.getElem?_eq_some_iff.1 h1).1
        by_cases e : j = q
        · subst e
          rw [if_pos rfl, if_pos hjl, h1]
          simp only [Option.map_some, Option.some.injEq, Array.getD_eq_getD_getElem?]
          rw [Array.getElem?_setIfInBounds_self_of_lt (by rw [hs]; simpa using hil)]
          rfl
        · rw [if_neg e]
          cases hq : es[q]? with
          | none => rfl
          | some e' =>
            have hne : i ≠ e' := fun e'' => by
              subst e''
              have hql := (List.getElem?_eq_some_iff.1 hq).1
              have h8 := (List.getElem?_eq_some_iff.1 hq).2
              have h9 := (List.getElem?_eq_some_iff.1 h1).2
              exact e ((List.getElem_inj hnd).1 (h9.trans h8.symm))
            simp only [Option.map_some, Option.some.injEq, Array.getD_eq_getD_getElem?]
            rw [Array.getElem?_setIfInBounds_ne hne]
      have hB2 : B (listed.setIfInBounds i true) = M' := by
        show (Y2 tbl (Kv es (listed.setIfInBounds i true))).getD [] = M'
        rw [hbits, hM']
        rfl
      have hlook := Abn (T := T) ok hs ho hmt
      have hmix : mix T (o.looksAt l.toArray) (TL l.toArray T listed) = TL l.toArray T listed := by
        funext y
        unfold mix
        cases hc' : (o.looksAt l.toArray).contains y with
        | false => rfl
        | true => exact (hlook y (by simpa using hc')).symm
      have heff := h6 (TL l.toArray T listed)
      rw [hmix] at heff
      have hw := heff a w S H r
      unfold wpList at hw
      rw [if_pos (by rfl)] at hw
      rcases hw with hw | ⟨_, a', w', st', S', H', _, he, _⟩
      · refine Zs (P := P) (o := o) ?_ ?_ (show o.wp P a w _ _ from hw)
        · rintro a' w' ⟨st', S', H', r', _, rfl⟩
          refine hK a' w' S' H' ?_ (hc.set ho hmt)
          rw [hB2]
          cases hd : o.dst with
          | none =>
            rw [hd] at r'
            rw [← Vy ho hd]
            exact r'
          | some d =>
            rw [hd] at r'
            rw [← Afh (T := T) ok hs ho hun hd, (h7 d hd).2]
            exact r'
        · rintro e a' w' hne ⟨st', S', H', r', he, _⟩
          exact absurd he hne
      · cases he
  · have : B (Array.replicate l.toArray.size false) = m := by
      have e1 : Kv es (Array.replicate l.toArray.size false) = es.map fun _ => false := by
        unfold Kv
        refine List.map_congr_left fun e _ => ?_
        simp only [Array.getD_eq_getD_getElem?, Array.getElem?_replicate]
        split <;> rfl
      show (Y2 tbl (Kv es (Array.replicate l.toArray.size false))).getD [] = m
      rw [e1, h0]
      rfl
    rw [this]
    exact r
  · intro i o _ hl
    simp only [Array.getD_eq_getD_getElem?, Array.getElem?_replicate] at hl
    split at hl <;> simp at hl
  · have hin : ∀ e ∈ es, e < l.length := fun e he => by simpa using List.all_eq_true.1 hes e he
    have e1 : Kv es listed = es.map fun _ => true := by
      unfold Kv
      refine List.map_congr_left fun e he => ?_
      have h1 := hl e (by simpa using hin e he)
      have h2 : e < listed.size := by rw [hs]; simpa using hin e he
      simp only [Array.getD_eq_getD_getElem?, Array.getElem?_eq_getElem h2, Option.getD_some] at h1 ⊢
      exact h1
    have : B listed = last := by
      show (Y2 tbl (Kv es listed)).getD [] = last
      rw [e1, hlast]
      rfl
    rw [this]
    exact hQ
theorem Amd {id : Nat} {l : List Oper} (es ws : List Nat) (tbl : Ac0) {last : List Blk} (hws : Lj l [] = ws) (hm : P.follows .mixedOrders = true) (hok : V4 l.toArray = true) (hnd : es.Nodup) (hes : (es.all fun e => decide (e < l.length)) = true) (hfull : Ap9 ws es tbl = true) (h0 : Y2 tbl (es.map fun _ => false) = some m) (hlast : Y2 tbl (es.map fun _ => true) = some last)
    (h : DM P c l.toArray ws es tbl (fun T => Q .normal ⟨T, last⟩) 0 l t) : AWC P c (.region id l.toArray true) Q ⟨t, m⟩ := (Aij es ws tbl hws hok hnd hes hfull h0 hlast h).awc hm
variable {ops : Array Oper} {ws es : List Nat} {tbl : Ac0} {k : (Nat → AV) → Prop} {rest : List Oper} {op : Op} {ty : TypeId} {pos : String} {af : Array Edge} {d : Tmp} {x : AV} {i : Nat}
theorem Aqd {md : List Blk} (h : Abb (Up ws es i) (fun _ M => Xg md M) tbl) : Abb (Up ws es i) (fun _ M => Yk md M) tbl := fun e he hp => Acp (h e he hp)
theorem Asl (h : k t) : DM P c ops ws es tbl k i [] t := h
theorem mev {md : List Blk} (hs : Abb (Up ws es i) (fun _ M => Xg md M) tbl) (hi : es.contains i = false) (hd : decide (d < c.nt) = true) (h : OpV P c ⟨Pz t (Oper.looksAt ops ⟨some d, op, ty, pos, af, none⟩), md⟩ op ty x) (kk : DM P c ops ws es tbl k (i + 1) rest (upd t d x)) : DM P c ops ws es tbl k i (⟨some d, op, ty, pos, af, none⟩ :: rest) t :=
  .inl ⟨hi, x, d, rfl, of_decide_eq_true hd, .inl ⟨md, .inl ⟨.inl rfl, h.opD⟩, Aqd hs⟩, kk⟩
theorem med {md : List Blk} (hs : Abb (Up ws es i) (fun _ M => Xg md M) tbl) (hi : es.contains i = false) (hd : decide (d < c.nt) = true) (h : OpD P c ⟨Pz t (Oper.looksAt ops ⟨some d, op, ty, pos, af, none⟩), md⟩ op ty x) (kk : DM P c ops ws es tbl k (i + 1) rest (upd t d x)) : DM P c ops ws es tbl k i (⟨some d, op, ty, pos, af, none⟩ :: rest) t :=
  .inl ⟨hi, x, d, rfl, of_decide_eq_true hd, .inl ⟨md, .inl ⟨.inl rfl, h⟩, Aqd hs⟩, kk⟩
theorem Ats (hi : es.contains i = false) (hd : decide (d < c.nt) = true) (h : ∀ md, OpV P c ⟨Pz t (Oper.looksAt ops ⟨some d, op, ty, pos, af, none⟩), md⟩ op ty x) (kk : DM P c ops ws es tbl k (i + 1) rest (upd t d x)) : DM P c ops ws es tbl k i (⟨some d, op, ty, pos, af, none⟩ :: rest) t :=
  .inl ⟨hi, x, d, rfl, of_decide_eq_true hd, .inr fun _ _ _ => .inl ⟨.inl rfl, (h _).opD⟩, kk⟩
theorem mee (j : Nat) (he : es[j]? = some i) (hd : decide (d < c.nt) = true)
    (h : Abb (Up ws es i) (fun b M => ∃ M', Y2 tbl (b.set j true) = some M' ∧ ∀ ζ, AWL P c ops (fun e st => e = .normal ∧ st = ⟨upd (mix t (Oper.looksAt ops ⟨some d, op, ty, pos, af, none⟩) ζ) d x, M'⟩) [⟨some d, op, ty, pos, af, none⟩] ⟨mix t (Oper.looksAt ops ⟨some d, op, ty, pos, af, none⟩) ζ, M⟩) tbl)
    (kk : DM P c ops ws es tbl k (i + 1) rest (upd t d x)) : DM P c ops ws es tbl k i (⟨some d, op, ty, pos, af, none⟩ :: rest) t :=
  .inr ⟨j, x, he, .inl rfl, h, fun d' h' => by cases h'; exact of_decide_eq_true hd, kk⟩
theorem Atp (j : Nat) (he : es[j]? = some i)
    (h : Abb (Up ws es i) (fun b M => ∃ M', Y2 tbl (b.set j true) = some M' ∧ ∀ ζ, AWL P c ops (fun e st => e = .normal ∧ st = ⟨mix t (Oper.looksAt ops ⟨none, op, ty, pos, af, none⟩) ζ, M'⟩) [⟨none, op, ty, pos, af, none⟩] ⟨mix t (Oper.looksAt ops ⟨none, op, ty, pos, af, none⟩) ζ, M⟩) tbl)
    (kk : DM P c ops ws es tbl k (i + 1) rest t) : DM P c ops ws es tbl k i (⟨none, op, ty, pos, af, none⟩ :: rest) t :=
  .inr ⟨j, .top, he, .inl rfl, h, (fun d' h' => by cases h'), kk⟩
end
end Go.Proofs.YtbjckaahoacbfaaGreatDoor.Abs
namespace Go.Proofs.YtbjckaahoacbfaaGreatDoor.Abs
open Go.RowKit
section
variable {P : Program} {nt : Nat} {Q : Exit → (Nat → AV) → YK → Prop} {K : YK} {t : Nat → AV}
end
section
variable {P : Program} {c : Ctx} {ops : Array Oper} {ws es : List Nat} {tbl : Ac0} {k : (Nat → AV) → Prop} {t : Nat → AV} {rest : List Oper} {op : Op} {ty : TypeId} {pos : String} {af : Array Edge} {d : Tmp} {x : AV} {i : Nat}
end
theorem Aoo {P : Program} {c : Ctx} {id : Nat} {x y : Code} {Q Q' : Exit → AS → Prop} {st : AS} (G : Type) (sl : G → List (Nat × AV)) (mm : G → List Blk) (pre : G → Prop) (hin : ∀ g, pre g → Air (mm g).length (sl g)) (hmin : ∀ g, pre g → ∀ b ∈ mm g, b.inb (mm g).length) (hk : ∀ g, pre g → c.m0.length ≤ (mm g).length)
  (hy : ∀ g, pre g → AWC P c y Q ⟨Aco (fun _ => .top) (sl g), mm g⟩) (hx : AWC P c x (L7 id (Pf (Aq3 sl mm pre) Q')) st) : AWC P c x (L7 id (Pf (AWC P c y Q) Q')) st := by
 refine hx.mono fun e st h => ?_
 cases e with
 | normal => exact Yp h hin hmin hk hy
 | exit id' =>
  simp only [L7] at h ⊢
  split
  ·rename_i he
   rw [if_pos he] at h
   exact Yp h hin hmin hk hy
  ·rename_i he
   rw [if_neg he] at h
   exact h
 | _ => exact h
end Go.Proofs.YtbjckaahoacbfaaGreatDoor.Abs
namespace Go.Proofs.YtbjckaahoacbfaaGreatDoor.Abs
open Go.RowKit Go.Proofs Go.Lib
structure Asn (E sz b n : Nat) (w w' : World) (v : Value) (vals : List Value) : Prop where
 os : w'.os = w.os
 tape : w'.tape = w.tape
 output : w'.output = w.output
 size : w.heap.size ≤ w'.heap.size
 blk : ∀ g, g < w.heap.size → g ≠ b → w'.heap[g]? = w.heap[g]?
 row : ∃ G cap cur, (G = b ∨ w.heap.size ≤ G) ∧ v = .slice (some ⟨G, 0, none⟩) n cap ∧ w'.heap[G]? = some (.cells cur E (0, 0)) ∧ n ≤ cap ∧ cap ≤ maxLen ∧ cur.size = cap * sz ∧ cur.toList.take (n * sz) = vals
section
variable {P : Program} {c : Ctx} {Q : Exit → AS → Prop} {t : Nat → AV} {m : List Blk}
end
section
variable {P : Program} {c : Ctx} {t : Nat → AV} {M : List Blk} {ops : Array Oper} {Q : Exit → AS → Prop} {rest : List Oper} {ty : TypeId} {pos : String} {af : Array Edge} {d : Tmp}
end
end Go.Proofs.YtbjckaahoacbfaaGreatDoor.Abs
namespace Go.Proofs.YtbjckaahoacbfaaGreatDoor.Abs
open Go.RowKit Go.Lib
end Go.Proofs.YtbjckaahoacbfaaGreatDoor.Abs
namespace Go.Proofs.YtbjckaahoacbfaaGreatDoor.Abs
open Go.RowKit Go.MapKept
open Go.ChangeMaps (setBlock)
section
variable {P : Program} {c : Ctx} {ops : Array Oper} {Q : Exit → AS → Prop} {rest : List Oper} {ty : TypeId} {pos : String} {af : Array Edge} {d : Tmp} {t : Nat → AV} {m : List Blk}
end
end Go.Proofs.YtbjckaahoacbfaaGreatDoor.Abs
namespace Go.Proofs.YtbjckaahoacbfaaGreatDoor.Abs
open Go.RowKit Go.Shelf Go.Sort
open Go.Proofs (sortWorldK)
section
variable {β : Type} [Inhabited β] {enc : β → List Value} {k : Nat} {w : World} {b n : Nat} {d : Array β} {os : Array Obj} {cur : Array Value} {e : TypeId}
end
end Go.Proofs.YtbjckaahoacbfaaGreatDoor.Abs
namespace Go.Proofs.YtbjckaahoacbfaaGreatDoor.Abs
open Go.RowKit
theorem Re {ls : List Lf} (h : Xc (.int .i64) ls) : ∃ n : Int, (-9223372036854775808 ≤ n ∧ n ≤ 9223372036854775807) ∧ ls = eI n := by
 obtain ⟨n, hw, rfl⟩ := h
 exact ⟨n, Ama hw, rfl⟩
theorem Ap6 {k : IntKind} {n : Int} (h : (Lit.int k n).wf = true) : k.min ≤ n ∧ n ≤ k.max := by
 simp only [Lit.wf, Bool.and_eq_true, decide_eq_true_eq] at h
 exact h
theorem Acv {ls : List Lf} (h : Xc (.int .u8) ls) : ∃ a : UInt8, True ∧ ls = eU8 a := by
 obtain ⟨n, hw, rfl⟩ := h
 obtain ⟨h1, h2⟩ := Ap6 hw
 simp [IntKind.min, IntKind.max, IntKind.bits, IntKind.signed] at h1 h2
 refine ⟨UInt8.ofNat n.toNat, trivial, ?_⟩
 show _ = [Lf.i .u8 _]
 rw [show ((UInt8.ofNat n.toNat).toNat : Int) = n by rw [UInt8.toNat_ofNat']; omega]
theorem Ab2 {ls : List Lf} (h : Xc .bool ls) : ∃ b : Bool, True ∧ ls = eB b := by
 obtain ⟨b, rfl⟩ := h
 exact ⟨b, trivial, rfl⟩
theorem Xn {α : Type} {e : Sh} {f : α → List Lf} {Q : α → Prop} (he : ∀ {r}, Xc e r → ∃ x, Q x ∧ r = f x) {ls : List Lf} (h : Xc (.sl e) ls) : ∃ xs : List α, (xs.length ≤ maxLen ∧ ∀ x ∈ xs, Q x) ∧ ls = eL f xs := by
 obtain ⟨rows, hl, hr, rfl⟩ := h
 have : ∃ xs : List α, (∀ x ∈ xs, Q x) ∧ rows = xs.map f := by
  clear hl
  induction rows with
  | nil => exact ⟨[], fun _ h => by simp at h, rfl⟩
  | cons r rs ih =>
   obtain ⟨x, hq, hx⟩ := he (hr r (List.mem_cons_self ..))
   obtain ⟨xs, hqs, hxs⟩ := ih (fun r h => hr r (List.mem_cons_of_mem _ h))
   exact ⟨x :: xs, fun y hy => by rcases List.mem_cons.1 hy with rfl | hy; exact hq; exact hqs y hy, by rw [hx, hxs]; rfl⟩
 obtain ⟨xs, hq, rfl⟩ := this
 exact ⟨xs, ⟨by simpa using hl, hq⟩, by rw [eL, List.flatMap, List.length_map]⟩
end Go.Proofs.YtbjckaahoacbfaaGreatDoor.Abs
namespace Go.Proofs.YtbjckaahoacbfaaGreatDoor.Abs
theorem Dh {n : Int} (h1 : -9223372036854775808 ≤ n) (h2 : n ≤ 9223372036854775807) : wI n = n := by
 unfold wI IntKind.wrap
 simp [IntKind.bits, IntKind.signed]
 omega
theorem Hh {n : Nat} (h : n ≤ 1000000000000000000) : n < fuel := by unfold fuel; omega
theorem E3 {α : Type} (xs : List α) (i : Nat) : idx xs (i : Int) = xs[i]? := by
 unfold idx
 rw [if_pos (Int.natCast_nonneg i), Int.toNat_natCast]
theorem Wt {α : Type} {xs : List α} {j : Int} (h0 : 0 ≤ j) (h1 : j < xs.length) : ∃ x, idx xs j = some x ∧ xs[j.toNat]? = some x := by
 have h : j.toNat < xs.length := by omega
 exact ⟨xs[j.toNat], by unfold idx; rw [if_pos h0, List.getElem?_eq_getElem h], List.getElem?_eq_getElem h⟩
theorem Oz {α : Type} {xs : List α} {lo hi : Int} (h0 : 0 ≤ lo) (h1 : lo ≤ hi) (h2 : hi ≤ xs.length) : cut xs lo hi = some ((xs.drop lo.toNat).take (hi.toNat - lo.toNat)) := by
 unfold cut
 rw [if_pos ⟨h0, h1, h2⟩]
theorem Gz {σ β : Type} {f : σ → Option (LB σ β)} {P : σ → Prop} {μ : σ → Nat} {R : β → Prop}
  (h : ∀ s, P s → (∃ s', f s = some (.cont s') ∧ P s' ∧ μ s' < μ s) ∨ ∃ b, f s = some (.brk b) ∧ R b) : ∀ (n : Nat) (s : σ), P s → μ s < n → ∃ b, Ej f n s = some b ∧ R b
 | 0, s, _, hm => by omega
 | n + 1, s, hp, hm => by
  rcases h s hp with ⟨s', hf, hp', hlt⟩ | ⟨b, hf, hr⟩
  ·obtain ⟨b, hb, hr⟩ := Gz h n s' hp' (by omega)
   exact ⟨b, by rw [Ej, hf]; exact hb, hr⟩
  ·exact ⟨b, by rw [Ej, hf], hr⟩
theorem Pw {σ β ρ : Type} {f : σ → Option (LR σ β ρ)} {P : σ → Prop} {μ : σ → Nat} {R : Sum ρ β → Prop}
  (h : ∀ s, P s → (∃ s', f s = some (.cont s') ∧ P s' ∧ μ s' < μ s) ∨ (∃ b, f s = some (.brk b) ∧ R (.inr b)) ∨ ∃ r, f s = some (.ret r) ∧ R (.inl r)) : ∀ (n : Nat) (s : σ), P s → μ s < n → ∃ b, Pt f n s = some b ∧ R b
 | 0, s, _, hm => by omega
 | n + 1, s, hp, hm => by
  rcases h s hp with ⟨s', hf, hp', hlt⟩ | ⟨b, hf, hr⟩ | ⟨b, hf, hr⟩
  ·obtain ⟨b, hb, hr⟩ := Pw h n s' hp' (by omega)
   exact ⟨b, by rw [Pt, hf]; exact hb, hr⟩
  ·exact ⟨.inr b, by rw [Pt, hf], hr⟩
  ·exact ⟨.inl b, by rw [Pt, hf], hr⟩
theorem Aec {α σ β τ : Type} {f : τ → Option (LB τ β)} (st : σ → Nat → τ) (xs : List α) (g : σ → α → σ) (out : σ → β) (hl : xs.length < 1000000000000000000000000)
  (h1 : ∀ acc i x, xs[i]? = some x → f (st acc i) = some (.cont (st (g acc x) (i + 1)))) (h2 : ∀ acc, f (st acc xs.length) = some (.brk (out acc))) (a0 : σ) : Ej f fuel (st a0 0) = some (out (xs.foldl g a0)) := by
 have key : ∀ (k i : Nat) (acc : σ) (n : Nat), k + i = xs.length → k < n → Ej f n (st acc i) = some (out ((xs.drop i).foldl g acc)) := by
  intro k
  induction k with
  | zero =>
   intro i acc n hi hn
   obtain ⟨m, rfl⟩ : ∃ m, n = m + 1 := ⟨n - 1, by omega⟩
   have : i = xs.length := by omega
   subst this
   rw [Ej, h2, List.drop_length]
   rfl
  | succ k ih =>
   intro i acc n hi hn
   obtain ⟨m, rfl⟩ : ∃ m, n = m + 1 := ⟨n - 1, by omega⟩
   have hlt : i < xs.length := by omega
   rw [Ej, h1 acc i xs[i] (List.getElem?_eq_getElem hlt), List.drop_eq_getElem_cons hlt, List.foldl_cons]
   exact ih (i + 1) _ m (by omega) (by omega)
 have := key xs.length 0 a0 fuel (by omega) hl
 rwa [List.drop_zero] at this
end Go.Proofs.YtbjckaahoacbfaaGreatDoor.Abs
namespace Go.Proofs.YtbjckaahoacbfaaGreatDoor.Abs
open Go.Sort
section
variable {α : Type} {kf : α → List UInt8}
end
end Go.Proofs.YtbjckaahoacbfaaGreatDoor.Abs
namespace Go.Proofs.YtbjckaahoacbfaaGreatDoor.Abs
end Go.Proofs.YtbjckaahoacbfaaGreatDoor.Abs
namespace Go.Proofs.YtbjckaahoacbfaaGreatDoor.Abs
open Go.RowKit Go.MapKept
open Go.ChangeMaps (setBlock)
section
variable {P : Program} {kt : TypeId} {n : List Nat}
structure Awm (κ : Type) [DecidableEq κ] (P : Program) (kt : TypeId) (e : κ → List Lf) (n : List Nat) : Prop where
 et : EqT P kt n
 tag : ∀ k, (e k).map Lf.tag = n
 low : ∀ x ∈ n, x < 3
 eq : ∀ k k', Zb (e k) (e k') = some (decide (k = k'))
variable {κ : Type} [DecidableEq κ] {e : κ → List Lf}
end
section
variable {κ : Type} [DecidableEq κ]
end
section
variable {P : Program} {c : Ctx} {ops : Array Oper} {Q : Exit → AS → Prop} {rest : List Oper} {ty : TypeId} {pos : String} {af : Array Edge} {d : Tmp} {t : Nat → AV} {m : List Blk}
variable {κ : Type} [DecidableEq κ] {e : κ → List Lf} {n : List Nat} {kt : TypeId}
omit [DecidableEq κ] in
omit [DecidableEq κ] in
end
end Go.Proofs.YtbjckaahoacbfaaGreatDoor.Abs
namespace Go.Proofs.YtbjckaahoacbfaaGreatDoor.Abs
open Go.RowKit Go.Shelf Go.Sort
def Au4 : Int → Value := Value.int .i64
section
variable {w : World} {b n : Nat} {d : Array Int} {os : Array Obj} {cur : Array Value} {e : TypeId}
end
structure Awl (P : Program) (e : TypeId) (w : World) (S : Da) (H : Nat → Value) (xs : List Int) (blk cap : Nat) (cur : Array Value) : Prop where
  h : H 0 = .slice (some ⟨blk, 0, none⟩) xs.length cap
  heap : w.heap[blk]? = some (.cells cur e (0, 0))
  fits : xs.length ≤ cap
  most : cap ≤ maxLen
  cs : cur.size = cap * 1
  vals : cur.toList.take xs.length = xs.map Au4
  lt : blk < w.heap.size
  noS : ∀ i, ¬ S blk i
end Go.Proofs.YtbjckaahoacbfaaGreatDoor.Abs
namespace Go.Proofs.YtbjckaahoacbfaaGreatDoor.Abs
theorem nn {b : Bool} (h : b = false) : ¬ b = true := fun h' => by rw [h] at h'; cases h'
theorem Afi {α : Type} {xs : List α} {p : α → Bool} (h : ∀ x ∈ xs, p x = false) : xs.find? p = none := List.find?_eq_none.2 fun x hx => by rw [h x hx]; decide
theorem Asv {α ρ : Type} (xs : List α) (p : α → Bool) (g : α → ρ) (f : Int → Option (LR Int Unit ρ)) (hl : xs.length ≤ 1000000000000000000)
  (h : ∀ (i : Nat) x, xs[i]? = some x → f (i : Int) = some (if p x then .ret (g x) else .cont ((i + 1 : Nat) : Int))) (hend : f (xs.length : Int) = some (.brk ())) :
  Pt f fuel 0 = some (match xs.find? p with | some x => .inl (g x) | none => .inr ()) := by
 obtain ⟨v, hv, hr⟩ := Pw (f := f) (P := fun s => ∃ i : Nat, i ≤ xs.length ∧ s = (i : Int) ∧ xs.find? p = (xs.drop i).find? p) (μ := fun s => xs.length - s.toNat)
  (R := fun r => r = (match xs.find? p with | some x => Sum.inl (g x) | none => Sum.inr ())) (by
   rintro _ ⟨i, hi, rfl, hp⟩
   rcases Nat.lt_or_ge i xs.length with hlt | hge
   ·have hx := List.getElem?_eq_getElem hlt
    have hf := h i _ hx
    have hd : xs.drop i = xs[i] :: xs.drop (i + 1) := List.drop_eq_getElem_cons hlt
    cases hpx : p xs[i] with
    | true =>
     rw [hpx, if_pos rfl] at hf
     refine .inr (.inr ⟨_, hf, ?_⟩)
     rw [hp, hd, List.find?_cons, hpx]
    | false =>
     rw [hpx, if_neg (by decide)] at hf
     refine .inl ⟨_, hf, ⟨i + 1, hlt, rfl, ?_⟩, by simp only [Int.toNat_natCast]; omega⟩
     rw [hp, hd, List.find?_cons, hpx]
   ·have e : i = xs.length := by omega
    subst e
    refine .inr (.inl ⟨(), hend, ?_⟩)
    rw [hp, List.drop_length]; rfl) fuel 0 ⟨0, Nat.zero_le _, rfl, rfl⟩ (Hh (by show xs.length - 0 ≤ _; omega))
 rw [hv, hr]
theorem Ala {α ρ : Type} (xs : List α) (p : α → Bool) (no : ρ) (f : Int → Option (LR Int Unit ρ)) (hl : xs.length ≤ 1000000000000000000)
  (h : ∀ (i : Nat) x, xs[i]? = some x → f (i : Int) = some (if p x then .cont ((i + 1 : Nat) : Int) else .ret no)) (hend : f (xs.length : Int) = some (.brk ())) :
  Pt f fuel 0 = some (if xs.all p then .inr () else .inl no) := by
 rw [Asv xs (fun x => !p x) (fun _ => no) f hl (fun i x hx => by
  rw [h i x hx]
  cases p x <;> rfl) hend]
 cases ha : xs.all p with
 | true =>
  rw [Afi fun x hx => by rw [List.all_eq_true.1 ha x hx]; rfl]; rfl
 | false =>
  obtain ⟨x, hx, hp⟩ := List.all_eq_false.1 ha
  cases hf : xs.find? (fun x => !p x) with
  | none => exact absurd (List.find?_eq_none.1 hf x hx) (by simpa using hp)
  | some y => rfl
end Go.Proofs.YtbjckaahoacbfaaGreatDoor.Abs
namespace Go.Proofs.YtbjckaahoacbfaaGreatDoor.Abs
open Go.RowKit Go.MapKept Go.Conc
open Go.ChangeMaps (setBlock)
section
variable {P : Program} {c : Ctx} {ops : Array Oper} {Q : Exit → AS → Prop} {rest : List Oper} {ty : TypeId} {pos : String} {af : Array Edge} {d : Tmp} {t : Nat → AV} {m : List Blk} {α : Type} {e : α → List Lf}
end
end Go.Proofs.YtbjckaahoacbfaaGreatDoor.Abs
namespace Go.Proofs.YtbjckaahoacbfaaGreatDoor.Abs
open Go.RowKit
section
variable {H : Type} {enc : TypeId × Value → H} {P : Program} {w : World} {spare : Nat → Bool} {held : Bool} {base : Nat}
end
section
variable {H : Type} {enc : TypeId × Value → H} {P : Program} {W W' : World}
end
end Go.Proofs.YtbjckaahoacbfaaGreatDoor.Abs
namespace Go.Proofs.YtbjckaahoacbfaaGreatDoor.Abs
open Go.RowKit
section
variable {P : Program} {c : Ctx} {st : AS} {ty : TypeId}
theorem O4 {t n e sz o p q : Nat} {x y : Operand} {k : IntKind} {j : Int} (ai : AI P t n e sz) (hx : Ch st x = .s (.one (.lp p q))) (hy : Ch st y = .s (.one (.i k j))) (h : (0 ≤ j ∧ j < n) ∧ j.toNat * sz = o) :
  OpV P c st (.indexAddr t x y) ty (.s (.one (.lp p (q + o)))) := by
 have := M6 (P := P) (c := c) (ty := ty) ai hx rfl hy (fun _ _ _ h => by cases h) h.1.1 h.1.2
 rwa [h.2] at this
end
end Go.Proofs.YtbjckaahoacbfaaGreatDoor.Abs
namespace Go.Proofs.YtbjckaahoacbfaaGreatDoor.Abs
open Go.RowKit
def Sv (P : Program) (r : TypeId → Option (List Nat)) : Nat → List Field → Option (List Nat)
 | _, [] => some []
 | off, f :: fs => if f.name != "_" && f.offset == off then
   match r f.type with
   | some g => if (P.info? f.type).map (·.size) == some g.length then (Sv P r (off + g.length) fs).map (g ++ ·) else none
   | none => none
  else none
def Yt (P : Program) : Nat → TypeId → Option (List Nat)
 | 0, _ => none
 | d + 1, t => match P.underlying t with
  | some (.int _) => some [0]
  | some .bool => some [1]
  | some .string => some [2]
  | some (.struct fs) => if P.stoodInHeld t then none else Sv P (Yt P d) 0 fs.toList
  | some (.array n e) => match Yt P d e with
   | some g => if (P.info? e).map (·.size) == some g.length then some ((List.replicate n g).flatten) else none
   | none => none
  | _ => none
theorem Yl : ∀ (k : Nat) (ls ls' : List Lf) (b : Bool), Zb ls ls' = some b → ∃ x y, Zb (ls.take k) (ls'.take k) = some x ∧ Zb (ls.drop k) (ls'.drop k) = some y ∧ b = (x && y)
 | 0, ls, ls', b, h => ⟨true, b, rfl, h, rfl⟩
 | k + 1, [], [], b, h => ⟨true, true, rfl, rfl, by cases h; rfl⟩
 | k + 1, [], _ :: _, b, h => by cases h
 | k + 1, _ :: _, [], b, h => by cases h
 | k + 1, l :: ls, l' :: ls', b, h => by
  unfold Zb at h
  cases e1 : Aqy l l' with
  | none => rw [e1] at h; cases h
  | some p =>
  cases e2 : Zb ls ls' with
  | none => rw [e1, e2] at h; cases h
  | some q =>
  rw [e1, e2] at h
  obtain rfl : (p && q) = b := Option.some.inj h
  obtain ⟨x, y, h1, h2, rfl⟩ := Yl k ls ls' q e2
  refine ⟨p && x, y, ?_, h2, by rw [Bool.and_assoc]⟩
  show Zb (l :: ls.take k) (l' :: ls'.take k) = _
  unfold Zb
  rw [e1, h1]
def At (w : World) (S : Da) (m : List Blk) (H : Nat → Value) (xs : Array Value) (off : Nat) (ls : List Lf) : Prop := ∀ j l, ls[j]? = some l → ∃ v, xs[off + j]? = some v ∧ C1 w S m H l v
theorem At.take {w : World} {S : Da} {m : List Blk} {H : Nat → Value} {xs : Array Value} {off : Nat} {ls : List Lf} (h : At w S m H xs off ls) (k : Nat) : At w S m H xs off (ls.take k) := fun j l hj => by
 rw [List.getElem?_take] at hj
 split at hj
 ·exact h j l hj
 ·cases hj
theorem At.drop {w : World} {S : Da} {m : List Blk} {H : Nat → Value} {xs : Array Value} {off : Nat} {ls : List Lf} (h : At w S m H xs off ls) (k : Nat) : At w S m H xs (off + k) (ls.drop k) := fun j l hj => by
 rw [List.getElem?_drop] at hj
 obtain ⟨v, hv, hr⟩ := h _ l hj
 exact ⟨v, by rw [← hv, Nat.add_assoc], hr⟩
theorem At.part {w : World} {S : Da} {m : List Blk} {H : Nat → Value} {xs : Array Value} {off n : Nat} {ls : List Lf} (h : At w S m H xs off ls) (hl : ls.length = n) : At w S m H (xs.extract off (off + n)) 0 ls := fun j l hj => by
 obtain ⟨v, hv, hr⟩ := h j l hj
 have hjl := (List.getElem?_eq_some_iff.1 hj).1
 have hx := (Array.getElem?_eq_some_iff.1 hv).1
 refine ⟨v, ?_, hr⟩
 rw [Array.getElem?_extract, if_pos (by omega), Nat.zero_add, hv]
def EqG (P : Program) (dd : Nat) (t : TypeId) (g : List Nat) : Prop :=
 ∀ (w : World) (S : Da) (m : List Blk) (H : Nat → Value) (xs ys : Array Value) (off : Nat) (ls ls' : List Lf) (b : Bool), ls.map Lf.tag = g → ls'.map Lf.tag = g → Zb ls ls' = some b → At w S m H xs off ls → At w S m H ys off ls' →
  ∃ u v, (part t xs off).run P w = .ok u w ∧ (part t ys off).run P w = .ok v w ∧ (Op.equalIn dd t u v).run P w = .ok b w
theorem X7 {P : Program} {dd : Nat} {r : TypeId → Option (List Nat)} (hr : ∀ t g, r t = some g → EqG P dd t g) {w : World} {S : Da} {m : List Blk} {H : Nat → Value} {xs ys : Array Value} : ∀ (fs : List Field) (off : Nat) (g : List Nat) (ls ls' : List Lf) (b : Bool),
  Sv P r off fs = some g → ls.map Lf.tag = g → ls'.map Lf.tag = g → Zb ls ls' = some b → At w S m H xs off ls → At w S m H ys off ls' → (Op.eqFields dd xs ys fs).run P w = .ok b w
 | [], off, g, ls, ls', b, hf, hl, hl', he, _, _ => by
  cases hf
  rw [List.map_eq_nil_iff] at hl hl'
  subst hl hl'
  cases he
  rfl
 | f :: fs, off, g, ls, ls', b, hf, hl, hl', he, hx, hy => by
  unfold Sv at hf
  split at hf
  rotate_left
  ·cases hf
  rename_i hnm
  simp only [Bool.and_eq_true, bne_iff_ne, ne_eq, beq_iff_eq] at hnm
  split at hf
  rotate_left
  ·cases hf
  rename_i g1 hg1
  split at hf
  rotate_left
  ·cases hf
  rw [Option.map_eq_some_iff] at hf
  obtain ⟨g2, hg2, rfl⟩ := hf
  obtain ⟨x, y, h1, h2, rfl⟩ := Yl g1.length ls ls' b he
  have t1 : (ls.take g1.length).map Lf.tag = g1 := by rw [List.map_take, hl, List.take_left]
  have t1' : (ls'.take g1.length).map Lf.tag = g1 := by rw [List.map_take, hl', List.take_left]
  have t2 : (ls.drop g1.length).map Lf.tag = g2 := by rw [List.map_drop, hl, List.drop_left]
  have t2' : (ls'.drop g1.length).map Lf.tag = g2 := by rw [List.map_drop, hl', List.drop_left]
  obtain ⟨u, v, p1, p2, p3⟩ := hr _ _ hg1 w S m H xs ys off _ _ x t1 t1' h1 (hx.take _) (hy.take _)
  have ih := X7 hr fs (off + g1.length) g2 _ _ y hg2 t2 t2' h2 (hx.drop _) (hy.drop _)
  unfold Op.eqFields
  rw [if_pos hnm.1, hnm.2]
  simp only [Sem.run_bind, p1, p2, p3, Result.andThen_ok]
  cases x
  ·simp
  ·simp [ih]
theorem Aaa {P : Program} {dd : Nat} {e : TypeId} {g : List Nat} (hr : EqG P dd e g) {w : World} {S : Da} {m : List Blk} {H : Nat → Value} {xs ys : Array Value} : ∀ (n i : Nat) (ls ls' : List Lf) (b : Bool),
  ls.map Lf.tag = (List.replicate n g).flatten → ls'.map Lf.tag = (List.replicate n g).flatten → Zb ls ls' = some b → At w S m H xs (i * g.length) ls → At w S m H ys (i * g.length) ls' → (Op.eqItems dd e g.length xs ys (List.range' i n)).run P w = .ok b w
 | 0, i, ls, ls', b, hl, hl', he, _, _ => by
  simp at hl hl'
  subst hl hl'
  cases he
  rfl
 | n + 1, i, ls, ls', b, hl, hl', he, hx, hy => by
  rw [List.replicate_succ, List.flatten_cons] at hl hl'
  obtain ⟨x, y, h1, h2, rfl⟩ := Yl g.length ls ls' b he
  have t1 : (ls.take g.length).map Lf.tag = g := by rw [List.map_take, hl, List.take_left]
  have t1' : (ls'.take g.length).map Lf.tag = g := by rw [List.map_take, hl', List.take_left]
  have t2 : (ls.drop g.length).map Lf.tag = (List.replicate n g).flatten := by rw [List.map_drop, hl, List.drop_left]
  have t2' : (ls'.drop g.length).map Lf.tag = (List.replicate n g).flatten := by rw [List.map_drop, hl', List.drop_left]
  obtain ⟨u, v, p1, p2, p3⟩ := hr w S m H xs ys _ _ _ x t1 t1' h1 (hx.take _) (hy.take _)
  have ih := Aaa hr n (i + 1) _ _ y t2 t2' h2 (by rw [Nat.succ_mul]; exact hx.drop _) (by rw [Nat.succ_mul]; exact hy.drop _)
  rw [List.range'_succ]
  simp only [Op.eqItems, Sem.run_bind, p1, p2, p3, Result.andThen_ok]
  cases x
  ·simp
  ·simp [ih]
theorem T5 {P : Program} {w : World} {t : TypeId} {n : Nat} {xs : Array Value} {off : Nat} (hu : (∃ fs, P.underlying t = some (.struct fs)) ∨ ∃ k e, P.underlying t = some (.array k e)) (hi : (P.info? t).map (·.size) = some n) : (part t xs off).run P w = .ok (.agg (xs.extract off (off + n))) w := by
 rcases hu with ⟨fs, hu⟩ | ⟨k, e, hu⟩ <;> simp [part, isAgg, run_underlying hu, Cz hi]
theorem Ar5 {P : Program} (d : Nat) : ∀ (k : Nat) (t : TypeId) (g : List Nat), Yt P k t = some g → (P.info? t).map (·.size) = some g.length → EqG P (d + k) t g
 | 0, _, _, h, _ => by cases h
 | k + 1, t, g, h, hsz => by
  intro w S m H xs ys off ls ls' b hl hl' he hx hy
  have hlen : ls.length = g.length := by rw [← hl, List.length_map]
  have hlen' : ls'.length = g.length := by rw [← hl', List.length_map]
  cases hu : P.underlying t with
  | none => unfold Yt at h; rw [hu] at h; cases h
  | some dd =>
  have scal : ∀ c : Nat, g = [c] → c < 3 → Wv (some dd) = c → ∃ u v, (part t xs off).run P w = .ok u w ∧ (part t ys off).run P w = .ok v w ∧ (Op.equalIn (d + (k + 1)) t u v).run P w = .ok b w := by
   intro c hg hc htag
   subst hg
   obtain ⟨l, rfl⟩ := List.length_eq_one_iff.1 (hlen.trans rfl)
   obtain ⟨l', rfl⟩ := List.length_eq_one_iff.1 (hlen'.trans rfl)
   simp only [List.map_cons, List.map_nil, List.cons.injEq, and_true] at hl hl'
   have hf := Tt (P := P) (S := S) (m := m) (H := H) (w := w) (d := d + k) (xs := xs) (ys := ys) [{ name := "x", type := t, offset := off, embedded := false, tag := "", pkgPath := "", byteOffset := 0 }] off [l] [l'] b (by
    simp [Afa, hu, htag, hl]) (by simp [hl, hl']) he hx hy
   obtain ⟨v, hv, -⟩ := hx 0 l rfl
   obtain ⟨v', hv', -⟩ := hy 0 l' rfl
   have ht4 : Wv (P.underlying t) < 4 := by rw [hu, htag]; omega
   refine ⟨v, v', Pg ht4 hv, Pg ht4 hv', ?_⟩
   unfold Op.eqFields at hf
   rw [if_pos (show ("x" : String) ≠ "_" by decide)] at hf
   simp only [Nat.add_zero] at hv hv'
   simp only [Sem.run_bind, Pg ht4 hv, Pg ht4 hv', Result.andThen_ok] at hf
   rw [show d + (k + 1) = d + k + 1 from rfl]
   cases hq : (Op.equalIn (d + k + 1) t v v').run P w with
   | ok q w' =>
    rw [hq] at hf
    simp only [Result.andThen_ok] at hf
    cases q
    ·simpa [Op.eqFields] using hf
    ·simpa [Op.eqFields] using hf
   | _ => rw [hq] at hf; simp [Result.andThen] at hf
  unfold Yt at h
  rw [hu] at h
  cases dd with
  | int q => exact scal 0 (Option.some.inj h).symm (by decide) rfl
  | bool => exact scal 1 (Option.some.inj h).symm (by decide) rfl
  | string => exact scal 2 (Option.some.inj h).symm (by decide) rfl
  | struct fs =>
   dsimp only at h
   split at h
   ·cases h
   rename_i hst
   refine ⟨_, _, T5 (.inl ⟨fs, hu⟩) hsz, T5 (.inl ⟨fs, hu⟩) hsz, ?_⟩
   have hfs : P.fieldsOf t = fs := by simp [Program.fieldsOf, hu]
   rw [show d + (k + 1) = d + k + 1 from rfl, run_equalIn_struct w (d + k) t _ _ (by rw [hfs]; exact hu) (by simpa using hst), hfs]
   exact X7 (r := fun t => match Yt P k t with | some g => if (P.info? t).map (·.size) == some g.length then some g else none | none => none) (fun t g hg => by
    split at hg
    ·split at hg
     ·rename_i g' h1 h2
      cases hg
      exact Ar5 d k t g h1 (by simpa using h2)
     ·cases hg
    ·cases hg) _ 0 g ls ls' b (by
     have key : ∀ (fs : List Field) (off : Nat) (g : List Nat), Sv P (Yt P k) off fs = some g → Sv P (fun t => match Yt P k t with | some g => if (P.info? t).map (·.size) == some g.length then some g else none | none => none) off fs = some g := by
      intro fs
      induction fs with
      | nil => intro off g h; exact h
      | cons f fs ih =>
       intro off g h
       unfold Sv at h ⊢
       split at h
       rotate_left
       ·cases h
       rename_i hnm
       rw [if_pos hnm]
       split at h
       rotate_left
       ·cases h
       rename_i g1 hg1
       split at h
       rotate_left
       ·cases h
       rename_i hsz1
       rw [Option.map_eq_some_iff] at h
       obtain ⟨g2, hg2, rfl⟩ := h
       rw [if_pos hsz1]
       dsimp only
       rw [if_pos hsz1, ih _ _ hg2]
       rfl
     exact key _ _ _ h) hl hl' he (hx.part hlen) (hy.part hlen')
  | array n e =>
   dsimp only at h
   split at h
   rotate_left
   ·cases h
   rename_i g1 hg1
   split at h
   rotate_left
   ·cases h
   rename_i hsz1
   have hsz1 : (P.info? e).map (·.size) = some g1.length := by simpa using hsz1
   cases h
   obtain ⟨i, hi, hi2⟩ := Option.map_eq_some_iff.1 hsz1
   refine ⟨_, _, T5 (.inr ⟨n, e, hu⟩) hsz, T5 (.inr ⟨n, e, hu⟩) hsz, ?_⟩
   rw [show d + (k + 1) = d + k + 1 from rfl, run_equalIn_array w (d + k) _ _ hu hi, show P.cellsOf e = g1.length by simp [Program.cellsOf, hi, hi2], List.range_eq_range']
   exact Aaa (Ar5 d k e g1 hg1 hsz1) n 0 ls ls' b hl hl' he (by rw [Nat.zero_mul]; exact hx.part hlen) (by rw [Nat.zero_mul]; exact hy.part hlen')
  | _ => cases h
end Go.Proofs.YtbjckaahoacbfaaGreatDoor.Abs
namespace Go.Proofs.YtbjckaahoacbfaaGreatDoor.Abs
open Go.RowKit
section
variable {P : Program} {c : Ctx} {st : AS} {ty : TypeId} {xt yt : TypeId} {x y : Operand}
structure EqD (P : Program) (t : TypeId) (g : List Nat) : Prop where
 u : Yt P 8 t = some g
 s : (P.info? t).map (·.size) = some g.length
 g : P.eqGuardType P.depth t = false
 a : (match P.underlying t with | some (.struct _) => true | some (.array _ _) => true | _ => false) = true
theorem Ahk {n : List Nat} (et : EqD P xt n) {ls ls' : List Lf} {b : Bool} (hx : Ch st x = .s (.agg ls)) (hy : Ch st y = .s (.agg ls')) (hn : ls.map Lf.tag = n) (hn' : ls'.map Lf.tag = n) (he : Zb ls ls' = some b) {a : Act} {w : World} {S : Da} {H : Nat → Value} (r : Rel c st a w S H) :
  ∃ cs cs' : Array Value, a.eval x = .agg cs ∧ a.eval y = .agg cs' ∧ (Op.equalIn 10000 xt (.agg cs) (.agg cs')).run P w = .ok b w := by
 have h1 := Bn r x
 rw [hx] at h1
 have h2 := Bn r y
 rw [hy] at h2
 obtain ⟨cs, e1, g1⟩ := h1
 obtain ⟨cs', e2, g2⟩ := h2
 refine ⟨cs, cs', e1, e2, ?_⟩
 have l1 : cs.size = n.length := by rw [← hn, List.length_map]; have := g1.1; simpa using this.symm
 have l2 : cs'.size = n.length := by rw [← hn', List.length_map]; have := g2.1; simpa using this.symm
 have hag : (∃ fs, P.underlying xt = some (.struct fs)) ∨ ∃ k e, P.underlying xt = some (.array k e) := by
  have := et.a
  split at this
  ·exact .inl ⟨_, by assumption⟩
  ·exact .inr ⟨_, _, by assumption⟩
  ·cases this
 obtain ⟨u, v, p1, p2, p3⟩ := Ar5 (P := P) 9992 8 xt n et.u et.s w S st.m H cs cs' 0 ls ls' b hn hn' he (fun j l h => by
  obtain ⟨v, hv, hr⟩ := g1.get h
  exact ⟨v, by simpa using hv, hr⟩) (fun j l h => by
  obtain ⟨v, hv, hr⟩ := g2.get h
  exact ⟨v, by simpa using hv, hr⟩)
 rw [T5 hag et.s] at p1 p2
 have q1 : u = .agg cs := by
  cases p1
  rw [Nat.zero_add, ← l1, Array.extract_size]
 have q2 : v = .agg cs' := by
  cases p2
  rw [Nat.zero_add, ← l2, Array.extract_size]
 subst q1 q2
 exact p3
theorem Aih {n : List Nat} (et : EqD P xt n) {ls ls' : List Lf} {b : Bool} (hx : Ch st x = .s (.agg ls)) (hy : Ch st y = .s (.agg ls')) (hn : ls.map Lf.tag = n) (hn' : ls'.map Lf.tag = n) (he : Zb ls ls' = some b) : OpV P c st (.binOp .eql xt x y yt) ty (.s (.one (.b b))) := by
 intro a w S H r
 obtain ⟨cs, cs', e1, e2, h⟩ := Ahk et hx hy hn hn' he r
 refine ⟨.bool b, Gw (.b _), fun _ _ _ _ => ?_⟩
 simp only [execOp, e1, e2, Sem.run_bind, run_eqGuard_agg w _ xt x y cs cs' et.g, Result.andThen_ok, run_eql_struct, h]
 rfl
theorem Ac6 {n : List Nat} (et : EqD P xt n) {ls ls' : List Lf} {b : Bool} (hx : Ch st x = .s (.agg ls)) (hy : Ch st y = .s (.agg ls')) (hn : ls.map Lf.tag = n) (hn' : ls'.map Lf.tag = n) (he : Zb ls ls' = some b) : OpV P c st (.binOp .neq xt x y yt) ty (.s (.one (.b (!b)))) := by
 intro a w S H r
 obtain ⟨cs, cs', e1, e2, h⟩ := Ahk et hx hy hn hn' he r
 refine ⟨.bool (!b), Gw (.b _), fun _ _ _ _ => ?_⟩
 simp only [execOp, e1, e2, Sem.run_bind, run_eqGuard_agg w _ xt x y cs cs' et.g, Result.andThen_ok, run_neq_struct, h]
 rfl
theorem G8 {t n e sz : Nat} {zl out : List Lf} {Gb : Array (Nat × Operand)} {xs : List (Nat × SV)} (zi : ZI P t zl) (ai : AI P t n e sz) (hp : Xo st Gb.toList xs) (hb : Ul (fun i : Nat => some (i * sz, sz)) zl xs out) :
  OpV P c st (.build t Gb) ty (.s (.agg out)) := by
 intro a w S H r
 obtain ⟨i, z, hi, hz, hl, ho⟩ := zi.h
 have hpr := Tv r hp
 have hz0 : LsR (C1 w S st.m H) zl z.cells.toList := by rw [← hl]; exact Vu ho
 obtain ⟨cells', hf, hr⟩ := W2 (fun l v => C1.oneCell) hb z.cells _ hz0 hpr.1 hpr.2
 refine ⟨.agg cells', ⟨cells', rfl, hr⟩, fun _ _ _ _ => ?_⟩
 have hfill : Instr.fill (fun j : Nat => some (j * sz, sz)) z.cells ((Gb.map fun x => (x.1, a.eval x.2)).toList) = some cells' := by
  rw [Array.toList_map]
  exact hf
 simp only [execOp, Instr.build, Sem.run_bind, zeroValue, typeInfo, run_program, Result.andThen_ok, hi, hz, Sem.run_pure, run_underlying ai.u, Cz ai.i]
 rw [show (fun x : Nat × Operand => (x.1, a.eval x.2)) = (fun x => match x with | (i, x) => (i, a.eval x)) from rfl] at hfill
 simp only [hfill, Sem.run_pure, Result.andThen_ok]
theorem L6 {t n e p q : Nat} {k : IntKind} {j : Int} (ai : AI P t n e 1) (hx : Ch st x = .s (.one (.lp p q))) (hy : Ch st y = .s (.one (.i k j))) (h : 0 ≤ j ∧ j < n) :
  OpV P c st (.indexAddr t x y) ty (.s (.one (.lp p (q + j.toNat)))) := by
 have := M6 (P := P) (c := c) (ty := ty) ai hx rfl hy (fun _ _ _ h => by cases h) h.1 h.2
 rwa [Nat.mul_one] at this
theorem Vv {α : Type} {t p o : Nat} {cs : List Lf} {xs : List α} {j : Int} {u : α} (g : α → Lf) (post : List Lf) (ti : TI P t false 1) (hx : Ch st x = .s (.one (.lp p (o + j.toNat)))) (hm : st.m[p]? = some (.box cs)) (hcs : cs.drop o = xs.map g ++ post) (hu : idx xs j = some u) :
  OpV P c st (.load t x) ty (.s (.one (g u))) := by
 refine Ae ti hx (.lp _ _ _ hm) ?_
 have hu := (Tk hu).2
 have hlt := (List.getElem?_eq_some_iff.1 hu).1
 rw [← List.drop_drop, hcs, List.getElem?_drop, Nat.add_zero, List.getElem?_append_left (by rw [List.length_map]; exact hlt), List.getElem?_map, hu]
 rfl
end
theorem Aa0 {j : Int} {n : Nat} {o : Nat} {cs : List Lf} (h : 0 ≤ j ∧ j < n) (hn : o + n ≤ cs.length) : o + j.toNat + 1 ≤ cs.length := by omega
theorem Ahz (pre xs : List Lf) (k : Nat) (ls : List Lf) : Jk (pre ++ xs) (pre.length + k) ls = pre ++ Jk xs k ls := by
 unfold Jk
 rw [List.take_length_add_append, Nat.add_assoc, List.drop_length_add_append, List.append_assoc, List.append_assoc, List.append_assoc]
theorem Rd {M : List Blk} {p : Nat} {a b : List Lf} (h : a = b) : M.set p (.box a) = M.set p (.box b) := by rw [h]
end Go.Proofs.YtbjckaahoacbfaaGreatDoor.Abs
namespace Go.Proofs.YtbjckaahoacbfaaGreatDoor.Abs
section
variable {P : Program} {c : Ctx} {st : AS} {ty : TypeId}
end
theorem ccI {P : Program} {c : Ctx} {x y : Code} {o : Operand} {t : Nat → AV} {m : List Blk} {Q : Exit → AS → Prop} {b : Bool} {α : Type} {u v : Option α} {r : α} (h : (if b then u else v) = some r) (ho : Ch ⟨t, m⟩ o = .s (.one (.b b)))
  (h1 : u = some r → AWC P c x Q ⟨t, m⟩) (h0 : v = some r → AWC P c y Q ⟨t, m⟩) : AWC P c (.cond o x y) Q ⟨t, m⟩ := Hq ho (fun hc => h1 (B2 hc h)) (fun hc => h0 (B3 hc h))
section
variable {P : Program} {c : Ctx} {st : AS} {ty : TypeId}
def Aqr (d : TypeDesc) : Bool := match d with | .func .. => true | _ => false
theorem Aj1 (d : Nat) {w : World} {t : TypeId} {ds : TypeDesc} (h : P.underlying t = some ds) (hd : Aqr ds = true) : (Op.equalIn (d + 1) t .nilFunc .nilFunc).run P w = .ok true w := by
 cases ds <;> first | (cases hd; done) | simp [Op.equalIn, run_underlying h]
theorem Aji (d : Nat) {w : World} {t : TypeId} {ds : TypeDesc} {f : Fn} {va vb : Array Value} (h : P.underlying t = some ds) (hd : Aqr ds = true) : (Op.equalIn (d + 1) t (.func f va vb) .nilFunc).run P w = .ok false w := by
 cases ds <;> first | (cases hd; done) | simp [Op.equalIn, run_underlying h]
theorem Ju {xt yt : TypeId} {x : Operand} {d : TypeDesc} {f : FuncId} (hu : P.underlying xt = some d) (hx : Ch st x = .s (.one (.raw (.func (.func f) #[] #[])))) (hd : Aqr d = true := by rfl) : OpV P c st (.binOp .eql xt x (.const .nilFunc) yt) ty (.s (.one (.b false))) := by
 intro a w S H r
 have hx' := Bn r x
 rw [hx] at hx'
 have hv : a.eval x = .func (.func f) #[] #[] := Ma hx'
 refine ⟨.bool false, Gw (.b _), fun _ _ _ _ => ?_⟩
 have hc : a.eval (.const .nilFunc) = .nilFunc := rfl
 simp [execOp, hv, hc, eqGuard, binOp, Op.equal, show Op.maxDepth = 9999 + 1 from rfl, Aji 9999 hu hd]
theorem Acm {xt yt : TypeId} {x : Operand} {d : TypeDesc} (hu : P.underlying xt = some d) (hx : Ch st x = .s (.one (.raw .nilFunc))) (hd : Aqr d = true := by rfl) : OpV P c st (.binOp .eql xt x (.const .nilFunc) yt) ty (.s (.one (.b true))) := by
 intro a w S H r
 have hx' := Bn r x
 rw [hx] at hx'
 have hv : a.eval x = .nilFunc := Ma hx'
 refine ⟨.bool true, Gw (.b _), fun _ _ _ _ => ?_⟩
 have hc : a.eval (.const .nilFunc) = .nilFunc := rfl
 simp [execOp, hv, hc, eqGuard, binOp, Op.equal, show Op.maxDepth = 9999 + 1 from rfl, Aj1 9999 hu hd]
end
end Go.Proofs.YtbjckaahoacbfaaGreatDoor.Abs
