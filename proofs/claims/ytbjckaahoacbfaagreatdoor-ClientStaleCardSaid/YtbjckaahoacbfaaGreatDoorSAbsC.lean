/- . -/
import Derived.Test.YtbjckaahoacbfaaGreatDoorSAbsB
import Derived.WalkKit
import Derived.Lib.Walk
import Derived.Lib.SliceRun
import Derived.Lib.JoinLaws
import Derived.Lib.AppendZeros
import Derived.Lib.AppendZerosOnto
import Derived.Lib.Overlaps
import Derived.Laws.Externs
import Derived.Laws.IdiomCopy
import Derived.Laws.NewBlocks
import Derived.Shelf.RegionOpenPlain
import Derived.Shelf.Spec.SlicesInsert
import Derived.Lib.ConvBytes
import Derived.Maps.Range
import Derived.Shelf.SlSortCmp.WholeK
import Derived.Shelf.SlSortCmp.NoneTotal
import Derived.Shelf.SortM.Plain
import Derived.Shelf.SortM.SortNone
import Derived.Shelf.SlicesE.Compact
import Derived.Conc.LoneSelect
import Derived.Test.YtbjckaahoacbfaaGreatDoorSAbsA
import Derived.SizedLaws
import Derived.OpenShut
import Derived.ChangeKeysEq
import Derived.LaidEql
import Derived.Stop.Asserts
import Derived.Stop.IfaceNil
import Derived.RowKitTokens
import Derived.Lib.IfaceEq
set_option linter.unusedVariables false
set_option linter.unusedSimpArgs false
namespace Go.Proofs.YtbjckaahoacbfaaGreatDoor.Abs
open Go.RowKit
structure FrK where
 ds : List Deferred
 Z : List (Nat × Obj)
def Ads (Q : Exit → AS → Prop) : Prop := ∀ st, ¬ Q .outgrown st
def QI (c : Ctx) (ok : FrK → Prop) (K : FrK) (Q : Exit → AS → Prop) : Exit → Act → World → Prop := fun e a w =>
 ∃ K' st S H a0, ok K' ∧ (∀ z ∈ K.Z, z ∈ K'.Z) ∧ a = dsl a0 K'.ds ∧ Rel c st a0 w S H ∧ Zed w K'.Z ∧ Q e st
def AWI (rd : Option Nat) (P : Program) (c : Ctx) (ok : FrK → Prop) (x : Code) (Q : Exit → AS → Prop) (st : AS) : Prop :=
 Ads Q → ∀ K, ok K → ∀ a w S H, Rel c st a w S H → Zed w K.Z → x.wpIn (FW rd) 0 P (QI c ok K Q) (dsl a K.ds) w
section
variable {rd : Option Nat} {P : Program} {c : Ctx} {ok : FrK → Prop} {Q : Exit → AS → Prop} {t : Nat → AV} {m : List Blk}
theorem Ads.then {n : AS → Prop} (h : Ads Q) : Ads (Qv n Q) := fun st hs => h st hs
theorem Ads.block {id : Nat} (h : Ads Q) : Ads (M7 id Q) := fun st hs => h st hs
theorem U2 {id : Nat} {l : List Oper} (hnd : l.all ndf = true) (h : ∀ w0 S0 X m0 H0, AWL P ⟨w0, S0, c.nt, X, m0, H0⟩ l.toArray Q l ⟨t, m⟩) : AWI rd P c ok (.region id l.toArray false) Q ⟨t, m⟩ := by
 intro hq K hK a w S H r z
 refine wpIn_region_lit (Zi (Q1 := QR (c.now ⟨t, m⟩ w S H) Q) ?_ ?_ ?_ l hnd a w (h _ _ _ _ _ a w S H r.now))
 ·rintro ⟨a, w, st, S, H, _, h⟩; exact hq st h
 ·rintro e a w ⟨st, S, H, r, _⟩; exact r.df
 ·rintro e a' w' ⟨st', S', H', r', h⟩
  exact ⟨K, st', S', H', a', hK, fun _ h => h, rfl, r.then_now r', z.now r r'.ex, h⟩
theorem AWI.mono {x : Code} {st : AS} {Q Q' : Exit → AS → Prop} (h : AWI rd P c ok x Q st) (hq : ∀ e st, Q e st → Q' e st) : AWI rd P c ok x Q' st := by
 intro hn K hK a w S H r z
 refine wpIn_mono (h (fun st hs => hn st (hq _ _ hs)) K hK a w S H r z) ?_
 rintro e a w ⟨K', st, S, H, a0, h1, h2, h3, h4, h5, h6⟩
 exact ⟨K', st, S, H, a0, h1, h2, h3, h4, h5, hq _ _ h6⟩
theorem Apu {x y : Code} (h : AWI rd P c ok x (Qv (AWI rd P c ok y Q) Q) ⟨t, m⟩) : AWI rd P c ok (.seq x y) Q ⟨t, m⟩ := by
 intro hn K hK a w S H r z
 refine wpIn_seq (wpIn_mono (h hn.then K hK a w S H r z) ?_)
 rintro e a w ⟨K', st, S, H, a0, h1, h2, rfl, h4, h5, h6⟩
 cases e with
 | normal =>
  have h6' : AWI rd P c ok y Q st := h6
  refine wpIn_mono (h6' hn K' h1 a0 w S H h4 h5) ?_
  rintro e a w ⟨K2, st, S, H, a0, g1, g2, g3, g4, g5, g6⟩
  exact ⟨K2, st, S, H, a0, g1, fun z hz => g2 z (h2 z hz), g3, g4, g5, g6⟩
 | _ => exact ⟨K', st, S, H, a0, h1, h2, rfl, h4, h5, h6⟩
theorem Axf (h : Q .normal ⟨t, m⟩) : AWI rd P c ok .skip Q ⟨t, m⟩ := fun _ K hK a _ S H r z => wpIn_skip ⟨K, _, S, H, a, hK, fun _ h => h, rfl, r, z, h⟩
theorem Aza (h : Q .ret ⟨t, m⟩) : AWI rd P c ok .ret Q ⟨t, m⟩ := fun _ K hK a _ S H r z => wpIn_ret ⟨K, _, S, H, a, hK, fun _ h => h, rfl, r, z, h⟩
theorem Aox {id : Nat} {x : Code} (h : AWI rd P c ok x (M7 id Q) ⟨t, m⟩) : AWI rd P c ok (.block id x) Q ⟨t, m⟩ := by
 intro hn K hK a w S H r z
 refine wpIn_block (wpIn_mono (h hn.block K hK a w S H r z) ?_)
 rintro e a w ⟨K', st, S, H, a0, h1, h2, h3, h4, h5, hq⟩
 cases e with
 | exit id' =>
  simp only [M7] at hq
  simp only [Exit.inBlock]
  split
  ·rename_i h; rw [if_pos h] at hq; exact ⟨K', st, S, H, a0, h1, h2, h3, h4, h5, hq⟩
  ·rename_i h; rw [if_neg h] at hq; exact ⟨K', st, S, H, a0, h1, h2, h3, h4, h5, hq⟩
 | _ => exact ⟨K', st, S, H, a0, h1, h2, h3, h4, h5, hq⟩
theorem Awn {o : Operand} {x y : Code} {b : Bool} (ho : Ca ⟨t, m⟩ o = .s (.one (.b b))) (h1 : b = true → AWI rd P c ok x Q ⟨t, m⟩) (h0 : b = false → AWI rd P c ok y Q ⟨t, m⟩) : AWI rd P c ok (.cond o x y) Q ⟨t, m⟩ := by
 intro hn K hK a w S H r z
 have h := Bm r o
 rw [ho] at h
 have hv : (dsl a K.ds).eval o = .bool b := by rw [Abw]; exact Ud (h : Rep w S (.b b) (a.eval o))
 exact wpIn_cond_split hv (fun hb => h1 hb hn K hK a w S H r z) (fun hb => h0 hb hn K hK a w S H r z)
end
section
variable {rd : Option Nat} {P : Program} {c : Ctx} {ok : FrK → Prop} {Q : Exit → AS → Prop} {t : Nat → AV} {M : List Blk}
end
def W9 (D : Nat) : Deferred := { target := .collected D, args := #[] }
def okO (c : Ctx) (K : FrK) : Prop := ∃ Ds : List Nat, K.ds = Ds.map W9 ∧ K.Z = Ds.map (fun D => (D, .deferred (some []))) ∧ Ds.Nodup ∧ ∀ D ∈ Ds, c.w0.heap.size ≤ D
def okB (K : FrK) : Prop := K.ds = []
theorem Xa {P : Program} {fn : Func} {R : Ending → World → Prop} {c : Ctx} {st : AS} {a : Act} {S : Dh} {H : Nat → Value} (hR : ∀ w', Rel c st a w' S H → ∃ v, (results fn a.tmps).run P w' = .ok v w' ∧ R (.returned v) w') :
  ∀ (Ds : List Nat) (w : World), Ds.Nodup → (∀ D ∈ Ds, c.w0.heap.size ≤ D) → Zed w (Ds.map (fun D => (D, .deferred (some [])))) → Rel c st a w S H → LeavesInM Fence.wide 0 P fn a.tmps R (Ds.map W9) .returning w
 | [], w, _, _, _, r => hR w r
 | D :: Ds, w, hn, hge, z, r => by
  have hD : w.heap[D]? = some (.deferred (some [])) := (z (D, .deferred (some [])) (List.mem_cons_self ..)).1
  refine ⟨by simp, .inl ⟨D, w.putObj D (.deferred none), rfl, run_takeDeferred hD, Xa hR Ds _ (List.nodup_cons.1 hn).2 (fun D' h => hge D' (List.mem_cons_of_mem _ h)) ?_ (r.putObj _ hD rfl rfl (hge D (List.mem_cons_self ..)))⟩⟩
  refine Zed.putObj (fun x hx => z x (List.mem_cons_of_mem _ hx)) fun x hx e => ?_
  rw [List.mem_map] at hx
  obtain ⟨D', h1, rfl⟩ := hx
  exact (List.nodup_cons.1 hn).1 (e ▸ h1)
theorem Ag2 {P : Program} {f : FuncId} {fn : Func} {body : Code} {args : List SV} {R : AV → Prop} (hf : P.funcs[f]? = some fn) (hb : fn.body = some body) {nt : Nat} (hnt : fn.ntmps = nt) (hn : args.length ≤ nt)
  (h : ∀ w0 S0, AWI none P (Ctx.of w0 S0 nt) (okO (Ctx.of w0 S0 nt)) body (Done P fn R) ⟨Aoe args, []⟩) : Bl P f args R := by
 subst hnt
 intro w S vs hS hv
 refine callsIn_wide.1 (callsIn_of_wp_marks (n := 0) hf hb trivial ?_)
 have hlen : vs.size = args.length := by have := hv.1; simp at this; omega
 have hget : ∀ i, (vs ++ Array.replicate (fn.ntmps - vs.size) undef).getD i undef = vs.getD i undef := by
  intro i
  simp only [Array.getD_eq_getD_getElem?, Array.getElem?_append]
  split
  ·rfl
  ·rename_i hi
   rw [Array.getElem?_replicate]
   have : vs[i]? = none := Array.getElem?_eq_none (by omega)
   rw [this]
   split <;> rfl
 have r0 : Rel (Ctx.of w S fn.ntmps) ⟨Aoe args, []⟩ { tmps := vs ++ Array.replicate (fn.ntmps - vs.size) undef, defers := [] } w S (fun _ => undef) := by
  refine ⟨by simp; omega, rfl, fun i => ?_, fun p b h => by simp at h, fun p b g h => by simp at h, fun p q b b' g h => by simp at h, fun p b g i h => by simp at h, hS, Xv.refl _ w S, Nat.zero_le _, fun p g h => absurd h (Nat.not_lt_zero _), fun p e sz k cs h => absurd h (Nat.not_lt_zero _), fun p h => absurd h (Nat.not_lt_zero _)⟩
  rw [hget]
  show AVR _ (match args[i]? with | some x => .s x | none => .tup []) _
  cases ha : args[i]? with
  | none =>
   have : vs[i]? = none := Array.getElem?_eq_none (by rw [hlen]; exact List.getElem?_eq_none_iff.1 ha)
   simp only [Array.getD_eq_getD_getElem?, this, Option.getD_none]
   exact Nr
  | some x =>
   have hi : i < args.length := (List.getElem?_eq_some_iff.1 ha).1
   have hi' : i < vs.size := by omega
   have : vs[i]? = some vs[i] := Array.getElem?_eq_getElem hi'
   simp only [Array.getD_eq_getD_getElem?, this, Option.getD_some]
   exact SVR.mono (fun _ _ => C9.of_rep) (hv.2 i x _ ha (by simp))
 have hno : Ads (Done P fn R) := fun st hs => by rcases hs.1 with h | h <;> cases h
 refine wpIn_mono (h w S hno ⟨[], []⟩ ⟨[], rfl, rfl, List.nodup_nil, fun D h => by cases h⟩ _ w S _ r0 (fun x h => by cases h)) ?_
 rintro e a w1 ⟨K', st, S1, H, a0, ⟨Ds, h1, h2, h3, h4⟩, _, rfl, r, z, he, xs, ys, m', hx, hp, hR⟩
 have key : LeavesInM Fence.wide 0 P fn a0.tmps (fun e w' => ∃ v x S', e = .returned v ∧ R x ∧ Ext w S w' S' ∧ InH w' S' ∧ AVR (Rep w' S') x v) (Ds.map W9) .returning w1 := by
  refine Xa (c := Ctx.of w S fn.ntmps) (st := st) (S := S1) (H := H) (fun w' r => ?_) Ds w1 h3 h4 (by rw [← h2]; exact z) r
  obtain ⟨u, hu, hk⟩ := Zg r hx
  obtain ⟨S2, k2, g2⟩ := hp.keeps r
  exact ⟨u, hu, u, Afl ys, S2, rfl, hR, k2.rel.ex.toExt (fun _ h => h), k2.rel.sl, hk S2 ys g2⟩
 rw [← h1] at key
 rcases he with rfl | rfl
 ·exact key
 ·exact key
structure Al1 (w : World) (S : Dh) (w' : World) (S' : Dh) : Prop where
 st : ∀ b i, S b i → S' b i ∧ w'.cell? ⟨b, i, none⟩ = w.cell? ⟨b, i, none⟩
 sl : InH w' S'
def Anm (P : Program) (fc : FuncId) (cap : List Lf) (L : List (SV × SV)) : Prop :=
 ∀ (l : Nat) (J : Nat → World → Dh → Prop) (Jx : World → Dh → Prop) (w : World) (S : Dh) (vs : Array Value),
  (∀ k w S w' S', J k w S → Ext w S w' S' → InH w' S' → J k w' S') → (∀ w S w' S', Jx w S → Ext w S w' S' → InH w' S' → Jx w' S') →
  (∀ k x y w S v u, L[k]? = some (x, y) → J k w S → InH w S → SVR (Rep w S) x v → SVR (Rep w S) y u →
   ∃ fn tmps assign body, (Instr.yield l #[v, u]).run P w = .ok (.round l fn tmps assign body) w ∧
    RoundIn Fence.wide 0 P l fn tmps assign body w (fun e w' => ∃ b S', e = .returned (.bool b) ∧ Al1 w S w' S' ∧ (if b then J (k + 1) w' S' else Jx w' S'))) →
  J 0 w S → InH w S → LsR (Rep w S) cap vs.toList →
  Calls P fc (#[.func (.yield l) #[] #[]] ++ vs) w fun e w' => ∃ v S', e = .returned v ∧ InH w' S' ∧ (J L.length w' S' ∨ Jx w' S')
def RQ {G : Type} (mm : G → List Blk) (pre : G → Prop) (jmp : Code → G → Prop) : Exit → AS → Prop
 | .normal, st => ∃ g ex, pre g ∧ st.m = mm g ++ ex
 | .ret, st => ∃ g ex, jmp .ret g ∧ st.m = mm g ++ ex
 | .exit id, st => ∃ g ex, jmp (.exit id) g ∧ st.m = mm g ++ ex
 | _, _ => False
theorem Rel.swap {c : Ctx} {t t' : Nat → AV} {m : List Blk} {a a' : Act} {w : World} {S : Dh} {H : Nat → Value} (r : Rel c ⟨t', m⟩ a' w S H) (hn : a.tmps.size = c.nt) (hd : a.defers = []) (tm : ∀ i, AVR (C9 w S m H) (t i) (a.tmps.getD i undef)) : Rel c ⟨t, m⟩ a w S H :=
 ⟨hn, hd, tm, r.bl, r.lo, r.inj, r.sb, r.sl, r.ex, r.kl, r.kh, r.kr, r.ku⟩
section
variable {P : Program} {c : Ctx} {Q : Exit → AS → Prop} {t : Nat → AV} {m : List Blk}
theorem Aui {go : Operand} {p1 p2 : Tmp} {assign body : Code} {fc : FuncId} {cap : List Lf} {L : List (SV × SV)} {G : Type} (mm : G → List Blk) (pre : Nat → G → Prop) (jmp : Code → G → Prop) (g0 : G)
  (hg : Ca ⟨t, m⟩ go = .s (.one (.fn fc [] cap))) (hfc : FnI P fc) (hcap : cap.all Lf.pubd0 = true) (hit : Anm P fc cap L) (hp1 : decide (p1 < c.nt) = true) (hp2 : decide (p2 < c.nt) = true)
  (h0 : pre 0 g0) (hm : m = mm g0) (hlen : ∀ g, (mm g).length = m.length) (hmin : ∀ g, ∀ b ∈ mm g, b.inb (mm g).length)
  (round : ∀ k x y g l, L[k]? = some (x, y) → pre k g → ∀ w0 S0 X H0, AWI (some l) P ⟨w0, S0, c.nt, X, mm g, H0⟩ okB assign
   (Qv (fun st1 => ∀ w0 S0 X H0, AWI (some l) P ⟨w0, S0, c.nt, X, st1.m, H0⟩ okB body (RQ mm (pre (k + 1)) jmp) st1) (fun _ _ => False)) ⟨upd (upd t p1 (.s x)) p2 (.s y), mm g⟩)
  (done : ∀ g, pre L.length g → Q .normal ⟨t, mm g⟩) (hret : ∀ g, jmp .ret g → Q .ret ⟨t, mm g⟩) (hex : ∀ id g, jmp (.exit id) g → Q (.exit id) ⟨t, mm g⟩) :
  AWI none P c (okO c) (.rangeFunc go #[p1, p2] assign body) Q ⟨t, m⟩ := by
 intro hq K hK a w S H r z
 obtain ⟨Ds, hds, hZ, hnd, hge⟩ := hK
 have hp1' : p1 < c.nt := of_decide_eq_true hp1
 have hp2' : p2 < c.nt := of_decide_eq_true hp2
 have hgo := Bm r go
 rw [hg] at hgo
 obtain ⟨va, vb, hgv, hva, hvb⟩ := hgo
 have hva0 : va = #[] := Array.eq_empty_of_size_eq_zero (by have := hva.1; simpa using this.symm)
 subst hva0
 refine wpIn_rangeFunc fun fn _ => ?_
 obtain ⟨D, hD⟩ : ∃ D, D = w.heap.size := ⟨_, rfl⟩
 obtain ⟨l, hl⟩ : ∃ l, l = w.heap.size + 1 := ⟨_, rfl⟩
 obtain ⟨rec, hrec⟩ : ∃ rec : LoopState → Option Code → Loop, rec = fun st pe => { state := st, pending := pe, fn, tmps := a.tmps, params := #[p1, p2], assign, body, defers := w.heap.size } := ⟨_, rfl⟩
 obtain ⟨W1, hW1⟩ : ∃ W1, (w.alloc (.deferred (some []))).alloc (.loop (rec .ready none)) = W1 := ⟨_, rfl⟩
 have hx1 : Ext w S W1 S := by rw [← hW1]; exact (Ext.alloc w S _).trans (Ext.alloc _ S _)
 have hS1 : InH W1 S := InH.ext hx1 r.sl
 have hL1 : W1.heap[l]? = some (.loop (rec .ready none)) := by
  rw [← hW1, hl]; have := World.alloc_heap_new (w.alloc (.deferred (some []))) (.loop (rec .ready none)); rwa [World.size_alloc] at this
 have hD1 : W1.heap[D]? = some (.deferred (some [])) := by
  rw [← hW1, hD]; exact (Below.heap_alloc _ _ _ (by simp)).trans (World.alloc_heap_new w _)
 have hcl : c.w0.heap.size ≤ l := by rw [hl]; exact Nat.le_trans r.ex.size (Nat.le_succ _)
 have hDl : D ≠ l := by omega
 have hZl : ∀ x ∈ K.Z, x.1 < w.heap.size := fun x hx => (Array.getElem?_eq_some_iff.1 (z x hx).1).1
 let Zr : Obj → List (Nat × Obj) := fun o => (l, o) :: (D, .deferred (some [])) :: K.Z
 have zput : ∀ {w' : World} {o : Obj} (o' : Obj), Z7 o' = false → Zed w' (Zr o) → Zed (w'.putObj l o') (Zr o') := by
  intro w' o o' ho' zz x hx
  rcases List.mem_cons.1 hx with rfl | hx
  ·exact ⟨World.putObj_heap_same (Array.getElem?_eq_some_iff.1 (zz (l, o) (List.mem_cons_self ..)).1).1, ho'⟩
  ·have h1 := zz x (List.mem_cons_of_mem _ hx)
   have hne : x.1 ≠ l := by
    rcases List.mem_cons.1 hx with rfl | hx
    ·exact hDl
    ·have := hZl x hx; omega
   exact ⟨(World.putObj_heap_other hne).trans h1.1, h1.2⟩
 let J : Nat → World → Dh → Prop := fun k W S => ∃ g H, pre k g ∧ Rel c ⟨t, mm g⟩ a W S H ∧ Zed W (Zr (.loop (rec .ready none)))
 let Jx : World → Dh → Prop := fun W S => ∃ jc g H, jmp jc g ∧ (jc = .ret ∨ ∃ id, jc = .exit id) ∧ Rel c ⟨t, mm g⟩ a W S H ∧ Zed W (Zr (.loop (rec .done (some jc))))
 have hJ0 : J 0 W1 S := by
  refine ⟨g0, H, h0, by rw [← hm]; exact r.ext hx1 hS1, fun x hx => ?_⟩
  rcases List.mem_cons.1 hx with rfl | hx
  ·exact ⟨hL1, rfl⟩
  ·rcases List.mem_cons.1 hx with rfl | hx
   ·exact ⟨hD1, rfl⟩
   ·exact (z.ext hx1) x hx
 have hcapR : LsR (Rep W1 S) cap vb.toList := by
  refine ⟨hvb.1, fun j x v h1 h2 => ?_⟩
  exact Rep.mono (hx1.keeps r.sl) (Ir.rep (hvb.2 j x v h1 h2) ((List.all_eq_true.1 hcap) x (List.mem_of_getElem? h1)))
 have hev : (dsl a K.ds).eval go = .func (.func fc) #[] vb := by rw [Abw]; exact hgv
 refine ⟨l, [W9 D], W1, { target := .fn (.func fc) vb, args := #[.func (.yield l) #[] #[]] }, W1, fc, #[.func (.yield l) #[] #[]] ++ vb, W1, ?_, ?_, fun _ _ => trivial, ?_, fun hh => (by simp [FW, Fence.wide] at hh), ?_⟩
 ·rw [← hW1, hrec, hl, hD]; exact run_enterLoop_outer _ _ _ _ _
 ·simp only [resolve, hev]
  simp [Deferred.ofValue, Act.eval]
 ·simp [invoke, hfc.run]
 ·refine Z8 ((hit l J Jx W1 S vb ?_ ?_ ?_ hJ0 hS1 hcapR).mono ?_)
  ·rintro k w S w' S' ⟨g, H, h1, h2, h3⟩ hx hin
   exact ⟨g, H, h1, h2.ext hx hin, h3.ext hx⟩
  ·rintro w S w' S' ⟨jc, g, H, h1, h1', h2, h3⟩ hx hin
   exact ⟨jc, g, H, h1, h1', h2.ext hx hin, h3.ext hx⟩
  ·
   rintro k x0 y W S v u hxy ⟨g, H, hp, r1, z1⟩ hin hv hu
   have hl1 : W.heap[l]? = some (.loop (rec .ready none)) := (z1 (l, _) (List.mem_cons_self ..)).1
   have hy := run_yield (P := P) (args := #[v, u]) hl1 (by rw [hrec]; rfl)
   rw [hrec] at hy
   have r2 : Rel c ⟨upd (upd t p1 (.s x0)) p2 (.s y), mm g⟩ ((a.put (some p1) v).put (some p2) u) W S H :=
    (r1.put hp1' (show AVR _ (.s x0) v from SVR.mono (fun _ _ h => C9.of_rep h) hv)).put hp2' (show AVR _ (.s y) u from SVR.mono (fun _ _ h => C9.of_rep h) hu)
   refine ⟨fn, _, assign, body, hy, roundIn_of_wpIn trivial ?_⟩
   have hA := round k x0 y g l hxy hp W S (Asa (mm g) H) H (fun st hs => hs) ⟨[], Zr (.loop (rec .ready none))⟩ rfl _ W S H r2.now z1
   have hact : dsl ((a.put (some p1) v).put (some p2) u) [] = { tmps := (#[p1, p2].zip #[v, u]).foldl (fun t (x : Tmp × Value) => t.setIfInBounds x.1 x.2) a.tmps, defers := [] } := by simp [dsl, Act.put]
   rw [hact] at hA
   refine wpIn_mono hA ?_
   rintro e a1 w1 ⟨K1, st1, S1, H1, a10, hok1, hz1, rfl, r3, z3, hq1⟩
   cases e with
   | normal =>
    have hK1 : K1.ds = [] := hok1
    have z3' : Zed w1 (Zr (.loop (rec .ready none))) := fun x hx => z3 x (hz1 x hx)
    have hl3 : w1.heap[l]? = some (.loop (rec .ready none)) := (z3' (l, _) (List.mem_cons_self ..)).1
    refine ⟨_, run_beginRound hl3 (by rw [hrec]), ?_⟩
    have r3c : Rel c st1 a10 w1 S1 H1 := r2.then_now r3
    have hb3 : ({ rec .ready none with state := .busy } : Loop) = rec .busy none := by rw [hrec]
    rw [hb3]
    have r4 : Rel c st1 a10 (w1.putObj l (.loop (rec .busy none))) S1 H1 := r3c.putObj _ hl3 rfl rfl hcl
    have z4 := zput (.loop (rec .busy none)) rfl z3'
    have hB := hq1 (w1.putObj l (.loop (rec .busy none))) S1 (Asa st1.m H1) H1 (fun st hs => hs) ⟨[], Zr (.loop (rec .busy none))⟩ rfl a10 _ S1 H1 r4.now z4
    rw [hK1]
    refine wpIn_mono hB ?_
    have fin : ∀ (st' : AS) (a0' : Act) (w3 : World) (S3 : Dh) (H3 : Nat → Value) (K3 : FrK) (g' : G) (ex : List Blk) (o' : Obj), (∀ z ∈ Zr (.loop (rec .busy none)), z ∈ K3.Z) → Rel (c.now st1 (w1.putObj l (.loop (rec .busy none))) S1 H1) st' a0' w3 S3 H3 → Zed w3 K3.Z → st'.m = mm g' ++ ex → Z7 o' = false →
      w3.heap[l]? = some (.loop (rec .busy none)) ∧ Al1 W S (w3.putObj l o') S3 ∧ ∃ H4, Rel c ⟨t, mm g'⟩ a (w3.putObj l o') S3 H4 ∧ Zed (w3.putObj l o') (Zr o') := by
     intro st' a0' w3 S3 H3 K3 g' ex o' hz3 r5 z5 hm' ho'
     have z5' : Zed w3 (Zr (.loop (rec .busy none))) := fun x hx => z5 x (hz3 x hx)
     have hl5 : w3.heap[l]? = some (.loop (rec .busy none)) := (z5' (l, _) (List.mem_cons_self ..)).1
     have hc2 := Uv (o' := .loop (rec .busy none)) hl3 rfl rfl
     have hc4 := Uv (o' := o') hl5 rfl ho'
     have r5' : Rel (c.now st1 (w1.putObj l (.loop (rec .busy none))) S1 H1) ⟨st'.t, mm g' ++ ex⟩ a0' w3 S3 H3 := by rw [← hm']; exact r5
     have r6 : Rel c ⟨st'.t, mm g' ++ ex⟩ a0' w3 S3 H3 := r4.then_now r5'
     have r7 := (r6.putObj o' hl5 rfl ho' hcl).trim (t' := fun _ => .top) (fun _ => .inl rfl) (hmin g') (by rw [hlen]; have := r.kl; exact this)
     refine ⟨hl5, ⟨fun b i hs => ?_, r7.sl⟩, H3, r7.swap r1.nt r1.df (fun i => ?_), zput o' ho' z5'⟩
     ·have s1 := r3.ex.sub b i hs
      refine ⟨r5.ex.sub b i s1, ?_⟩
      exact (hc4 _).trans ((r5.ex.stab b i s1).trans ((hc2 _).trans (r3.ex.stab b i hs)))
     ·refine AVR.mono (fun x v hx => ?_) (r1.tm i)
      have e3 : C9 w3 S3 (mm g') H3 x v := by
       have hl0 : (mm g).length = m.length := hlen g
       have hl1 : (mm g).length ≤ st1.m.length := r3.kl
       refine C9.mono2 (fun b i hs => ?_) (by rw [hlen g', hl0]; exact Nat.le_refl _) (fun p gg hp hh => ?_) (fun p hp hne => r5.ku p (Nat.lt_of_lt_of_le hp hl1) (r3.ku p hp hne)) (fun p e sz k cs hp hm => ?_) hx
       ·have s1 := r3.ex.sub b i hs
        exact ⟨r5.ex.sub b i s1, (r5.ex.stab b i s1).trans ((hc2 _).trans (r3.ex.stab b i hs))⟩
       ·have h1 : H1 p = H p := r3.kh p gg hp hh
        exact (r5.kh p gg (Nat.lt_of_lt_of_le hp hl1) (h1.trans hh)).trans h1
       ·have hm2 : (mm g' ++ ex)[p]? = some (.arr e sz k cs) := by rw [List.getElem?_append_left (by rw [hlen g', ← hl0]; exact hp)]; exact hm
        obtain ⟨k1, cs1, q1, q2⟩ := r5'.kr p e sz k cs (Nat.lt_of_lt_of_le hp hl1) hm2
        obtain ⟨k2, cs2, q3, q4⟩ := r3.kr p e sz k1 cs1 hp q1
        refine ⟨k2, cs2, q3, ?_⟩
        rcases q2 with ⟨q2, q5⟩ | q2 <;> rcases q4 with ⟨q4, q6⟩ | q4
        ·exact .inl ⟨q4.trans q2, q5.trans q6⟩
        ·exact .inr (by omega)
        ·exact .inr (by omega)
        ·exact .inr (by omega)
      exact C9.mono (fun b i hs => ⟨hs, hc4 _⟩) (Nat.le_refl _) (fun _ _ => rfl) (fun p e sz k cs _ hm => ⟨k, cs, hm, rfl⟩) e3
    rintro e a3 w3 ⟨K3, st', S3, H3, a0', hok3, hz3, rfl, r5, z5, hq3⟩
    cases e with
    | normal =>
     obtain ⟨g', ex, hp', hm'⟩ := hq3
     obtain ⟨hl5, hks, H4, hr4, hz4⟩ := fin st' a0' w3 S3 H3 K3 g' ex (.loop (rec .ready none)) hz3 r5 z5 hm' rfl
     have he := run_endRound (P := P) none hl5
     rw [hrec] at he
     refine ⟨_, _, he, true, S3, rfl, ?_, ?_⟩
     ·rw [hrec] at hks; exact hks
     ·refine ⟨g', H4, hp', ?_, ?_⟩
      ·rw [hrec] at hr4; exact hr4
      ·rw [hrec] at hz4; rw [hrec]; exact hz4
    | ret =>
     obtain ⟨g', ex, hp', hm'⟩ := hq3
     obtain ⟨hl5, hks, H4, hr4, hz4⟩ := fin st' a0' w3 S3 H3 K3 g' ex (.loop (rec .done (some .ret))) hz3 r5 z5 hm' rfl
     have he := run_endRound (P := P) (some .ret) hl5
     rw [hrec] at he
     refine ⟨_, _, he, false, S3, rfl, ?_, ?_⟩
     ·rw [hrec] at hks; exact hks
     ·refine ⟨.ret, g', H4, hp', .inl rfl, ?_, ?_⟩
      ·rw [hrec] at hr4; exact hr4
      ·rw [hrec] at hz4; rw [hrec]; exact hz4
    | exit id =>
     obtain ⟨g', ex, hp', hm'⟩ := hq3
     obtain ⟨hl5, hks, H4, hr4, hz4⟩ := fin st' a0' w3 S3 H3 K3 g' ex (.loop (rec .done (some (.exit id)))) hz3 r5 z5 hm' rfl
     have he := run_endRound (P := P) (some (.exit id)) hl5
     rw [hrec] at he
     refine ⟨_, _, he, false, S3, rfl, ?_, ?_⟩
     ·rw [hrec] at hks; exact hks
     ·refine ⟨.exit id, g', H4, hp', .inr ⟨id, rfl⟩, ?_, ?_⟩
      ·rw [hrec] at hr4; exact hr4
      ·rw [hrec] at hz4; rw [hrec]; exact hz4
    | goto lb => exact absurd hq3 id
    | panic ch => exact absurd hq3 id
    | outgrown => exact absurd hq3 id
   | _ => exact hq1
  ·
   rintro e w5 ⟨v, S5, rfl, hin, hj⟩
   have okK : okO c ⟨W9 D :: K.ds, (D, .deferred (some [])) :: K.Z⟩ := by
    refine ⟨D :: Ds, by rw [hds]; rfl, by rw [hZ]; rfl, List.nodup_cons.2 ⟨fun hm => ?_, hnd⟩, fun D' h => ?_⟩
    ·have := hZl (D, .deferred (some [])) (by rw [hZ]; exact List.mem_map.2 ⟨D, hm, rfl⟩)
     simp only at this
     omega
    ·rcases List.mem_cons.1 h with rfl | h
     ·rw [hD]; exact r.ex.size
     ·exact hge D' h
   rcases hj with ⟨g, H5, hp, r5, z5⟩ | ⟨jc, g, H5, hp, hjc, r5, z5⟩
   ·have hl5 : w5.heap[l]? = some (.loop (rec .ready none)) := (z5 (l, _) (List.mem_cons_self ..)).1
    have he := run_endLoop (P := P) hl5 (by rw [hrec]; simp)
    refine ⟨_, _, he, ?_⟩
    rw [hrec]
    exact ⟨⟨W9 D :: K.ds, (D, .deferred (some [])) :: K.Z⟩, _, S5, H5, a, okK, fun x hx => List.mem_cons_of_mem _ hx, rfl, r5.putObj _ hl5 rfl rfl hcl, fun x hx => (zput (.loop _) rfl z5) x (List.mem_cons_of_mem _ hx), done g hp⟩
   ·have hl5 : w5.heap[l]? = some (.loop (rec .done (some jc))) := (z5 (l, _) (List.mem_cons_self ..)).1
    have he := run_endLoop (P := P) hl5 (by rw [hrec]; simp)
    refine ⟨_, _, he, ?_⟩
    rw [hrec]
    have post : ∀ e, Q e ⟨t, mm g⟩ → QI c (okO c) K Q e (dsl a (W9 D :: K.ds)) (w5.putObj l (.loop { ({ state := .done, pending := some jc, fn, tmps := a.tmps, params := #[p1, p2], assign, body, defers := w.heap.size } : Loop) with state := .exhausted })) := fun e hqe =>
     ⟨⟨W9 D :: K.ds, (D, .deferred (some [])) :: K.Z⟩, _, S5, H5, a, okK, fun x hx => List.mem_cons_of_mem _ hx, rfl, r5.putObj _ hl5 rfl rfl hcl, fun x hx => (zput (.loop _) rfl z5) x (List.mem_cons_of_mem _ hx), hqe⟩
    rcases hjc with rfl | ⟨id, rfl⟩
    ·exact wpIn_ret (post _ (hret g hp))
    ·exact wpIn_exit (post _ (hex id g hp))
end
end Go.Proofs.YtbjckaahoacbfaaGreatDoor.Abs
namespace Go.Proofs.YtbjckaahoacbfaaGreatDoor.Abs
open Go.RowKit
section
variable {P : Program} {c : Ctx} {ops : Array Oper} {Q : Exit → AS → Prop} {rest : List Oper} {ty : TypeId} {pos : String} {af : Array Edge} {d : Tmp} {t : Nat → AV} {m : List Blk}
theorem Aq1 {t' : TypeId} {y : Operand} {x : SV} (hd : decide (d < c.nt) = true) (hx : Ca ⟨t, m⟩ y = .s x) (hpub : x.cells.all Lf.pubd = true)
  (k : AWL P c ops Q rest ⟨upd t d (.s (.one (.cp x.cells))), m⟩) : AWL P c ops Q (⟨some d, .box t' y, ty, pos, af, none⟩ :: rest) ⟨t, m⟩ := by
 intro a w S H r
 have h := Bm r y
 rw [hx] at h
 have hls := Td h (fun l v => C9.oneCell)
 obtain ⟨cells, hce⟩ : ∃ cells, cells = (a.eval y).cells := ⟨_, rfl⟩
 rw [← hce] at hls
 have hrun : (execOp a.eval ⟨some d, .box t' y, ty, pos, af, none⟩).run P w = .ok (.value (.pointer (some ⟨w.heap.size, 0, none⟩))) (w.alloc (.cells cells t')) := by
  rw [hce]; simp [execOp, Instr.box, newVar, newRow]
 let S' : Dh := fun b i => S b i ∨ (b = w.heap.size ∧ i < cells.size)
 have hx1 : Ext w S (w.alloc (.cells cells t')) S' := ⟨rfl, rfl, rfl, by simp, fun b hb => Below.heap_alloc w _ b hb, fun _ _ h => .inl h, fun b i hb h => by
  rcases h with h | ⟨h, _⟩
  ·exact h
  ·omega⟩
 have hin : InH (w.alloc (.cells cells t')) S' := ⟨fun b i hs => by
  rcases hs with hs | ⟨rfl, _⟩
  ·exact Nat.lt_of_lt_of_le (r.sl.1 b i hs) hx1.size
  ·simp, r.sl.2.mono (hx1.keeps r.sl)⟩
 refine wpList_plain rfl fun K hK => ?_
 unfold Oper.wp
 rw [hrun]
 refine hK _ _ (k _ _ _ _ ((r.ext hx1 hin).put (of_decide_eq_true hd) ?_))
 have hrep : Rep (w.alloc (.cells cells t')) S' (.cp x.cells) (.pointer (some ⟨w.heap.size, 0, none⟩)) := by
  have hcell : ∀ j, (w.alloc (.cells cells t')).cell? ⟨w.heap.size, j, none⟩ = cells[j]? := fun j => by
   unfold World.cell?
   rw [show (w.alloc (.cells cells t')).heap[(⟨w.heap.size, j, none⟩ : Addr).block]? = some (.cells cells t') from heap_alloc_new w _]
   rfl
  have hj : ∀ (j : Nat) (l : Lf), x.cells[j]? = some l → ∃ v, cells[j]? = some v ∧ C9 w S m H l v := fun j l hl => by
   obtain ⟨v, h1, h2⟩ := hls.get hl
   exact ⟨v, by simpa using h1, h2⟩
  refine .cp x.cells w.heap.size 0 (fun j => cells.getD j undef) (fun j l hl => ?_) (fun j l hl => ?_)
  ·obtain ⟨v, h1, h2⟩ := hj j l hl
   rw [Nat.zero_add]
   refine ⟨.inr ⟨rfl, (Array.getElem?_eq_some_iff.1 h1).1⟩, (hcell j).trans ?_⟩
   simp [h1]
  ·obtain ⟨v, h1, h2⟩ := hj j l hl
   have : cells.getD j undef = v := by simp [h1]
   rw [this]
   exact Rep.mono (hx1.keeps r.sl) (C9.rep h2 ((List.all_eq_true.1 hpub) l (List.mem_of_getElem? hl)))
 exact hrep
end
abbrev YK := World → Dh → Prop
def Au3 (K : YK) : Prop := ∀ w S w' S', K w S → Ext w S w' S' → InH w' S' → K w' S'
def QY (nt : Nat) (Q : Exit → (Nat → AV) → YK → Prop) : Exit → Act → World → Prop := fun e a w => ∃ t S H K, Rel (Ctx.of w S nt) ⟨t, []⟩ a w S H ∧ K w S ∧ Q e t K
def Aol (Q : Exit → (Nat → AV) → YK → Prop) : Prop := ∀ t K, ¬ Q .outgrown t K
def Aqd (n : (Nat → AV) → YK → Prop) (Q : Exit → (Nat → AV) → YK → Prop) : Exit → (Nat → AV) → YK → Prop
 | .normal, t, K => n t K
 | e, t, K => Q e t K
def Abd (id : Nat) (Q : Exit → (Nat → AV) → YK → Prop) : Exit → (Nat → AV) → YK → Prop
 | .exit id', t, K => if id' = id then Q .normal t K else Q (.exit id') t K
 | e, t, K => Q e t K
def AWY (P : Program) (nt : Nat) (x : Code) (Q : Exit → (Nat → AV) → YK → Prop) (K : YK) (t : Nat → AV) : Prop :=
 Aol Q → ∀ a w S H, Rel (Ctx.of w S nt) ⟨t, []⟩ a w S H → K w S → x.wpIn Fence.wide 0 P (QY nt Q) a w
def Al5 (P : Program) (nt : Nat) (ops : Array Oper) (Q : Exit → (Nat → AV) → YK → Prop) (K : YK) (l : List Oper) (t : Nat → AV) : Prop :=
 Aol Q → ∀ a w S H, Rel (Ctx.of w S nt) ⟨t, []⟩ a w S H → K w S → wpListIn Fence.wide 0 P ops (QY nt Q) l a w
theorem Rel.here {c : Ctx} {t : Nat → AV} {a : Act} {w : World} {S : Dh} {H : Nat → Value} {nt : Nat} (hn : c.nt = nt) (r : Rel c ⟨t, []⟩ a w S H) : Rel (Ctx.of w S nt) ⟨t, []⟩ a w S H :=
 ⟨r.nt.trans hn, r.df, r.tm, fun p b h => by simp at h, fun p b g h => by simp at h, fun p q b b' g h => by simp at h, fun p b g i h => by simp at h, r.sl, Xv.refl _ w S, Nat.zero_le _, fun p g h => absurd h (Nat.not_lt_zero _), fun p e sz k cs h => absurd h (Nat.not_lt_zero _), fun p h => absurd h (Nat.not_lt_zero _)⟩
theorem Rel.kept {t : Nat → AV} {a : Act} {w w' : World} {S S' : Dh} {H : Nat → Value} {nt : Nat} (r : Rel (Ctx.of w S nt) ⟨t, []⟩ a w S H) (h : Al1 w S w' S') : Rel (Ctx.of w' S' nt) ⟨t, []⟩ a w' S' H :=
 ⟨r.nt, r.df, fun i => AVR.mono (fun l v => C9.mono h.st (Nat.le_refl _) (fun _ _ => rfl) (fun p e sz k cs hp _ => by simp at hp)) (r.tm i), fun p b h => by simp at h, fun p b g h => by simp at h, fun p q b b' g h => by simp at h, fun p b g i h => by simp at h, h.sl, Xv.refl _ w' S', Nat.zero_le _, fun p g h => absurd h (Nat.not_lt_zero _), fun p e sz k cs h => absurd h (Nat.not_lt_zero _), fun p h => absurd h (Nat.not_lt_zero _)⟩
theorem Tg {F : Fence} {n : Nat} {P : Program} {ops : Array Oper} {Q : Exit → Act → World → Prop} {l2 : List Oper} : ∀ (l1 : List Oper) (a : Act) (w : World), wpListIn F n P ops (Exit.then (wpListIn F n P ops Q l2) Q) l1 a w → wpListIn F n P ops Q (l1 ++ l2) a w
 | [], a, w, h => h
 | o :: l1, a, w, h => by
  have ih := Tg (F := F) (n := n) (P := P) (ops := ops) (Q := Q) (l2 := l2) l1
  simp only [List.cons_append]
  unfold wpListIn at h ⊢
  split at h
  ·rename_i hw
   rw [if_pos hw]
   obtain ⟨h1, h2⟩ := h
   refine ⟨h1, ?_⟩
   generalize (o.semAt F.round a.eval).run P w = r at h2
   have hlet : LetsOut (Exit.then (wpListIn F n P ops Q l2) Q) → LetsOut Q := fun ⟨a, w, h⟩ => ⟨a, w, h⟩
   cases r with
   | ok nx w' =>
    cases nx with
    | value v => exact ih _ _ h2
    | skip => exact ih _ _ h2
    | defer d => exact ih _ _ h2
    | enter f args =>
     refine ⟨h2.1, h2.2.mono fun e w'' hr => ?_⟩
     cases e with
     | returned v => exact ih _ _ hr
     | panicked ch => exact hr
     | outgrown => exact hlet hr
    | row row args => exact ⟨h2.1, h2.2.mono fun v w'' hr => ih _ _ hr⟩
    | round l f tmps ag bd =>
     refine ⟨h2.1, h2.2.mono fun e w'' hr => ?_⟩
     cases e with
     | returned v => exact ih _ _ hr
     | panicked ch => exact hr
     | outgrown => exact hlet hr
    | _ => exact absurd h2 id
   | halt x w' =>
    cases x with
    | panic v => exact h2
    | _ => exact absurd h2 id
  ·rename_i hw
   rw [if_neg hw]
   exact ⟨h.1, ih _ _ h.2⟩
section
variable {P : Program} {nt : Nat} {Q : Exit → (Nat → AV) → YK → Prop} {K : YK} {t : Nat → AV}
theorem Alw {x y : Code} (h : AWY P nt x (Aqd (fun t K => AWY P nt y Q K t) Q) K t) : AWY P nt (.seq x y) Q K t := by
 intro hn a w S H r hK
 refine wpIn_seq (wpIn_mono (h (fun t K hs => hn t K hs) a w S H r hK) ?_)
 rintro e a w ⟨t, S, H, K, r, hK, hq⟩
 cases e with
 | normal => exact hq hn a w S H r hK
 | _ => exact ⟨t, S, H, K, r, hK, hq⟩
theorem Xx {n : (Nat → AV) → YK → Prop} (h : n t K) : Aqd n Q .normal t K := h
theorem A0m {id : Nat} (h : Q .normal t K) : Abd id Q .normal t K := h
theorem Aqz (h : Q .normal t K) : AWY P nt .skip Q K t := fun _ _ _ S H r hK => wpIn_skip ⟨t, S, H, K, r, hK, h⟩
theorem Awk {id : Nat} (h : Q (.exit id) t K) : AWY P nt (.exit id) Q K t := fun _ _ _ S H r hK => wpIn_exit ⟨t, S, H, K, r, hK, h⟩
theorem Ay2 (h : Q .ret t K) : AWY P nt .ret Q K t := fun _ _ _ S H r hK => wpIn_ret ⟨t, S, H, K, r, hK, h⟩
theorem Ao2 {id : Nat} {x : Code} (h : AWY P nt x (Abd id Q) K t) : AWY P nt (.block id x) Q K t := by
 intro hn a w S H r hK
 refine wpIn_block (wpIn_mono (h (fun t K hs => hn t K hs) a w S H r hK) ?_)
 rintro e a w ⟨t, S, H, K, r, hK, hq⟩
 cases e with
 | exit id' =>
  simp only [Abd] at hq
  simp only [Exit.inBlock]
  split
  ·rename_i h; rw [if_pos h] at hq; exact ⟨t, S, H, K, r, hK, hq⟩
  ·rename_i h; rw [if_neg h] at hq; exact ⟨t, S, H, K, r, hK, hq⟩
 | _ => exact ⟨t, S, H, K, r, hK, hq⟩
theorem Ano {o : Operand} {x y : Code} {b : Bool} (ho : Ca ⟨t, []⟩ o = .s (.one (.b b))) (h1 : b = true → AWY P nt x Q K t) (h0 : b = false → AWY P nt y Q K t) : AWY P nt (.cond o x y) Q K t := by
 intro hn a w S H r hK
 have h := Bm r o
 rw [ho] at h
 have hv : a.eval o = .bool b := Ud (h : Rep w S (.b b) (a.eval o))
 exact wpIn_cond_split hv (fun hb => h1 hb hn a w S H r hK) (fun hb => h0 hb hn a w S H r hK)
theorem Al2 {ops : Array Oper} {l1 l2 : List Oper} (hK : Au3 K) (hnd : l1.all ndf = true) (h : ∀ w0 S0, AWL P (Ctx.of w0 S0 nt) ops (fun e st => e = .normal ∧ st.m = [] ∧ Al5 P nt ops Q K l2 st.t) l1 ⟨t, []⟩) : Al5 P nt ops Q K (l1 ++ l2) t := by
 intro hn a w S H r hk
 refine Tg l1 a w ?_
 have h1 := Zi (rd := none) (ds := []) (Q1 := QR (Ctx.of w S nt) (fun e st => e = .normal ∧ st.m = [] ∧ Al5 P nt ops Q K l2 st.t)) (Q2 := Exit.then (wpListIn Fence.wide 0 P ops (QY nt Q) l2) (QY nt Q)) ?_ ?_ ?_ l1 hnd a w (h w S a w S H r)
 ·rw [Af2 r.df] at h1
  exact h1
 ·rintro ⟨a, w, st, S, H, _, h, _⟩; cases h
 ·rintro e a w ⟨st, S, H, r, _⟩; exact r.df
 ·rintro e a' w' ⟨⟨t', m'⟩, S', H', r', rfl, hm, h⟩
  have hm' : m' = [] := hm
  subst hm'
  rw [Af2 r'.df]
  exact h hn a' w' S' H' (r'.here rfl) (hK _ _ _ _ hk (r'.ex.toExt (fun _ h => h)) r'.sl)
theorem V3 {ops : Array Oper} (h : Q .normal t K) : Al5 P nt ops Q K [] t := fun _ _ _ S H r hK => ⟨t, S, H, K, r, hK, h⟩
theorem Akl {id : Nat} {l : List Oper} (h : Al5 P nt l.toArray Q K l t) : AWY P nt (.region id l.toArray false) Q K t := fun hn a w S H r hK => wpIn_region_lit (h hn a w S H r hK)
theorem Y1 {id : Nat} {l : List Oper} (hK : Au3 K) (hnd : l.all ndf = true) (h : ∀ w0 S0, AWL P (Ctx.of w0 S0 nt) l.toArray (fun e st => e = .normal ∧ st.m = [] ∧ Al5 P nt l.toArray Q K [] st.t) l ⟨t, []⟩) : AWY P nt (.region id l.toArray false) Q K t := by
 refine Akl ?_
 have h1 := Al2 (l2 := []) hK hnd h
 rwa [List.append_nil] at h1
def Atj (P : Program) (l : Nat) (J : Nat → YK) (Jx : YK) (L : List (SV × SV)) : Prop :=
 ∀ k x y w S v u, L[k]? = some (x, y) → J k w S → InH w S → SVR (Rep w S) x v → SVR (Rep w S) y u →
   ∃ fn tmps assign body, (Instr.yield l #[v, u]).run P w = .ok (.round l fn tmps assign body) w ∧
    RoundIn Fence.wide 0 P l fn tmps assign body w (fun e w' => ∃ b S', e = .returned (.bool b) ∧ Al1 w S w' S' ∧ (if b then J (k + 1) w' S' else Jx w' S'))
theorem Ak9 {w : World} {S : Dh} {H : Nat → Value} {x : SV} {v : Value} (h : SVR (C9 w S [] H) x v) : SVR (Rep w S) x v := by
 have h0 : ∀ l v, Ir w S [] H l v → Rep w S l v := fun l v h => by
  cases l with
  | lp p off => exact absurd h.1 (Nat.not_lt_zero _)
  | ls p n => exact absurd h.1 (Nat.not_lt_zero _)
  | ap p n off => exact absurd h.1 (Nat.not_lt_zero _)
  | mp k p => exact absurd h.1 (Nat.not_lt_zero _)
  | _ => exact h
 refine SVR.mono (fun l v h => ?_) h
 cases l with
 | lp p off => exact absurd h.1 (Nat.not_lt_zero _)
 | ls p n => exact absurd h.1 (Nat.not_lt_zero _)
 | ap p n off => exact absurd h.1 (Nat.not_lt_zero _)
 | mp k p => exact absurd h.1 (Nat.not_lt_zero _)
 | fn f a b =>
  obtain ⟨va, vb, rfl, h1, h2⟩ := h
  refine .fn f a b va vb (by simpa using h1.1) (by simpa using h2.1) (fun j l v hl hv => h0 _ _ (h1.2 j l v hl (by simpa using hv))) (fun j l v hl hv => h0 _ _ (h2.2 j l v hl (by simpa using hv)))
 | _ => exact h0 _ _ h
theorem Amz {ops : Array Oper} {rest : List Oper} {o : Oper} {d : Tmp} {ty : Tmp} {ax ay : Operand} {ats : Array TypeId} {l : Nat} {J : Nat → YK} {Jx : YK} {L : List (SV × SV)} {k : Nat} {x y : SV}
  (ho : o.op = .call { callee := .value (.tmp ty), args := #[ax, ay], argTypes := ats }) (hod : o.dst = some d) (hw : ∀ a w S H, Rel (Ctx.of w S nt) ⟨t, []⟩ a w S H → Region.wanted o (yielded ops a.tmps) = true)
  (hs : Atj P l J Jx L) (hd : decide (d < nt) = true) (hy : t ty = .s (.one (.raw (.func (.yield l) #[] #[])))) (hx : Ca ⟨t, []⟩ ax = .s x) (hyy : Ca ⟨t, []⟩ ay = .s y) (hL : L[k]? = some (x, y))
  (h1 : Al5 P nt ops Q (J (k + 1)) rest (upd t d (.s (.one (.b true))))) (h0 : Al5 P nt ops Q Jx rest (upd t d (.s (.one (.b false))))) : Al5 P nt ops Q (J k) (o :: rest) t := by
 intro hn a w S H r hK
 have e1 := Bm r ax
 rw [hx] at e1
 have e2 := Bm r ay
 rw [hyy] at e2
 have e3 := r.tm ty
 have e3' : AVR (C9 w S [] H) (t ty) (a.tmps.getD ty undef) := e3
 rw [hy] at e3'
 have hv : a.tmps.getD ty undef = .func (.yield l) #[] #[] := Nb e3'
 obtain ⟨fn, tmps, assign, body, hrun, hround⟩ := hs k x y w S (a.eval ax) (a.eval ay) hL hK r.sl (Ak9 e1) (Ak9 e2)
 have hev : (execOp a.eval o).run P w = .ok (.round l fn tmps assign body) w := by
  obtain ⟨odst, oop, oty, opos, oaf, og⟩ := o
  simp only at ho
  subst ho
  have hv' : a.eval (.tmp ty) = .func (.yield l) #[] #[] := hv
  simp only [execOp, resolve, hv', Deferred.ofValue, Sem.run_bind]
  simpa [invoke] using hrun
 have hsem : o.semAt Fence.wide.round a.eval = execOp a.eval o := Oper.semAt_none _ _
 unfold wpListIn
 rw [if_pos (hw a w S H r)]
 refine ⟨fun _ _ => trivial, ?_⟩
 rw [hsem, hev]
 refine ⟨fun hh => (by simp [Fence.wide] at hh), ?_⟩
 refine hround.mono ?_
 rintro e w' ⟨b, S', rfl, hk, hj⟩
 have r' := (r.kept hk).put (d := d) (x := .s (.one (.b b))) (v := .bool b) (of_decide_eq_true hd) (show AVR _ (.s (.one (.b b))) _ from Rep.b b)
 rw [hod]
 cases b with
 | true => exact h1 hn _ _ _ _ (r'.here rfl) hj
 | false => exact h0 hn _ _ _ _ (r'.here rfl) hj
theorem Awe {body : Code} {G : Type} (sl : G → List (Nat × AV)) (KK : G → YK) (pre : G → Prop) (μ : G → Nat) (g0 : G) (p0 : pre g0) (s0 : Ye t (sl g0)) (hK0 : K = KK g0) (hin : ∀ g, pre g → Ami 0 (sl g))
  (round : ∀ g, pre g → AWY P nt body (Aqd (fun t' K' => ∃ g', pre g' ∧ Ye t' (sl g') ∧ K' = KK g' ∧ μ g' < μ g) Q) (KK g) (Afo (fun _ => .top) (sl g))) : AWY P nt (.loop body) Q K t := by
 subst hK0
 intro hn a w S H r hK b k cs hro hb hr
 have key : ∀ n, ∀ g a w S H, pre g → μ g = n → Rel (Ctx.of w S nt) ⟨Afo (fun _ => .top) (sl g), []⟩ a w S H → KK g w S →
   ∃ e a' w', QY nt Q e a' w' ∧ ArrivesIn (Machine.fenced P Fence.wide) P (lone (b.atR a (.code body :: .inLoop body :: k)) cs w) b k cs e a' w' := by
  intro n
  induction n using Nat.strongRecOn with
  | _ n ih =>
   intro g a w S H hp hμ r hK
   obtain ⟨e, a₁, w₁, hqq, harr⟩ := round g hp (fun t K hs => hn t K hs) a w S H r hK b (.inLoop body :: k) cs hro hb hr
   obtain ⟨t', S', H', K', r', hK', hqq⟩ := hqq
   cases e with
   | normal =>
    obtain ⟨g', hp', hs', rfl, hlt⟩ := hqq
    have rt : Rel (Ctx.of w₁ S' nt) ⟨Afo (fun _ => .top) (sl g'), []⟩ a₁ w₁ S' H' := r'.weak fun i => by
     rcases Pm hs' (hin g' hp') i with h | h
     ·exact .inr h
     ·exact .inl h.1
    obtain ⟨e₂, a₂, w₂, hq₂, harr₂⟩ := ih (μ g') (hμ ▸ hlt) g' a₁ w₁ S' H' hp' rfl rt hK'
    exact ⟨e₂, a₂, w₂, hq₂, .of_steps (StepsIn.trans harr (.one (fenced_calm (n := 0) hb hr rfl) stepR_inLoop)) harr₂⟩
   | exit id => exact ⟨_, _, w₁, ⟨t', S', H', K', r', hK', hqq⟩, .pass (x := .inLoop body) rfl (fun _ _ => .inl (by simp)) harr⟩
   | goto l => exact ⟨_, _, w₁, ⟨t', S', H', K', r', hK', hqq⟩, .pass (x := .inLoop body) rfl (fun _ _ => .inl (by simp)) harr⟩
   | ret => exact ⟨_, _, w₁, ⟨t', S', H', K', r', hK', hqq⟩, .pass (x := .inLoop body) rfl (fun _ _ => .inl (by simp)) harr⟩
   | panic ch => exact ⟨_, _, w₁, ⟨t', S', H', K', r', hK', hqq⟩, .pass (x := .inLoop body) rfl (fun _ _ => .inl (by simp)) harr⟩
   | outgrown => exact ⟨_, _, w₁, ⟨t', S', H', K', r', hK', hqq⟩, .pass (x := .inLoop body) rfl (fun _ _ => .inl (by simp)) harr⟩
 have rt : Rel (Ctx.of w S nt) ⟨Afo (fun _ => .top) (sl g0), []⟩ a w S H := r.weak fun i => by
  rcases Pm s0 (hin g0 p0) i with h | h
  ·exact .inr h
  ·exact .inl h.1
 obtain ⟨e, a', w', hqq, harr⟩ := key _ g0 a w S H p0 rfl rt hK
 exact ⟨e, a', w', hqq, .of_steps (.one (fenced_calm (n := 0) hb hr rfl) stepR_loop) harr⟩
end
theorem Ajn {args : List SV} {w : World} {S : Dh} {vs : Array Value} {nt : Nat} (hn : args.length ≤ nt) (hS : InH w S) (hv : Yl (Rep w S) args vs.toList) :
  Rel (Ctx.of w S nt) ⟨Aoe args, []⟩ { tmps := vs ++ Array.replicate (nt - vs.size) undef, defers := [] } w S (fun _ => undef) := by
 have hlen : vs.size = args.length := by have := hv.1; simp at this; omega
 have hget : ∀ i, (vs ++ Array.replicate (nt - vs.size) undef).getD i undef = vs.getD i undef := by
  intro i
  simp only [Array.getD_eq_getD_getElem?, Array.getElem?_append]
  split
  ·rfl
  ·rename_i hi
   rw [Array.getElem?_replicate]
   have : vs[i]? = none := Array.getElem?_eq_none (by omega)
   rw [this]
   split <;> rfl
 refine ⟨by simp; omega, rfl, fun i => ?_, fun p b h => by simp at h, fun p b g h => by simp at h, fun p q b b' g h => by simp at h, fun p b g i h => by simp at h, hS, Xv.refl _ w S, Nat.zero_le _, fun p g h => absurd h (Nat.not_lt_zero _), fun p e sz k cs h => absurd h (Nat.not_lt_zero _), fun p h => absurd h (Nat.not_lt_zero _)⟩
 rw [hget]
 show AVR _ (match args[i]? with | some x => .s x | none => .tup []) _
 cases ha : args[i]? with
 | none =>
  have : vs[i]? = none := Array.getElem?_eq_none (by rw [hlen]; exact List.getElem?_eq_none_iff.1 ha)
  simp only [Array.getD_eq_getD_getElem?, this, Option.getD_none]
  exact Nr
 | some x =>
  have hi : i < args.length := (List.getElem?_eq_some_iff.1 ha).1
  have hi' : i < vs.size := by omega
  have : vs[i]? = some vs[i] := Array.getElem?_eq_getElem hi'
  simp only [Array.getD_eq_getD_getElem?, this, Option.getD_some]
  exact SVR.mono (fun _ _ => C9.of_rep) (hv.2 i x _ ha (by simp))
theorem Al4 {P : Program} {fc : FuncId} {fn : Func} {body : Code} {cap : List Lf} {L : List (SV × SV)} (hf : P.funcs[fc]? = some fn) (hb : fn.body = some body) (hres : fn.results = #[]) {nt : Nat} (hnt : fn.ntmps = nt) (hn : cap.length + 1 ≤ nt)
  (h : ∀ l J Jx, (∀ k, Au3 (J k)) → Au3 Jx → Atj P l J Jx L → AWY P nt body (fun e _ K => (e = .normal ∨ e = .ret) ∧ (K = J L.length ∨ K = Jx)) (J 0) (Aoe (.one (.raw (.func (.yield l) #[] #[])) :: cap.map .one))) : Anm P fc cap L := by
 subst hnt
 intro l J Jx w S vs hJ hJx hs h0 hS hcap
 refine callsIn_wide.1 (callsIn_of_wp (n := 0) hf hb trivial ?_)
 have hv : Yl (Rep w S) (.one (.raw (.func (.yield l) #[] #[])) :: cap.map .one) ((#[Value.func (.yield l) #[] #[]] ++ vs : Array Value)).toList := by
  refine ⟨by have := hcap.1; simp at this ⊢; omega, fun j x v hx hv => ?_⟩
  cases j with
  | zero =>
   simp at hx hv
   subst hx; subst hv
   exact Rep.raw (.func (.yield l) #[] #[]) rfl
  | succ j =>
   simp at hx hv
   obtain ⟨x', hx', rfl⟩ := hx
   exact hcap.2 j x' v hx' (by simpa using hv)
 have r0 := Ajn (nt := fn.ntmps) (by simpa using hn) hS hv
 refine wpIn_mono (h l J Jx (fun k => hJ k) hJx hs (fun t K hs => by rcases hs.1 with h | h <;> cases h) _ w S _ r0 h0) ?_
 rintro e a w1 ⟨t, S1, H, K, r, hK, he, hk⟩
 have hr : (results fn a.tmps).run P w1 = .ok (.tuple #[]) w1 := by
  rw [W2, hres]
  simp
 have hfin : ∃ v S', Ending.returned (.tuple #[]) = .returned v ∧ InH w1 S' ∧ (J L.length w1 S' ∨ Jx w1 S') := by
  refine ⟨_, S1, rfl, r.sl, ?_⟩
  rcases hk with rfl | rfl
  ·exact .inl hK
  ·exact .inr hK
 rcases he with rfl | rfl
 ·exact ⟨r.df, _, hr, hfin⟩
 ·exact ⟨r.df, _, hr, hfin⟩
end Go.Proofs.YtbjckaahoacbfaaGreatDoor.Abs
namespace Go.Proofs.YtbjckaahoacbfaaGreatDoor.Abs
open Go.RowKit
def V9 {α σ : Type} (f : σ → α → Option (σ ⊕ (Nat × σ))) : List α → σ → Option (σ ⊕ (Nat × σ))
 | [], s => some (.inl s)
 | x :: xs, s => match f s x with
  | none => none
  | some (.inl s') => V9 f xs s'
  | some (.inr j) => some (.inr j)
def An8 {σ ρ : Type} (k kr : σ → Option ρ) (ke : Nat → σ → Option ρ) : σ ⊕ (Nat × σ) → Option ρ
 | .inl s => k s
 | .inr (0, s) => kr s
 | .inr (n + 1, s) => ke n s
def Ast : Code → Nat
 | .exit id => id + 1
 | _ => 0
theorem Aef {α σ : Type} {f : σ → α → Option (σ ⊕ (Nat × σ))} {x : α} {xs : List α} {s : σ} {r : σ ⊕ (Nat × σ)} (h : V9 f (x :: xs) s = some r) :
  ∃ y, f s x = some y ∧ (∀ s', y = .inl s' → V9 f xs s' = some r) ∧ ∀ j, y = .inr j → r = .inr j := by
 unfold V9 at h
 cases hf : f s x with
 | none => rw [hf] at h; cases h
 | some y =>
  rw [hf] at h
  refine ⟨y, rfl, fun s' e => ?_, fun j e => ?_⟩
  ·subst e; exact h
  ·subst e; exact (Option.some.inj h).symm
section
variable {P : Program} {c : Ctx} {Q : Exit → AS → Prop} {t : Nat → AV} {m : List Blk}
theorem RQ.mono {G : Type} {mm : G → List Blk} {p p' : G → Prop} {j j' : Code → G → Prop} (hp : ∀ g, p g → p' g) (hj : ∀ c g, j c g → j' c g) : ∀ e st, RQ mm p j e st → RQ mm p' j' e st := by
 intro e st h
 cases e with
 | normal => obtain ⟨g, ex, h1, h2⟩ := h; exact ⟨g, ex, hp g h1, h2⟩
 | ret => obtain ⟨g, ex, h1, h2⟩ := h; exact ⟨g, ex, hj _ g h1, h2⟩
 | exit id => obtain ⟨g, ex, h1, h2⟩ := h; exact ⟨g, ex, hj _ g h1, h2⟩
 | _ => exact h
theorem Arx {go : Operand} {p1 p2 : Tmp} {assign body : Code} {fc : FuncId} {cap : List Lf} {α σ : Type} (f : σ → α → Option (σ ⊕ (Nat × σ))) (Lst : List α) (sx sy : α → SV) (mm : σ → List Blk) (s0 : σ) {rr : σ ⊕ (Nat × σ)} (hr : V9 f Lst s0 = some rr)
  (hg : Ca ⟨t, m⟩ go = .s (.one (.fn fc [] cap))) (hfc : FnI P fc) (hcap : cap.all Lf.pubd0 = true) (hit : Anm P fc cap (Lst.map fun x => (sx x, sy x))) (hp1 : decide (p1 < c.nt) = true) (hp2 : decide (p2 < c.nt) = true)
  (hm : m = mm s0) (hlen : ∀ g, (mm g).length = m.length) (hmin : ∀ g, ∀ b ∈ mm g, b.inb (mm g).length)
  (round : ∀ x s y l, f s x = some y → ∀ w0 S0 X H0, AWI (some l) P ⟨w0, S0, c.nt, X, mm s, H0⟩ okB assign
   (Qv (fun st1 => ∀ w0 S0 X H0, AWI (some l) P ⟨w0, S0, c.nt, X, st1.m, H0⟩ okB body (RQ mm (fun s' => y = .inl s') (fun jc s' => y = .inr (Ast jc, s'))) st1) (fun _ _ => False)) ⟨upd (upd t p1 (.s (sx x))) p2 (.s (sy x)), mm s⟩)
  (done : ∀ s, rr = .inl s → Q .normal ⟨t, mm s⟩) (hret : ∀ s, rr = .inr (0, s) → Q .ret ⟨t, mm s⟩) (hex : ∀ id s, rr = .inr (id + 1, s) → Q (.exit id) ⟨t, mm s⟩) :
  AWI none P c (okO c) (.rangeFunc go #[p1, p2] assign body) Q ⟨t, m⟩ := by
 refine Aui (L := Lst.map fun x => (sx x, sy x)) mm (fun k s => V9 f (Lst.drop k) s = some rr) (fun jc s => rr = .inr (Ast jc, s)) s0 hg hfc hcap hit hp1 hp2 hr hm hlen hmin ?_ (fun g h => ?_) (fun g h => hret g h) (fun id g h => hex id g h)
 ·intro k X Y s l hk hp w0 S0 X0 H0
  rw [List.getElem?_map] at hk
  cases hx : Lst[k]? with
  | none => rw [hx] at hk; cases hk
  | some x =>
   rw [hx] at hk
   simp only [Option.map_some, Option.some.injEq, Prod.mk.injEq] at hk
   obtain ⟨rfl, rfl⟩ := hk
   have hlt := (List.getElem?_eq_some_iff.1 hx).1
   have hd : Lst.drop k = x :: Lst.drop (k + 1) := by
    rw [List.drop_eq_getElem_cons hlt, (List.getElem?_eq_some_iff.1 hx).2]
   rw [hd] at hp
   obtain ⟨y, hy, h1, h2⟩ := Aef hp
   refine (round x s y l hy w0 S0 X0 H0).mono fun e st h => ?_
   cases e with
   | normal =>
    exact fun w0 S0 X0 H0 => AWI.mono (h w0 S0 X0 H0) (RQ.mono (fun s' h => h1 s' h) (fun jc s' h => h2 _ h))
   | _ => exact h
 ·have h' : V9 f (Lst.drop (Lst.map fun x => (sx x, sy x)).length) g = some rr := h
  rw [List.length_map, List.drop_length] at h'
  exact done g (Option.some.inj h').symm
end
end Go.Proofs.YtbjckaahoacbfaaGreatDoor.Abs
namespace Go.Proofs.YtbjckaahoacbfaaGreatDoor.Abs
open Go.RowKit
section
variable {P : Program}
end
section
variable {P : Program} {c : Ctx} {t : Nat → AV} {m : List Blk} {Q : Exit → AS → Prop}
end
end Go.Proofs.YtbjckaahoacbfaaGreatDoor.Abs
namespace Go.Proofs.YtbjckaahoacbfaaGreatDoor.Abs
open Go.RowKit
abbrev Ag0 := List (List Bool × List Blk)
def Abr : Ag0 → List Bool → Option (List Blk)
  | [], _ => none
  | (b, M) :: r, bits => if b == bits then some M else Abr r bits
theorem Age : ∀ {tbl : Ag0} {bits : List Bool} {M : List Blk}, Abr tbl bits = some M → (bits, M) ∈ tbl
  | (b, N) :: r, bits, M, h => by
    unfold Abr at h
    by_cases hb : (b == bits) = true
    · rw [if_pos hb] at h
      cases h
      have : b = bits := by simpa using hb
      subst this
      exact List.mem_cons_self ..
    · rw [if_neg hb] at h
      exact List.mem_cons_of_mem _ (Age h)
theorem Xe : ∀ {es : List Nat} {a b : Nat}, (a, b) ∈ es.zip es → a = b ∧ a ∈ es
  | [], _, _, h => by simp at h
  | e :: r, a, b, h => by
    rw [List.zip_cons_cons] at h
    rcases List.mem_cons.1 h with h | h
    · cases h; exact ⟨rfl, List.mem_cons_self ..⟩
    · obtain ⟨h1, h2⟩ := Xe h
      exact ⟨h1, List.mem_cons_of_mem _ h2⟩
def L4 (es : List Nat) (listed : Array Bool) : List Bool := es.map fun e => listed.getD e false
def Ww (ws es : List Nat) (i : Nat) (bits : List Bool) : Bool := (es.zip bits).all fun x => (!((ws.getD i 0).testBit x.1) || x.2) && (!(x.1 == i || (ws.getD x.1 0).testBit i) || !x.2)
def Afi (ws es : List Nat) (bits : List Bool) : Bool := (es.zip bits).all fun x => !x.2 || (es.zip bits).all fun y => !((ws.getD x.1 0).testBit y.1) || y.2
def Y5 : Nat → List (List Bool)
  | 0 => [[]]
  | n + 1 => (Y5 n).map (false :: ·) ++ (Y5 n).map (true :: ·)
theorem Y2 : ∀ {n : Nat} {bits : List Bool}, bits.length = n → bits ∈ Y5 n
  | 0, [], _ => List.mem_singleton.2 rfl
  | 0, _ :: _, h => by simp at h
  | n + 1, [], h => by simp at h
  | n + 1, b :: bits, h => by
    have ih := Y2 (n := n) (bits := bits) (by simpa using h)
    unfold Y5
    rw [List.mem_append]
    cases b with
    | false => exact .inl (List.mem_map.2 ⟨bits, ih, rfl⟩)
    | true => exact .inr (List.mem_map.2 ⟨bits, ih, rfl⟩)
def As7 (ws es : List Nat) (tbl : Ag0) : Bool := (Y5 es.length).all fun bits => !Afi ws es bits || (Abr tbl bits).isSome
def Ad0 (p : List Bool → Bool) (Q : List Bool → List Blk → Prop) (tbl : Ag0) : Prop := ∀ e ∈ tbl, p e.1 = true → Q e.1 e.2
theorem Kp {p : List Bool → Bool} {Q : List Bool → List Blk → Prop} : Ad0 p Q [] := fun e h => by cases h
theorem Dm {p : List Bool → Bool} {Q : List Bool → List Blk → Prop} {b : List Bool} {M : List Blk} {r : Ag0} (_ : p b = true) (q : Q b M) (h : Ad0 p Q r) : Ad0 p Q ((b, M) :: r) := fun e he hp => by
  rcases List.mem_cons.1 he with rfl | he
  · exact q
  · exact h e he hp
theorem Gv {p : List Bool → Bool} {Q : List Bool → List Blk → Prop} {b : List Bool} {M : List Blk} {r : Ag0} (hf : p b = false) (h : Ad0 p Q r) : Ad0 p Q ((b, M) :: r) := fun e he hp => by
  rcases List.mem_cons.1 he with rfl | he
  · have hp' : p b = true := hp
    rw [hf] at hp'; cases hp'
  · exact h e he hp
section
variable {P : Program} {c : Ctx} {t : Nat → AV} {m : List Blk} {Q : Exit → AS → Prop}
def Ajm (P : Program) (c : Ctx) (ops : Array Oper) (ws es : List Nat) (tbl : Ag0) (i : Nat) (t : Nat → AV) (o : Oper) (x : AV) : Prop :=
  (∃ md, Tn P c md ops t o x ∧ Ad0 (Ww ws es i) (fun _ M => Abt md M) tbl) ∨ Ad0 (Ww ws es i) (fun _ M => Tn P c M ops t o x) tbl
theorem Ajm.congr {ops : Array Oper} {ws es : List Nat} {tbl : Ag0} {i : Nat} {t t' : Nat → AV} {o : Oper} {x : AV} (h : Ajm P c ops ws es tbl i t o x) (ht : ∀ y ∈ o.looksAt ops, t y = t' y) : Ajm P c ops ws es tbl i t' o x := by
  rcases h with ⟨md, h1, h2⟩ | h
  · exact .inl ⟨md, h1.congr ht, h2⟩
  · exact .inr fun e he hp => (h e he hp).congr ht
def DM (P : Program) (c : Ctx) (ops : Array Oper) (ws es : List Nat) (tbl : Ag0) (k : (Nat → AV) → Prop) : Nat → List Oper → (Nat → AV) → Prop
  | _, [], t => k t
  | i, o :: rest, t =>
    (es.contains i = false ∧ ∃ x d, o.dst = some d ∧ d < c.nt ∧ Ajm P c ops ws es tbl i t o x ∧ DM P c ops ws es tbl k (i + 1) rest (upd t d x)) ∨
    (∃ j x, es[j]? = some i ∧ Al3 ops t o ∧ Ad0 (Ww ws es i) (fun b M => ∃ M', Abr tbl (b.set j true) = some M' ∧ Aop P c ops t M M' o x) tbl ∧ (∀ d, o.dst = some d → d < c.nt) ∧
      DM P c ops ws es tbl k (i + 1) rest (match o.dst with | some d => upd t d x | none => t))
theorem DM.get {ops : Array Oper} {ws es : List Nat} {tbl : Ag0} {k : (Nat → AV) → Prop} : ∀ {l : List Oper} {i : Nat} {t : Nat → AV}, DM P c ops ws es tbl k i l t → (Ku l).Nodup → (∀ (q : Nat) (o : Oper), l[q]? = some o → ∀ y ∈ o.looksAt ops, y ∉ Ku (l.drop q)) →
    ∃ T, k T ∧ (∀ y, y ∉ Ku l → T y = t y) ∧ ∀ (q : Nat) (o : Oper), l[q]? = some o →
      (es.contains (i + q) = false ∧ ∃ d, o.dst = some d ∧ d < c.nt ∧ Ajm P c ops ws es tbl (i + q) T o (T d)) ∨
      (∃ j x, es[j]? = some (i + q) ∧ Al3 ops T o ∧ Ad0 (Ww ws es (i + q)) (fun b M => ∃ M', Abr tbl (b.set j true) = some M' ∧ Aop P c ops T M M' o x) tbl ∧ ∀ d, o.dst = some d → d < c.nt ∧ T d = x)
  | [], i, t, h, _, _ => ⟨t, h, fun _ _ => rfl, fun q o h => by simp at h⟩
  | o :: rest, i, t, h, hnd, hl => by
    have hlook : ∀ y ∈ o.looksAt ops, y ∉ Ku (o :: rest) := fun y hy => by simpa using hl 0 o rfl y hy
    have hlt : ∀ (q : Nat) (o' : Oper), rest[q]? = some o' → ∀ y ∈ o'.looksAt ops, y ∉ Ku (rest.drop q) := fun q o' h' y hy => by
      have := hl (q + 1) o' (by simpa using h') y hy
      simpa using this
    rcases h with ⟨hne, x, d, hd, hdn, hg, hr⟩ | ⟨j, x, h1, h6, h7, h8, hr⟩
    · have hds : Ku (o :: rest) = d :: Ku rest := by simp [Ku, hd]
      rw [hds] at hnd hlook
      have hnd' := List.nodup_cons.1 hnd
      obtain ⟨T, hk, hT, hG⟩ := DM.get hr hnd'.2 hlt
      have hTl : ∀ y ∈ o.looksAt ops, t y = T y := fun y hy => by
        have := hlook y hy
        simp only [List.mem_cons, not_or] at this
        rw [hT y this.2, H2, if_neg this.1]
      have hTd : T d = x := by rw [hT d hnd'.1, H2, if_pos rfl]
      refine ⟨T, hk, fun y hy => ?_, fun q o' h' => ?_⟩
      · rw [hds] at hy
        simp only [List.mem_cons, not_or] at hy
        rw [hT y hy.2, H2, if_neg hy.1]
      · cases q with
        | zero =>
          simp only [List.getElem?_cons_zero, Option.some.injEq] at h'
          subst h'
          exact .inl ⟨hne, d, hd, hdn, by rw [hTd]; exact hg.congr hTl⟩
        | succ q =>
          have := hG q o' (by simpa using h')
          rw [show i + 1 + q = i + (q + 1) by omega] at this
          exact this
    · have fin : ∀ {T : Nat → AV}, (∀ y ∈ o.looksAt ops, t y = T y) → Ad0 (Ww ws es i) (fun b M => ∃ M', Abr tbl (b.set j true) = some M' ∧ Aop P c ops T M M' o x) tbl := fun hTl e he hp => by
        obtain ⟨M', h3, h4⟩ := h7 e he hp
        exact ⟨M', h3, h4.congr hTl⟩
      cases hd : o.dst with
      | none =>
        have hds : Ku (o :: rest) = Ku rest := by simp [Ku, hd]
        rw [hds] at hnd hlook
        rw [hd] at hr
        obtain ⟨T, hk, hT, hG⟩ := DM.get hr hnd hlt
        have hTl : ∀ y ∈ o.looksAt ops, t y = T y := fun y hy => (hT y (hlook y hy)).symm
        refine ⟨T, hk, fun y hy => hT y (by rw [hds] at hy; exact hy), fun q o' h' => ?_⟩
        cases q with
        | zero =>
          simp only [List.getElem?_cons_zero, Option.some.injEq] at h'
          subst h'
          exact .inr ⟨j, x, h1, h6.congr hTl, fin hTl, fun d h => by rw [hd] at h; cases h⟩
        | succ q =>
          have := hG q o' (by simpa using h')
          rw [show i + 1 + q = i + (q + 1) by omega] at this
          exact this
      | some d =>
        have hds : Ku (o :: rest) = d :: Ku rest := by simp [Ku, hd]
        rw [hds] at hnd hlook
        have hnd' := List.nodup_cons.1 hnd
        rw [hd] at hr
        obtain ⟨T, hk, hT0, hG⟩ := DM.get hr hnd'.2 hlt
        have hT : ∀ y, y ∉ Ku rest → T y = upd t d x y := hT0
        have hTl : ∀ y ∈ o.looksAt ops, t y = T y := fun y hy => by
          have := hlook y hy
          simp only [List.mem_cons, not_or] at this
          rw [hT y this.2, H2, if_neg this.1]
        have hTd : T d = x := by rw [hT d hnd'.1, H2, if_pos rfl]
        refine ⟨T, hk, fun y hy => ?_, fun q o' h' => ?_⟩
        · rw [hds] at hy
          simp only [List.mem_cons, not_or] at hy
          rw [hT y hy.2, H2, if_neg hy.1]
        · cases q with
          | zero =>
            simp only [List.getElem?_cons_zero, Option.some.injEq] at h'
            subst h'
            refine .inr ⟨j, x, h1, h6.congr hTl, fin hTl, fun d' h => ?_⟩
            rw [hd] at h
            cases h
            exact ⟨h8 d hd, hTd⟩
          | succ q =>
            have := hG q o' (by simpa using h')
            rw [show i + 1 + q = i + (q + 1) by omega] at this
            exact this
theorem Anj {l : List Oper} (es ws : List Nat) (tbl : Ag0) {last : List Blk} (hws : Mq l [] = ws) (hok : Zc l.toArray = true) (hnd : es.Nodup) (hes : (es.all fun e => decide (e < l.length)) = true) (hfull : As7 ws es tbl = true) (h0 : Abr tbl (es.map fun _ => false) = some m) (hlast : Abr tbl (es.map fun _ => true) = some last)
    (h : DM P c l.toArray ws es tbl (fun T => Q .normal ⟨T, last⟩) 0 l t) : AWD P c Q l ⟨t, m⟩ := by
  subst hws
  have ok := Aaw hok
  have hdn : (Ku l).Nodup := by
    have key : ∀ (k : List Oper) (n : Nat), (∀ i o, k[i]? = some o → l[n + i]? = some o) → (Ku k).Nodup := by
      intro k
      induction k with
      | nil => intro n _; exact List.nodup_nil
      | cons o r ih =>
        intro n hk
        have ih' := ih (n + 1) (fun i o' h' => by have := hk (i + 1) o' (by simpa using h'); rw [← this]; congr 1; omega)
        cases hd : o.dst with
        | none => simpa [Ku, hd] using ih'
        | some d =>
          have hds : Ku (o :: r) = d :: Ku r := by simp [Ku, hd]
          rw [hds]
          refine List.nodup_cons.2 ⟨fun hmem => ?_, ih'⟩
          unfold Ku at hmem
          rw [List.mem_filterMap] at hmem
          obtain ⟨p, hp, hpd⟩ := hmem
          obtain ⟨q, hq, hqp⟩ := List.getElem_of_mem hp
          have h1 := hk 0 o rfl
          have h2 := hk (q + 1) p (by simp [hq, hqp])
          exact ok.ne n o (n + (q + 1)) p (by simpa using h1) (by simpa using h2) (by omega) d hd hpd
    exact key l 0 (fun i o h => by simpa using h)
  obtain ⟨T, hQ, hTt, hG⟩ := DM.get h hdn (later ok)
  let B : Array Bool → List Blk := fun listed => (Abr tbl (L4 es listed)).getD []
  let HI : Array Bool → (Nat → Value) → Prop := fun listed _ => Rl l.toArray listed
  have hws : ∀ {listed : Array Bool}, Rl l.toArray listed → ∀ i, listed.getD i false = true → ∀ j, ((Mq l []).getD i 0).testBit j = true → listed.getD j false = true := fun hc =>
    We hc l [] (fun i o h => by simpa using h) (fun i h => by simp at h)
  have huf : ∀ {listed : Array Bool} {i : Nat}, listed.size = l.toArray.size → i < l.length → listed.getD i true = false → listed.getD i false = false := by
    intro listed i hs hi h
    simp only [Array.getD_eq_getD_getElem?] at h ⊢
    rw [Array.getElem?_eq_getElem (by rw [hs]; simpa using hi)] at h ⊢
    exact h
  have hzip : ∀ {listed : Array Bool} {x : Nat × Bool}, x ∈ es.zip (L4 es listed) → x.2 = listed.getD x.1 false ∧ x.1 ∈ es := by
    intro listed x hx
    unfold L4 at hx
    rw [List.zip_map_right] at hx
    obtain ⟨y, hy, rfl⟩ := List.mem_map.1 hx
    obtain ⟨a, b⟩ := y
    have hab := Xe hy
    obtain ⟨rfl, hm⟩ := hab
    exact ⟨rfl, hm⟩
  have hclosed : ∀ {listed : Array Bool}, Rl l.toArray listed → Afi (Mq l []) es (L4 es listed) = true := by
    intro listed hc
    unfold Afi
    rw [List.all_eq_true]
    intro x hx
    obtain ⟨h1, _⟩ := hzip hx
    cases hb : x.2 with
    | false => rfl
    | true =>
      simp only [Bool.not_true, Bool.false_or]
      rw [List.all_eq_true]
      intro y hy
      obtain ⟨h2, _⟩ := hzip hy
      cases hw : ((Mq l []).getD x.1 0).testBit y.1 with
      | false => rfl
      | true =>
        rw [h1] at hb
        rw [h2, hws hc x.1 hb y.1 hw]
        rfl
  have hmem : ∀ {listed : Array Bool}, Rl l.toArray listed → (L4 es listed, B listed) ∈ tbl := by
    intro listed hc
    have hf := (List.all_eq_true.1 hfull) (L4 es listed) (Y2 (by simp [L4]))
    rw [hclosed hc] at hf
    simp only [Bool.not_true, Bool.false_or, Option.isSome_iff_exists] at hf
    obtain ⟨M, hM⟩ := hf
    have : B listed = M := by show (Abr tbl (L4 es listed)).getD [] = M; rw [hM]; rfl
    rw [this]
    exact Age hM
  have hcons : ∀ {listed : Array Bool} {i : Nat} {o : Oper}, Rl l.toArray listed → l[i]? = some o → Met listed o → listed.getD i false = false → Ww (Mq l []) es i (L4 es listed) = true := by
    intro listed i o hc ho hmt hun
    unfold Ww
    rw [List.all_eq_true]
    intro x hx
    obtain ⟨h1, _⟩ := hzip hx
    rw [Bool.and_eq_true, Bool.or_eq_true, Bool.or_eq_true]
    constructor
    · cases hw : ((Mq l []).getD i 0).testBit x.1 with
      | false => exact .inl rfl
      | true =>
        right
        rw [h1]
        exact Zb (ops := l.toArray) hc (i := i) (o := o) (by simpa using ho) hmt (j := x.1) hw
    · cases hb : x.2 with
      | false => exact .inr rfl
      | true =>
        left
        rw [h1] at hb
        simp only [Bool.not_eq_true', Bool.or_eq_false_iff]
        constructor
        · cases he : (x.1 == i) with
          | false => rfl
          | true =>
            have : x.1 = i := by simpa using he
            rw [this, hun] at hb; cases hb
        · cases hw : ((Mq l []).getD x.1 0).testBit i with
          | false => rfl
          | true =>
            have := hws hc x.1 hb i hw
            rw [hun] at this; cases this
  have hbsame : ∀ {listed : Array Bool} {i : Nat}, es.contains i = false → L4 es (listed.setIfInBounds i true) = L4 es listed := by
    intro listed i hi
    unfold L4
    refine List.map_congr_left fun e he => ?_
    have : i ≠ e := fun e' => by subst e'; have : es.contains i = true := by simpa using he
                                 rw [hi] at this; cases this
    simp only [Array.getD_eq_getD_getElem?, Array.getElem?_setIfInBounds_ne this]
  have hlk : ∀ {i : Nat} {o : Oper}, l.toArray[i]? = some o → l[i]? = some o ∧ i < l.length := fun {i o} h => by
    have h' : l[i]? = some o := by simpa using h
    exact ⟨h', (List.getElem?_eq_some_iff.1 h').1⟩
  refine Adx (T := T) (B := B) (HI := HI) ok (fun i o ho => ?_) hTt (fun a w S H r => ⟨H, ?_, ?_⟩) (fun listed hs hl => ?_)
  · obtain ⟨ho', hil⟩ := hlk ho
    rcases hG i o ho' with ⟨hne, d, hd, hdn, hg⟩ | ⟨j, x, h1, h5, h6, h7⟩
    · rw [Nat.zero_add] at hne hg
      refine .inl fun listed H hs hun hmt hc => ?_
      have hBs : B (listed.setIfInBounds i true) = B listed := by
        show (Abr tbl (L4 es (listed.setIfInBounds i true))).getD [] = _
        rw [hbsame hne]
      have hm := hmem hc
      have hcs := hcons hc ho' hmt (huf hs hil hun)
      rcases hg with ⟨md, hg, hmd⟩ | hg
      · exact ⟨md, ⟨d, hd, hdn, hg⟩, hmd _ hm hcs, hBs, hc.set ho hmt⟩
      · exact ⟨B listed, ⟨d, hd, hdn, hg _ hm hcs⟩, Abt.refl _, hBs, hc.set ho hmt⟩
    · rw [Nat.zero_add] at h1 h6
      refine .inr ⟨h5, fun listed hs hun hmt a w S H r hc K Qn hK => ?_⟩
      have hm := hmem hc
      have hcs := hcons hc ho' hmt (huf hs hil hun)
      obtain ⟨M', hM', h6⟩ := h6 _ hm hcs
      have hbits : L4 es (listed.setIfInBounds i true) = (L4 es listed).set j true := by
        refine List.ext_getElem? fun q => ?_
        unfold L4
        rw [List.getElem?_map, List.getElem?_set, List.length_map, List.getElem?_map]
        have hjl := (List.getElem?_eq_some_iff.1 h1).1
        by_cases e : j = q
        · subst e
          rw [if_pos rfl, if_pos hjl, h1]
          simp only [Option.map_some, Option.some.injEq, Array.getD_eq_getD_getElem?]
          rw [Array.getElem?_setIfInBounds_self_of_lt (by rw [hs]; simpa using hil)]
          rfl
        · rw [if_neg e]
          cases hq : es[q]? with
          | none => rfl
          | some e' =>
            have hne : i ≠ e' := fun e'' => by
              subst e''
              have hql := (List.getElem?_eq_some_iff.1 hq).1
              have h8 := (List.getElem?_eq_some_iff.1 hq).2
              have h9 := (List.getElem?_eq_some_iff.1 h1).2
              exact e ((List.getElem_inj hnd).1 (h9.trans h8.symm))
            simp only [Option.map_some, Option.some.injEq, Array.getD_eq_getD_getElem?]
            rw [Array.getElem?_setIfInBounds_ne hne]
      have hB2 : B (listed.setIfInBounds i true) = M' := by
        show (Abr tbl (L4 es (listed.setIfInBounds i true))).getD [] = M'
        rw [hbits, hM']
        rfl
      have hlook := Ad4 (T := T) ok hs ho hmt
      have hmix : mix T (o.looksAt l.toArray) (TL l.toArray T listed) = TL l.toArray T listed := by
        funext y
        unfold mix
        cases hc' : (o.looksAt l.toArray).contains y with
        | false => rfl
        | true => exact (hlook y (by simpa using hc')).symm
      have heff := h6 (TL l.toArray T listed)
      rw [hmix] at heff
      have hw := heff a w S H r
      unfold wpList at hw
      rw [if_pos (by rfl)] at hw
      rcases hw with hw | ⟨_, a', w', st', S', H', _, he, _⟩
      · refine Adn (P := P) (o := o) ?_ ?_ (show o.wp P a w _ _ from hw)
        · rintro a' w' ⟨st', S', H', r', _, rfl⟩
          refine hK a' w' S' H' ?_ (hc.set ho hmt)
          rw [hB2]
          cases hd : o.dst with
          | none =>
            rw [hd] at r'
            rw [← Ze ho hd]
            exact r'
          | some d =>
            rw [hd] at r'
            rw [← Akv (T := T) ok hs ho hun hd, (h7 d hd).2]
            exact r'
        · rintro e a' w' hne ⟨st', S', H', r', he, _⟩
          exact absurd he hne
      · cases he
  · have : B (Array.replicate l.toArray.size false) = m := by
      have e1 : L4 es (Array.replicate l.toArray.size false) = es.map fun _ => false := by
        unfold L4
        refine List.map_congr_left fun e _ => ?_
        simp only [Array.getD_eq_getD_getElem?, Array.getElem?_replicate]
        split <;> rfl
      show (Abr tbl (L4 es (Array.replicate l.toArray.size false))).getD [] = m
      rw [e1, h0]
      rfl
    rw [this]
    exact r
  · intro i o _ hl
    simp only [Array.getD_eq_getD_getElem?, Array.getElem?_replicate] at hl
    split at hl <;> simp at hl
  · have hin : ∀ e ∈ es, e < l.length := fun e he => by simpa using List.all_eq_true.1 hes e he
    have e1 : L4 es listed = es.map fun _ => true := by
      unfold L4
      refine List.map_congr_left fun e he => ?_
      have h1 := hl e (by simpa using hin e he)
      have h2 : e < listed.size := by rw [hs]; simpa using hin e he
      simp only [Array.getD_eq_getD_getElem?, Array.getElem?_eq_getElem h2, Option.getD_some] at h1 ⊢
      exact h1
    have : B listed = last := by
      show (Abr tbl (L4 es listed)).getD [] = last
      rw [e1, hlast]
      rfl
    rw [this]
    exact hQ
theorem Aqe {id : Nat} {l : List Oper} (es ws : List Nat) (tbl : Ag0) {last : List Blk} (hws : Mq l [] = ws) (hm : P.follows .mixedOrders = true) (hok : Zc l.toArray = true) (hnd : es.Nodup) (hes : (es.all fun e => decide (e < l.length)) = true) (hfull : As7 ws es tbl = true) (h0 : Abr tbl (es.map fun _ => false) = some m) (hlast : Abr tbl (es.map fun _ => true) = some last)
    (h : DM P c l.toArray ws es tbl (fun T => Q .normal ⟨T, last⟩) 0 l t) : AWC P c (.region id l.toArray true) Q ⟨t, m⟩ := (Anj es ws tbl hws hok hnd hes hfull h0 hlast h).awc hm
variable {ops : Array Oper} {ws es : List Nat} {tbl : Ag0} {k : (Nat → AV) → Prop} {rest : List Oper} {op : Op} {ty : TypeId} {pos : String} {af : Array Edge} {d : Tmp} {x : AV} {i : Nat}
theorem Ati {md : List Blk} (h : Ad0 (Ww ws es i) (fun _ M => Z6 md M) tbl) : Ad0 (Ww ws es i) (fun _ M => Abt md M) tbl := fun e he hp => Aex (h e he hp)
theorem Av3 (h : k t) : DM P c ops ws es tbl k i [] t := h
theorem mev {md : List Blk} (hs : Ad0 (Ww ws es i) (fun _ M => Z6 md M) tbl) (hi : es.contains i = false) (hd : decide (d < c.nt) = true) (h : OpV P c ⟨Q9 t (Oper.looksAt ops ⟨some d, op, ty, pos, af, none⟩), md⟩ op ty x) (kk : DM P c ops ws es tbl k (i + 1) rest (upd t d x)) : DM P c ops ws es tbl k i (⟨some d, op, ty, pos, af, none⟩ :: rest) t :=
  .inl ⟨hi, x, d, rfl, of_decide_eq_true hd, .inl ⟨md, .inl ⟨.inl rfl, h.opD⟩, Ati hs⟩, kk⟩
theorem med {md : List Blk} (hs : Ad0 (Ww ws es i) (fun _ M => Z6 md M) tbl) (hi : es.contains i = false) (hd : decide (d < c.nt) = true) (h : OpD P c ⟨Q9 t (Oper.looksAt ops ⟨some d, op, ty, pos, af, none⟩), md⟩ op ty x) (kk : DM P c ops ws es tbl k (i + 1) rest (upd t d x)) : DM P c ops ws es tbl k i (⟨some d, op, ty, pos, af, none⟩ :: rest) t :=
  .inl ⟨hi, x, d, rfl, of_decide_eq_true hd, .inl ⟨md, .inl ⟨.inl rfl, h⟩, Ati hs⟩, kk⟩
theorem Aym (hi : es.contains i = false) (hd : decide (d < c.nt) = true) (h : ∀ md, OpV P c ⟨Q9 t (Oper.looksAt ops ⟨some d, op, ty, pos, af, none⟩), md⟩ op ty x) (kk : DM P c ops ws es tbl k (i + 1) rest (upd t d x)) : DM P c ops ws es tbl k i (⟨some d, op, ty, pos, af, none⟩ :: rest) t :=
  .inl ⟨hi, x, d, rfl, of_decide_eq_true hd, .inr fun _ _ _ => .inl ⟨.inl rfl, (h _).opD⟩, kk⟩
theorem mee (j : Nat) (he : es[j]? = some i) (hd : decide (d < c.nt) = true)
    (h : Ad0 (Ww ws es i) (fun b M => ∃ M', Abr tbl (b.set j true) = some M' ∧ ∀ ζ, AWL P c ops (fun e st => e = .normal ∧ st = ⟨upd (mix t (Oper.looksAt ops ⟨some d, op, ty, pos, af, none⟩) ζ) d x, M'⟩) [⟨some d, op, ty, pos, af, none⟩] ⟨mix t (Oper.looksAt ops ⟨some d, op, ty, pos, af, none⟩) ζ, M⟩) tbl)
    (kk : DM P c ops ws es tbl k (i + 1) rest (upd t d x)) : DM P c ops ws es tbl k i (⟨some d, op, ty, pos, af, none⟩ :: rest) t :=
  .inr ⟨j, x, he, .inl rfl, h, fun d' h' => by cases h'; exact of_decide_eq_true hd, kk⟩
theorem Ayj (j : Nat) (he : es[j]? = some i)
    (h : Ad0 (Ww ws es i) (fun b M => ∃ M', Abr tbl (b.set j true) = some M' ∧ ∀ ζ, AWL P c ops (fun e st => e = .normal ∧ st = ⟨mix t (Oper.looksAt ops ⟨none, op, ty, pos, af, none⟩) ζ, M'⟩) [⟨none, op, ty, pos, af, none⟩] ⟨mix t (Oper.looksAt ops ⟨none, op, ty, pos, af, none⟩) ζ, M⟩) tbl)
    (kk : DM P c ops ws es tbl k (i + 1) rest t) : DM P c ops ws es tbl k i (⟨none, op, ty, pos, af, none⟩ :: rest) t :=
  .inr ⟨j, .top, he, .inl rfl, h, (fun d' h' => by cases h'), kk⟩
end
end Go.Proofs.YtbjckaahoacbfaaGreatDoor.Abs
namespace Go.Proofs.YtbjckaahoacbfaaGreatDoor.Abs
open Go.RowKit
section
variable {P : Program} {nt : Nat} {Q : Exit → (Nat → AV) → YK → Prop} {K : YK} {t : Nat → AV}
end
section
variable {P : Program} {c : Ctx} {ops : Array Oper} {ws es : List Nat} {tbl : Ag0} {k : (Nat → AV) → Prop} {t : Nat → AV} {rest : List Oper} {op : Op} {ty : TypeId} {pos : String} {af : Array Edge} {d : Tmp} {x : AV} {i : Nat}
end
theorem Ayg {P : Program} {c : Ctx} {id : Nat} {x y : Code} {Q Q' : Exit → AS → Prop} {st : AS} (G : Type) (sl : G → List (Nat × AV)) (mm : G → List Blk) (pre : G → Prop) (hin : ∀ g, pre g → Ami (mm g).length (sl g)) (hmin : ∀ g, pre g → ∀ b ∈ mm g, b.inb (mm g).length) (hk : ∀ g, pre g → c.m0.length ≤ (mm g).length)
  (hy : ∀ g, pre g → AWC P c y Q ⟨Afo (fun _ => .top) (sl g), mm g⟩) (hx : AWC P c x (M7 id (Qv (Avd sl mm pre) Q')) st) : AWC P c x (M7 id (Qv (AWC P c y Q) Q')) st := by
 refine hx.mono fun e st h => ?_
 cases e with
 | normal => exact Abe h hin hmin hk hy
 | exit id' =>
  simp only [M7] at h ⊢
  split
  ·rename_i he
   rw [if_pos he] at h
   exact Abe h hin hmin hk hy
  ·rename_i he
   rw [if_neg he] at h
   exact h
 | _ => exact h
end Go.Proofs.YtbjckaahoacbfaaGreatDoor.Abs
namespace Go.Proofs.YtbjckaahoacbfaaGreatDoor.Abs
open Go.RowKit Go.Proofs Go.Lib
structure Aw9 (E sz b n : Nat) (w w' : World) (v : Value) (vals : List Value) : Prop where
 os : w'.os = w.os
 tape : w'.tape = w.tape
 output : w'.output = w.output
 size : w.heap.size ≤ w'.heap.size
 blk : ∀ g, g < w.heap.size → g ≠ b → w'.heap[g]? = w.heap[g]?
 row : ∃ G cap cur, (G = b ∨ w.heap.size ≤ G) ∧ v = .slice (some ⟨G, 0, none⟩) n cap ∧ w'.heap[G]? = some (.cells cur E (0, 0)) ∧ n ≤ cap ∧ cap ≤ maxLen ∧ cur.size = cap * sz ∧ cur.toList.take (n * sz) = vals
section
variable {P : Program} {c : Ctx} {Q : Exit → AS → Prop} {t : Nat → AV} {m : List Blk}
end
section
variable {P : Program} {c : Ctx} {t : Nat → AV} {M : List Blk} {ops : Array Oper} {Q : Exit → AS → Prop} {rest : List Oper} {ty : TypeId} {pos : String} {af : Array Edge} {d : Tmp}
end
end Go.Proofs.YtbjckaahoacbfaaGreatDoor.Abs
namespace Go.Proofs.YtbjckaahoacbfaaGreatDoor.Abs
open Go.RowKit Go.Lib
end Go.Proofs.YtbjckaahoacbfaaGreatDoor.Abs
namespace Go.Proofs.YtbjckaahoacbfaaGreatDoor.Abs
open Go.RowKit Go.MapKept
open Go.ChangeMaps (setBlock)
section
variable {P : Program} {c : Ctx} {ops : Array Oper} {Q : Exit → AS → Prop} {rest : List Oper} {ty : TypeId} {pos : String} {af : Array Edge} {d : Tmp} {t : Nat → AV} {m : List Blk}
end
end Go.Proofs.YtbjckaahoacbfaaGreatDoor.Abs
namespace Go.Proofs.YtbjckaahoacbfaaGreatDoor.Abs
open Go.RowKit Go.Shelf Go.Sort
open Go.Proofs (sortWorldK)
section
variable {β : Type} [Inhabited β] {enc : β → List Value} {k : Nat} {w : World} {b n : Nat} {d : Array β} {os : Array Obj} {cur : Array Value} {e : TypeId}
end
end Go.Proofs.YtbjckaahoacbfaaGreatDoor.Abs
namespace Go.Proofs.YtbjckaahoacbfaaGreatDoor.Abs
open Go.RowKit
theorem Qy {ls : List Lf} (h : Z3 (.int .i64) ls) : ∃ n : Int, (-9223372036854775808 ≤ n ∧ n ≤ 9223372036854775807) ∧ ls = eI n := by
 obtain ⟨n, hw, rfl⟩ := h
 exact ⟨n, Arn hw, rfl⟩
theorem Asx {k : IntKind} {n : Int} (h : (Lit.int k n).wf = true) : k.min ≤ n ∧ n ≤ k.max := by
 simp only [Lit.wf, Bool.and_eq_true, decide_eq_true_eq] at h
 exact h
theorem Aeb {ls : List Lf} (h : Z3 (.int .u8) ls) : ∃ a : UInt8, True ∧ ls = eU8 a := by
 obtain ⟨n, hw, rfl⟩ := h
 obtain ⟨h1, h2⟩ := Asx hw
 simp [IntKind.min, IntKind.max, IntKind.bits, IntKind.signed] at h1 h2
 refine ⟨UInt8.ofNat n.toNat, trivial, ?_⟩
 show _ = [Lf.i .u8 _]
 rw [show ((UInt8.ofNat n.toNat).toNat : Int) = n by rw [UInt8.toNat_ofNat']; omega]
theorem Aes {ls : List Lf} (h : Z3 .bool ls) : ∃ b : Bool, True ∧ ls = eB b := by
 obtain ⟨b, rfl⟩ := h
 exact ⟨b, trivial, rfl⟩
theorem Z5 {α : Type} {e : Sh} {f : α → List Lf} {Q : α → Prop} (he : ∀ {r}, Z3 e r → ∃ x, Q x ∧ r = f x) {ls : List Lf} (h : Z3 (.sl e) ls) : ∃ xs : List α, (xs.length ≤ maxLen ∧ ∀ x ∈ xs, Q x) ∧ ls = eL f xs := by
 obtain ⟨rows, hl, hr, rfl⟩ := h
 have : ∃ xs : List α, (∀ x ∈ xs, Q x) ∧ rows = xs.map f := by
  clear hl
  induction rows with
  | nil => exact ⟨[], fun _ h => by simp at h, rfl⟩
  | cons r rs ih =>
   obtain ⟨x, hq, hx⟩ := he (hr r (List.mem_cons_self ..))
   obtain ⟨xs, hqs, hxs⟩ := ih (fun r h => hr r (List.mem_cons_of_mem _ h))
   exact ⟨x :: xs, fun y hy => by rcases List.mem_cons.1 hy with rfl | hy; exact hq; exact hqs y hy, by rw [hx, hxs]; rfl⟩
 obtain ⟨xs, hq, rfl⟩ := this
 exact ⟨xs, ⟨by simpa using hl, hq⟩, by rw [eL, List.flatMap, List.length_map]⟩
end Go.Proofs.YtbjckaahoacbfaaGreatDoor.Abs
namespace Go.Proofs.YtbjckaahoacbfaaGreatDoor.Abs
theorem Dl {n : Int} (h1 : -9223372036854775808 ≤ n) (h2 : n ≤ 9223372036854775807) : wI n = n := by
 unfold wI IntKind.wrap
 simp [IntKind.bits, IntKind.signed]
 omega
theorem Gz {n : Nat} (h : n ≤ 1000000000000000000) : n < fuel := by unfold fuel; omega
theorem Ed {α : Type} (xs : List α) (i : Nat) : idx xs (i : Int) = xs[i]? := by
 unfold idx
 rw [if_pos (Int.natCast_nonneg i), Int.toNat_natCast]
theorem Y3 {α : Type} {xs : List α} {j : Int} (h0 : 0 ≤ j) (h1 : j < xs.length) : ∃ x, idx xs j = some x ∧ xs[j.toNat]? = some x := by
 have h : j.toNat < xs.length := by omega
 exact ⟨xs[j.toNat], by unfold idx; rw [if_pos h0, List.getElem?_eq_getElem h], List.getElem?_eq_getElem h⟩
theorem Qh {α : Type} {xs : List α} {lo hi : Int} (h0 : 0 ≤ lo) (h1 : lo ≤ hi) (h2 : hi ≤ xs.length) : cut xs lo hi = some ((xs.drop lo.toNat).take (hi.toNat - lo.toNat)) := by
 unfold cut
 rw [if_pos ⟨h0, h1, h2⟩]
theorem Ft {σ β : Type} {f : σ → Option (LB σ β)} {P : σ → Prop} {μ : σ → Nat} {R : β → Prop}
  (h : ∀ s, P s → (∃ s', f s = some (.cont s') ∧ P s' ∧ μ s' < μ s) ∨ ∃ b, f s = some (.brk b) ∧ R b) : ∀ (n : Nat) (s : σ), P s → μ s < n → ∃ b, Ec f n s = some b ∧ R b
 | 0, s, _, hm => by omega
 | n + 1, s, hp, hm => by
  rcases h s hp with ⟨s', hf, hp', hlt⟩ | ⟨b, hf, hr⟩
  ·obtain ⟨b, hb, hr⟩ := Ft h n s' hp' (by omega)
   exact ⟨b, by rw [Ec, hf]; exact hb, hr⟩
  ·exact ⟨b, by rw [Ec, hf], hr⟩
theorem Rx {σ β ρ : Type} {f : σ → Option (LR σ β ρ)} {P : σ → Prop} {μ : σ → Nat} {R : Sum ρ β → Prop}
  (h : ∀ s, P s → (∃ s', f s = some (.cont s') ∧ P s' ∧ μ s' < μ s) ∨ (∃ b, f s = some (.brk b) ∧ R (.inr b)) ∨ ∃ r, f s = some (.ret r) ∧ R (.inl r)) : ∀ (n : Nat) (s : σ), P s → μ s < n → ∃ b, Qx f n s = some b ∧ R b
 | 0, s, _, hm => by omega
 | n + 1, s, hp, hm => by
  rcases h s hp with ⟨s', hf, hp', hlt⟩ | ⟨b, hf, hr⟩ | ⟨b, hf, hr⟩
  ·obtain ⟨b, hb, hr⟩ := Rx h n s' hp' (by omega)
   exact ⟨b, by rw [Qx, hf]; exact hb, hr⟩
  ·exact ⟨.inr b, by rw [Qx, hf], hr⟩
  ·exact ⟨.inl b, by rw [Qx, hf], hr⟩
theorem Ahy {α σ β τ : Type} {f : τ → Option (LB τ β)} (st : σ → Nat → τ) (xs : List α) (g : σ → α → σ) (out : σ → β) (hl : xs.length < 1000000000000000000000000)
  (h1 : ∀ acc i x, xs[i]? = some x → f (st acc i) = some (.cont (st (g acc x) (i + 1)))) (h2 : ∀ acc, f (st acc xs.length) = some (.brk (out acc))) (a0 : σ) : Ec f fuel (st a0 0) = some (out (xs.foldl g a0)) := by
 have key : ∀ (k i : Nat) (acc : σ) (n : Nat), k + i = xs.length → k < n → Ec f n (st acc i) = some (out ((xs.drop i).foldl g acc)) := by
  intro k
  induction k with
  | zero =>
   intro i acc n hi hn
   obtain ⟨m, rfl⟩ : ∃ m, n = m + 1 := ⟨n - 1, by omega⟩
   have : i = xs.length := by omega
   subst this
   rw [Ec, h2, List.drop_length]
   rfl
  | succ k ih =>
   intro i acc n hi hn
   obtain ⟨m, rfl⟩ : ∃ m, n = m + 1 := ⟨n - 1, by omega⟩
   have hlt : i < xs.length := by omega
   rw [Ec, h1 acc i xs[i] (List.getElem?_eq_getElem hlt), List.drop_eq_getElem_cons hlt, List.foldl_cons]
   exact ih (i + 1) _ m (by omega) (by omega)
 have := key xs.length 0 a0 fuel (by omega) hl
 rwa [List.drop_zero] at this
end Go.Proofs.YtbjckaahoacbfaaGreatDoor.Abs
namespace Go.Proofs.YtbjckaahoacbfaaGreatDoor.Abs
open Go.Sort
section
variable {α : Type} {kf : α → List UInt8}
end
end Go.Proofs.YtbjckaahoacbfaaGreatDoor.Abs
namespace Go.Proofs.YtbjckaahoacbfaaGreatDoor.Abs
end Go.Proofs.YtbjckaahoacbfaaGreatDoor.Abs
namespace Go.Proofs.YtbjckaahoacbfaaGreatDoor.Abs
open Go.RowKit Go.MapKept
open Go.ChangeMaps (setBlock)
section
variable {P : Program} {kt : TypeId} {n : List Nat}
structure A16 (κ : Type) [DecidableEq κ] (P : Program) (kt : TypeId) (e : κ → List Lf) (n : List Nat) : Prop where
 et : EqT P kt n
 tag : ∀ k, (e k).map Lf.tag = n
 low : ∀ x ∈ n, x < 3
 eq : ∀ k k', Ab6 (e k) (e k') = some (decide (k = k'))
variable {κ : Type} [DecidableEq κ] {e : κ → List Lf}
end
section
variable {κ : Type} [DecidableEq κ]
end
section
variable {P : Program} {c : Ctx} {ops : Array Oper} {Q : Exit → AS → Prop} {rest : List Oper} {ty : TypeId} {pos : String} {af : Array Edge} {d : Tmp} {t : Nat → AV} {m : List Blk}
variable {κ : Type} [DecidableEq κ] {e : κ → List Lf} {n : List Nat} {kt : TypeId}
omit [DecidableEq κ] in
omit [DecidableEq κ] in
end
end Go.Proofs.YtbjckaahoacbfaaGreatDoor.Abs
namespace Go.Proofs.YtbjckaahoacbfaaGreatDoor.Abs
open Go.RowKit Go.Shelf Go.Sort
def A01 : Int → Value := Value.int .i64
section
variable {w : World} {b n : Nat} {d : Array Int} {os : Array Obj} {cur : Array Value} {e : TypeId}
end
structure A17 (P : Program) (e : TypeId) (w : World) (S : Dh) (H : Nat → Value) (xs : List Int) (blk cap : Nat) (cur : Array Value) : Prop where
  h : H 0 = .slice (some ⟨blk, 0, none⟩) xs.length cap
  heap : w.heap[blk]? = some (.cells cur e (0, 0))
  fits : xs.length ≤ cap
  most : cap ≤ maxLen
  cs : cur.size = cap * 1
  vals : cur.toList.take xs.length = xs.map A01
  lt : blk < w.heap.size
  noS : ∀ i, ¬ S blk i
end Go.Proofs.YtbjckaahoacbfaaGreatDoor.Abs
namespace Go.Proofs.YtbjckaahoacbfaaGreatDoor.Abs
theorem nn {b : Bool} (h : b = false) : ¬ b = true := fun h' => by rw [h] at h'; cases h'
theorem Akp {α : Type} {xs : List α} {p : α → Bool} (h : ∀ x ∈ xs, p x = false) : xs.find? p = none := List.find?_eq_none.2 fun x hx => by rw [h x hx]; decide
theorem Axb {α ρ : Type} (xs : List α) (p : α → Bool) (g : α → ρ) (f : Int → Option (LR Int Unit ρ)) (hl : xs.length ≤ 1000000000000000000)
  (h : ∀ (i : Nat) x, xs[i]? = some x → f (i : Int) = some (if p x then .ret (g x) else .cont ((i + 1 : Nat) : Int))) (hend : f (xs.length : Int) = some (.brk ())) :
  Qx f fuel 0 = some (match xs.find? p with | some x => .inl (g x) | none => .inr ()) := by
 obtain ⟨v, hv, hr⟩ := Rx (f := f) (P := fun s => ∃ i : Nat, i ≤ xs.length ∧ s = (i : Int) ∧ xs.find? p = (xs.drop i).find? p) (μ := fun s => xs.length - s.toNat)
  (R := fun r => r = (match xs.find? p with | some x => Sum.inl (g x) | none => Sum.inr ())) (by
   rintro _ ⟨i, hi, rfl, hp⟩
   rcases Nat.lt_or_ge i xs.length with hlt | hge
   ·have hx := List.getElem?_eq_getElem hlt
    have hf := h i _ hx
    have hd : xs.drop i = xs[i] :: xs.drop (i + 1) := List.drop_eq_getElem_cons hlt
    cases hpx : p xs[i] with
    | true =>
     rw [hpx, if_pos rfl] at hf
     refine .inr (.inr ⟨_, hf, ?_⟩)
     rw [hp, hd, List.find?_cons, hpx]
    | false =>
     rw [hpx, if_neg (by decide)] at hf
     refine .inl ⟨_, hf, ⟨i + 1, hlt, rfl, ?_⟩, by simp only [Int.toNat_natCast]; omega⟩
     rw [hp, hd, List.find?_cons, hpx]
   ·have e : i = xs.length := by omega
    subst e
    refine .inr (.inl ⟨(), hend, ?_⟩)
    rw [hp, List.drop_length]; rfl) fuel 0 ⟨0, Nat.zero_le _, rfl, rfl⟩ (Gz (by show xs.length - 0 ≤ _; omega))
 rw [hv, hr]
theorem Anz {α ρ : Type} (xs : List α) (p : α → Bool) (no : ρ) (f : Int → Option (LR Int Unit ρ)) (hl : xs.length ≤ 1000000000000000000)
  (h : ∀ (i : Nat) x, xs[i]? = some x → f (i : Int) = some (if p x then .cont ((i + 1 : Nat) : Int) else .ret no)) (hend : f (xs.length : Int) = some (.brk ())) :
  Qx f fuel 0 = some (if xs.all p then .inr () else .inl no) := by
 rw [Axb xs (fun x => !p x) (fun _ => no) f hl (fun i x hx => by
  rw [h i x hx]
  cases p x <;> rfl) hend]
 cases ha : xs.all p with
 | true =>
  rw [Akp fun x hx => by rw [List.all_eq_true.1 ha x hx]; rfl]; rfl
 | false =>
  obtain ⟨x, hx, hp⟩ := List.all_eq_false.1 ha
  cases hf : xs.find? (fun x => !p x) with
  | none => exact absurd (List.find?_eq_none.1 hf x hx) (by simpa using hp)
  | some y => rfl
end Go.Proofs.YtbjckaahoacbfaaGreatDoor.Abs
namespace Go.Proofs.YtbjckaahoacbfaaGreatDoor.Abs
open Go.RowKit Go.MapKept Go.Conc
open Go.ChangeMaps (setBlock)
section
variable {P : Program} {c : Ctx} {ops : Array Oper} {Q : Exit → AS → Prop} {rest : List Oper} {ty : TypeId} {pos : String} {af : Array Edge} {d : Tmp} {t : Nat → AV} {m : List Blk} {α : Type} {e : α → List Lf}
end
end Go.Proofs.YtbjckaahoacbfaaGreatDoor.Abs
namespace Go.Proofs.YtbjckaahoacbfaaGreatDoor.Abs
open Go.RowKit
section
variable {H : Type} {enc : TypeId × Value → H} {P : Program} {w : World} {spare : Nat → Bool} {held : Bool} {base : Nat}
end
section
variable {H : Type} {enc : TypeId × Value → H} {P : Program} {W W' : World}
end
end Go.Proofs.YtbjckaahoacbfaaGreatDoor.Abs
namespace Go.Proofs.YtbjckaahoacbfaaGreatDoor.Abs
open Go.RowKit
section
variable {P : Program} {c : Ctx} {st : AS} {ty : TypeId}
theorem Qr {t n e sz o p q : Nat} {x y : Operand} {k : IntKind} {j : Int} (ai : AI P t n e sz) (hx : Ca st x = .s (.one (.lp p q))) (hy : Ca st y = .s (.one (.i k j))) (h : (0 ≤ j ∧ j < n) ∧ j.toNat * sz = o) :
  OpV P c st (.indexAddr t x y) ty (.s (.one (.lp p (q + o)))) := by
 have := Of (P := P) (c := c) (ty := ty) ai hx rfl hy (fun _ _ _ h => by cases h) h.1.1 h.1.2
 rwa [h.2] at this
end
end Go.Proofs.YtbjckaahoacbfaaGreatDoor.Abs
namespace Go.Proofs.YtbjckaahoacbfaaGreatDoor.Abs
open Go.RowKit
def U6 (P : Program) (r : TypeId → Option (List Nat)) : Nat → List Field → Option (List Nat)
 | _, [] => some []
 | off, f :: fs => if f.name != "_" && f.offset == off then
   match r f.type with
   | some g => if (P.info? f.type).map (·.size) == some g.length then (U6 P r (off + g.length) fs).map (g ++ ·) else none
   | none => none
  else none
def Ab1 (P : Program) : Nat → TypeId → Option (List Nat)
 | 0, _ => none
 | d + 1, t => match P.underlying t with
  | some (.int _) => some [0]
  | some .bool => some [1]
  | some .string => some [2]
  | some (.struct fs) => if P.stoodInHeld t then none else U6 P (Ab1 P d) 0 fs.toList
  | some (.array n e) => match Ab1 P d e with
   | some g => if (P.info? e).map (·.size) == some g.length then some ((List.replicate n g).flatten) else none
   | none => none
  | _ => none
theorem Abu : ∀ (k : Nat) (ls ls' : List Lf) (b : Bool), Ab6 ls ls' = some b → ∃ x y, Ab6 (ls.take k) (ls'.take k) = some x ∧ Ab6 (ls.drop k) (ls'.drop k) = some y ∧ b = (x && y)
 | 0, ls, ls', b, h => ⟨true, b, rfl, h, rfl⟩
 | k + 1, [], [], b, h => ⟨true, true, rfl, rfl, by cases h; rfl⟩
 | k + 1, [], _ :: _, b, h => by cases h
 | k + 1, _ :: _, [], b, h => by cases h
 | k + 1, l :: ls, l' :: ls', b, h => by
  unfold Ab6 at h
  cases e1 : Avh l l' with
  | none => rw [e1] at h; cases h
  | some p =>
  cases e2 : Ab6 ls ls' with
  | none => rw [e1, e2] at h; cases h
  | some q =>
  rw [e1, e2] at h
  obtain rfl : (p && q) = b := Option.some.inj h
  obtain ⟨x, y, h1, h2, rfl⟩ := Abu k ls ls' q e2
  refine ⟨p && x, y, ?_, h2, by rw [Bool.and_assoc]⟩
  show Ab6 (l :: ls.take k) (l' :: ls'.take k) = _
  unfold Ab6
  rw [e1, h1]
def At (w : World) (S : Dh) (m : List Blk) (H : Nat → Value) (xs : Array Value) (off : Nat) (ls : List Lf) : Prop := ∀ j l, ls[j]? = some l → ∃ v, xs[off + j]? = some v ∧ C9 w S m H l v
theorem At.take {w : World} {S : Dh} {m : List Blk} {H : Nat → Value} {xs : Array Value} {off : Nat} {ls : List Lf} (h : At w S m H xs off ls) (k : Nat) : At w S m H xs off (ls.take k) := fun j l hj => by
 rw [List.getElem?_take] at hj
 split at hj
 ·exact h j l hj
 ·cases hj
theorem At.drop {w : World} {S : Dh} {m : List Blk} {H : Nat → Value} {xs : Array Value} {off : Nat} {ls : List Lf} (h : At w S m H xs off ls) (k : Nat) : At w S m H xs (off + k) (ls.drop k) := fun j l hj => by
 rw [List.getElem?_drop] at hj
 obtain ⟨v, hv, hr⟩ := h _ l hj
 exact ⟨v, by rw [← hv, Nat.add_assoc], hr⟩
theorem At.part {w : World} {S : Dh} {m : List Blk} {H : Nat → Value} {xs : Array Value} {off n : Nat} {ls : List Lf} (h : At w S m H xs off ls) (hl : ls.length = n) : At w S m H (xs.extract off (off + n)) 0 ls := fun j l hj => by
 obtain ⟨v, hv, hr⟩ := h j l hj
 have hjl := (List.getElem?_eq_some_iff.1 hj).1
 have hx := (Array.getElem?_eq_some_iff.1 hv).1
 refine ⟨v, ?_, hr⟩
 rw [Array.getElem?_extract, if_pos (by omega), Nat.zero_add, hv]
def EqG (P : Program) (dd : Nat) (t : TypeId) (g : List Nat) : Prop :=
 ∀ (w : World) (S : Dh) (m : List Blk) (H : Nat → Value) (xs ys : Array Value) (off : Nat) (ls ls' : List Lf) (b : Bool), ls.map Lf.tag = g → ls'.map Lf.tag = g → Ab6 ls ls' = some b → At w S m H xs off ls → At w S m H ys off ls' →
  ∃ u v, (part t xs off).run P w = .ok u w ∧ (part t ys off).run P w = .ok v w ∧ (Op.equalIn dd t u v).run P w = .ok b w
theorem Aaf {P : Program} {dd : Nat} {r : TypeId → Option (List Nat)} (hr : ∀ t g, r t = some g → EqG P dd t g) {w : World} {S : Dh} {m : List Blk} {H : Nat → Value} {xs ys : Array Value} : ∀ (fs : List Field) (off : Nat) (g : List Nat) (ls ls' : List Lf) (b : Bool),
  U6 P r off fs = some g → ls.map Lf.tag = g → ls'.map Lf.tag = g → Ab6 ls ls' = some b → At w S m H xs off ls → At w S m H ys off ls' → (Op.eqFields dd xs ys fs).run P w = .ok b w
 | [], off, g, ls, ls', b, hf, hl, hl', he, _, _ => by
  cases hf
  rw [List.map_eq_nil_iff] at hl hl'
  subst hl hl'
  cases he
  rfl
 | f :: fs, off, g, ls, ls', b, hf, hl, hl', he, hx, hy => by
  unfold U6 at hf
  split at hf
  rotate_left
  ·cases hf
  rename_i hnm
  simp only [Bool.and_eq_true, bne_iff_ne, ne_eq, beq_iff_eq] at hnm
  split at hf
  rotate_left
  ·cases hf
  rename_i g1 hg1
  split at hf
  rotate_left
  ·cases hf
  rw [Option.map_eq_some_iff] at hf
  obtain ⟨g2, hg2, rfl⟩ := hf
  obtain ⟨x, y, h1, h2, rfl⟩ := Abu g1.length ls ls' b he
  have t1 : (ls.take g1.length).map Lf.tag = g1 := by rw [List.map_take, hl, List.take_left]
  have t1' : (ls'.take g1.length).map Lf.tag = g1 := by rw [List.map_take, hl', List.take_left]
  have t2 : (ls.drop g1.length).map Lf.tag = g2 := by rw [List.map_drop, hl, List.drop_left]
  have t2' : (ls'.drop g1.length).map Lf.tag = g2 := by rw [List.map_drop, hl', List.drop_left]
  obtain ⟨u, v, p1, p2, p3⟩ := hr _ _ hg1 w S m H xs ys off _ _ x t1 t1' h1 (hx.take _) (hy.take _)
  have ih := Aaf hr fs (off + g1.length) g2 _ _ y hg2 t2 t2' h2 (hx.drop _) (hy.drop _)
  unfold Op.eqFields
  rw [if_pos hnm.1, hnm.2]
  simp only [Sem.run_bind, p1, p2, p3, Result.andThen_ok]
  cases x
  ·simp
  ·simp [ih]
theorem Adm {P : Program} {dd : Nat} {e : TypeId} {g : List Nat} (hr : EqG P dd e g) {w : World} {S : Dh} {m : List Blk} {H : Nat → Value} {xs ys : Array Value} : ∀ (n i : Nat) (ls ls' : List Lf) (b : Bool),
  ls.map Lf.tag = (List.replicate n g).flatten → ls'.map Lf.tag = (List.replicate n g).flatten → Ab6 ls ls' = some b → At w S m H xs (i * g.length) ls → At w S m H ys (i * g.length) ls' → (Op.eqItems dd e g.length xs ys (List.range' i n)).run P w = .ok b w
 | 0, i, ls, ls', b, hl, hl', he, _, _ => by
  simp at hl hl'
  subst hl hl'
  cases he
  rfl
 | n + 1, i, ls, ls', b, hl, hl', he, hx, hy => by
  rw [List.replicate_succ, List.flatten_cons] at hl hl'
  obtain ⟨x, y, h1, h2, rfl⟩ := Abu g.length ls ls' b he
  have t1 : (ls.take g.length).map Lf.tag = g := by rw [List.map_take, hl, List.take_left]
  have t1' : (ls'.take g.length).map Lf.tag = g := by rw [List.map_take, hl', List.take_left]
  have t2 : (ls.drop g.length).map Lf.tag = (List.replicate n g).flatten := by rw [List.map_drop, hl, List.drop_left]
  have t2' : (ls'.drop g.length).map Lf.tag = (List.replicate n g).flatten := by rw [List.map_drop, hl', List.drop_left]
  obtain ⟨u, v, p1, p2, p3⟩ := hr w S m H xs ys _ _ _ x t1 t1' h1 (hx.take _) (hy.take _)
  have ih := Adm hr n (i + 1) _ _ y t2 t2' h2 (by rw [Nat.succ_mul]; exact hx.drop _) (by rw [Nat.succ_mul]; exact hy.drop _)
  rw [List.range'_succ]
  simp only [Op.eqItems, Sem.run_bind, p1, p2, p3, Result.andThen_ok]
  cases x
  ·simp
  ·simp [ih]
theorem Vt {P : Program} {w : World} {t : TypeId} {n : Nat} {xs : Array Value} {off : Nat} (hu : (∃ fs, P.underlying t = some (.struct fs)) ∨ ∃ k e, P.underlying t = some (.array k e)) (hi : (P.info? t).map (·.size) = some n) : (part t xs off).run P w = .ok (.agg (xs.extract off (off + n))) w := by
 rcases hu with ⟨fs, hu⟩ | ⟨k, e, hu⟩ <;> simp [part, isAgg, run_underlying hu, C7 hi]
theorem Ax0 {P : Program} (d : Nat) : ∀ (k : Nat) (t : TypeId) (g : List Nat), Ab1 P k t = some g → (P.info? t).map (·.size) = some g.length → EqG P (d + k) t g
 | 0, _, _, h, _ => by cases h
 | k + 1, t, g, h, hsz => by
  intro w S m H xs ys off ls ls' b hl hl' he hx hy
  have hlen : ls.length = g.length := by rw [← hl, List.length_map]
  have hlen' : ls'.length = g.length := by rw [← hl', List.length_map]
  cases hu : P.underlying t with
  | none => unfold Ab1 at h; rw [hu] at h; cases h
  | some dd =>
  have scal : ∀ c : Nat, g = [c] → c < 3 → Yp (some dd) = c → ∃ u v, (part t xs off).run P w = .ok u w ∧ (part t ys off).run P w = .ok v w ∧ (Op.equalIn (d + (k + 1)) t u v).run P w = .ok b w := by
   intro c hg hc htag
   subst hg
   obtain ⟨l, rfl⟩ := List.length_eq_one_iff.1 (hlen.trans rfl)
   obtain ⟨l', rfl⟩ := List.length_eq_one_iff.1 (hlen'.trans rfl)
   simp only [List.map_cons, List.map_nil, List.cons.injEq, and_true] at hl hl'
   have hf := Wj (P := P) (S := S) (m := m) (H := H) (w := w) (d := d + k) (xs := xs) (ys := ys) [{ name := "x", type := t, offset := off, embedded := false, tag := "", pkgPath := "", byteOffset := 0 }] off [l] [l'] b (by
    simp [Akw, hu, htag, hl]) (by simp [hl, hl']) he hx hy
   obtain ⟨v, hv, -⟩ := hx 0 l rfl
   obtain ⟨v', hv', -⟩ := hy 0 l' rfl
   have ht4 : Yp (P.underlying t) < 4 := by rw [hu, htag]; omega
   refine ⟨v, v', Rc ht4 hv, Rc ht4 hv', ?_⟩
   unfold Op.eqFields at hf
   rw [if_pos (show ("x" : String) ≠ "_" by decide)] at hf
   simp only [Nat.add_zero] at hv hv'
   simp only [Sem.run_bind, Rc ht4 hv, Rc ht4 hv', Result.andThen_ok] at hf
   rw [show d + (k + 1) = d + k + 1 from rfl]
   cases hq : (Op.equalIn (d + k + 1) t v v').run P w with
   | ok q w' =>
    rw [hq] at hf
    simp only [Result.andThen_ok] at hf
    cases q
    ·simpa [Op.eqFields] using hf
    ·simpa [Op.eqFields] using hf
   | _ => rw [hq] at hf; simp [Result.andThen] at hf
  unfold Ab1 at h
  rw [hu] at h
  cases dd with
  | int q => exact scal 0 (Option.some.inj h).symm (by decide) rfl
  | bool => exact scal 1 (Option.some.inj h).symm (by decide) rfl
  | string => exact scal 2 (Option.some.inj h).symm (by decide) rfl
  | struct fs =>
   dsimp only at h
   split at h
   ·cases h
   rename_i hst
   refine ⟨_, _, Vt (.inl ⟨fs, hu⟩) hsz, Vt (.inl ⟨fs, hu⟩) hsz, ?_⟩
   have hfs : P.fieldsOf t = fs := by simp [Program.fieldsOf, hu]
   rw [show d + (k + 1) = d + k + 1 from rfl, run_equalIn_struct w (d + k) t _ _ (by rw [hfs]; exact hu) (by simpa using hst), hfs]
   exact Aaf (r := fun t => match Ab1 P k t with | some g => if (P.info? t).map (·.size) == some g.length then some g else none | none => none) (fun t g hg => by
    split at hg
    ·split at hg
     ·rename_i g' h1 h2
      cases hg
      exact Ax0 d k t g h1 (by simpa using h2)
     ·cases hg
    ·cases hg) _ 0 g ls ls' b (by
     have key : ∀ (fs : List Field) (off : Nat) (g : List Nat), U6 P (Ab1 P k) off fs = some g → U6 P (fun t => match Ab1 P k t with | some g => if (P.info? t).map (·.size) == some g.length then some g else none | none => none) off fs = some g := by
      intro fs
      induction fs with
      | nil => intro off g h; exact h
      | cons f fs ih =>
       intro off g h
       unfold U6 at h ⊢
       split at h
       rotate_left
       ·cases h
       rename_i hnm
       rw [if_pos hnm]
       split at h
       rotate_left
       ·cases h
       rename_i g1 hg1
       split at h
       rotate_left
       ·cases h
       rename_i hsz1
       rw [Option.map_eq_some_iff] at h
       obtain ⟨g2, hg2, rfl⟩ := h
       rw [if_pos hsz1]
       dsimp only
       rw [if_pos hsz1, ih _ _ hg2]
       rfl
     exact key _ _ _ h) hl hl' he (hx.part hlen) (hy.part hlen')
  | array n e =>
   dsimp only at h
   split at h
   rotate_left
   ·cases h
   rename_i g1 hg1
   split at h
   rotate_left
   ·cases h
   rename_i hsz1
   have hsz1 : (P.info? e).map (·.size) = some g1.length := by simpa using hsz1
   cases h
   obtain ⟨i, hi, hi2⟩ := Option.map_eq_some_iff.1 hsz1
   refine ⟨_, _, Vt (.inr ⟨n, e, hu⟩) hsz, Vt (.inr ⟨n, e, hu⟩) hsz, ?_⟩
   rw [show d + (k + 1) = d + k + 1 from rfl, run_equalIn_array w (d + k) _ _ hu hi, show P.cellsOf e = g1.length by simp [Program.cellsOf, hi, hi2], List.range_eq_range']
   exact Adm (Ax0 d k e g1 hg1 hsz1) n 0 ls ls' b hl hl' he (by rw [Nat.zero_mul]; exact hx.part hlen) (by rw [Nat.zero_mul]; exact hy.part hlen')
  | _ => cases h
end Go.Proofs.YtbjckaahoacbfaaGreatDoor.Abs
namespace Go.Proofs.YtbjckaahoacbfaaGreatDoor.Abs
open Go.RowKit
section
variable {P : Program} {c : Ctx} {st : AS} {ty : TypeId} {xt yt : TypeId} {x y : Operand}
structure EqD (P : Program) (t : TypeId) (g : List Nat) : Prop where
 u : Ab1 P 8 t = some g
 s : (P.info? t).map (·.size) = some g.length
 g : P.eqGuardType P.depth t = false
 a : (match P.underlying t with | some (.struct _) => true | some (.array _ _) => true | _ => false) = true
theorem Aiw {n : List Nat} (et : EqD P xt n) {ls ls' : List Lf} {b : Bool} (hx : Ca st x = .s (.agg ls)) (hy : Ca st y = .s (.agg ls')) (hn : ls.map Lf.tag = n) (hn' : ls'.map Lf.tag = n) (he : Ab6 ls ls' = some b) {a : Act} {w : World} {S : Dh} {H : Nat → Value} (r : Rel c st a w S H) :
  ∃ cs cs' : Array Value, a.eval x = .agg cs ∧ a.eval y = .agg cs' ∧ (Op.equalIn 10000 xt (.agg cs) (.agg cs')).run P w = .ok b w := by
 have h1 := Bm r x
 rw [hx] at h1
 have h2 := Bm r y
 rw [hy] at h2
 obtain ⟨cs, e1, g1⟩ := h1
 obtain ⟨cs', e2, g2⟩ := h2
 refine ⟨cs, cs', e1, e2, ?_⟩
 have l1 : cs.size = n.length := by rw [← hn, List.length_map]; have := g1.1; simpa using this.symm
 have l2 : cs'.size = n.length := by rw [← hn', List.length_map]; have := g2.1; simpa using this.symm
 have hag : (∃ fs, P.underlying xt = some (.struct fs)) ∨ ∃ k e, P.underlying xt = some (.array k e) := by
  have := et.a
  split at this
  ·exact .inl ⟨_, by assumption⟩
  ·exact .inr ⟨_, _, by assumption⟩
  ·cases this
 obtain ⟨u, v, p1, p2, p3⟩ := Ax0 (P := P) 9992 8 xt n et.u et.s w S st.m H cs cs' 0 ls ls' b hn hn' he (fun j l h => by
  obtain ⟨v, hv, hr⟩ := g1.get h
  exact ⟨v, by simpa using hv, hr⟩) (fun j l h => by
  obtain ⟨v, hv, hr⟩ := g2.get h
  exact ⟨v, by simpa using hv, hr⟩)
 rw [Vt hag et.s] at p1 p2
 have q1 : u = .agg cs := by
  cases p1
  rw [Nat.zero_add, ← l1, Array.extract_size]
 have q2 : v = .agg cs' := by
  cases p2
  rw [Nat.zero_add, ← l2, Array.extract_size]
 subst q1 q2
 exact p3
theorem Au8 {n : List Nat} (et : EqD P xt n) {ls ls' : List Lf} {b : Bool} (hx : Ca st x = .s (.agg ls)) (hy : Ca st y = .s (.agg ls')) (hn : ls.map Lf.tag = n) (hn' : ls'.map Lf.tag = n) (he : Ab6 ls ls' = some b) : OpV P c st (.binOp .eql xt x y yt) ty (.s (.one (.b b))) := by
 intro a w S H r
 obtain ⟨cs, cs', e1, e2, h⟩ := Aiw et hx hy hn hn' he r
 refine ⟨.bool b, Gl (.b _), fun _ _ _ _ => ?_⟩
 simp only [execOp, e1, e2, Sem.run_bind, run_eqGuard_agg w _ xt x y cs cs' et.g, Result.andThen_ok, run_eql_struct, h]
 rfl
theorem T3 {n : List Nat} (et : EqD P xt n) {ls ls' : List Lf} {b : Bool} (hx : Ca st x = .s (.agg ls)) (hy : Ca st y = .s (.agg ls')) (hn : ls.map Lf.tag = n) (hn' : ls'.map Lf.tag = n) (he : Ab6 ls ls' = some b) : OpV P c st (.binOp .neq xt x y yt) ty (.s (.one (.b (!b)))) := by
 intro a w S H r
 obtain ⟨cs, cs', e1, e2, h⟩ := Aiw et hx hy hn hn' he r
 refine ⟨.bool (!b), Gl (.b _), fun _ _ _ _ => ?_⟩
 simp only [execOp, e1, e2, Sem.run_bind, run_eqGuard_agg w _ xt x y cs cs' et.g, Result.andThen_ok, run_neq_struct, h]
 rfl
theorem Hp {t n e sz : Nat} {zl out : List Lf} {F5 : Array (Nat × Operand)} {xs : List (Nat × SV)} (zi : ZI P t zl) (ai : AI P t n e sz) (hp : Yz st F5.toList xs) (hb : V0 (fun i : Nat => some (i * sz, sz)) zl xs out) :
  OpV P c st (.build t F5) ty (.s (.agg out)) := by
 intro a w S H r
 obtain ⟨i, z, hi, hz, hl, ho⟩ := zi.h
 have hpr := Vn r hp
 have hz0 : LsR (C9 w S st.m H) zl z.cells.toList := by rw [← hl]; exact X7 ho
 obtain ⟨cells', hf, hr⟩ := Zd (fun l v => C9.oneCell) hb z.cells _ hz0 hpr.1 hpr.2
 refine ⟨.agg cells', ⟨cells', rfl, hr⟩, fun _ _ _ _ => ?_⟩
 have hfill : Instr.fill (fun j : Nat => some (j * sz, sz)) z.cells ((F5.map fun x => (x.1, a.eval x.2)).toList) = some cells' := by
  rw [Array.toList_map]
  exact hf
 simp only [execOp, Instr.build, Sem.run_bind, zeroValue, typeInfo, run_program, Result.andThen_ok, hi, hz, Sem.run_pure, run_underlying ai.u, C7 ai.i]
 rw [show (fun x : Nat × Operand => (x.1, a.eval x.2)) = (fun x => match x with | (i, x) => (i, a.eval x)) from rfl] at hfill
 simp only [hfill, Sem.run_pure, Result.andThen_ok]
theorem M5 {t n e p q : Nat} {k : IntKind} {j : Int} (ai : AI P t n e 1) (hx : Ca st x = .s (.one (.lp p q))) (hy : Ca st y = .s (.one (.i k j))) (h : 0 ≤ j ∧ j < n) :
  OpV P c st (.indexAddr t x y) ty (.s (.one (.lp p (q + j.toNat)))) := by
 have := Of (P := P) (c := c) (ty := ty) ai hx rfl hy (fun _ _ _ h => by cases h) h.1 h.2
 rwa [Nat.mul_one] at this
theorem X2 {α : Type} {t p o : Nat} {cs : List Lf} {xs : List α} {j : Int} {u : α} (g : α → Lf) (post : List Lf) (ti : TI P t false 1) (hx : Ca st x = .s (.one (.lp p (o + j.toNat)))) (hm : st.m[p]? = some (.box cs)) (hcs : cs.drop o = xs.map g ++ post) (hu : idx xs j = some u) :
  OpV P c st (.load t x) ty (.s (.one (g u))) := by
 refine Ae ti hx (.lp _ _ _ hm) ?_
 have hu := (Vy hu).2
 have hlt := (List.getElem?_eq_some_iff.1 hu).1
 rw [← List.drop_drop, hcs, List.getElem?_drop, Nat.add_zero, List.getElem?_append_left (by rw [List.length_map]; exact hlt), List.getElem?_map, hu]
 rfl
end
theorem Ac3 {j : Int} {n : Nat} {o : Nat} {cs : List Lf} (h : 0 ≤ j ∧ j < n) (hn : o + n ≤ cs.length) : o + j.toNat + 1 ≤ cs.length := by omega
theorem Aig (pre xs : List Lf) (k : Nat) (ls : List Lf) : Kc (pre ++ xs) (pre.length + k) ls = pre ++ Kc xs k ls := by
 unfold Kc
 rw [List.take_length_add_append, Nat.add_assoc, List.drop_length_add_append, List.append_assoc, List.append_assoc, List.append_assoc]
theorem Tc {M : List Blk} {p : Nat} {a b : List Lf} (h : a = b) : M.set p (.box a) = M.set p (.box b) := by rw [h]
end Go.Proofs.YtbjckaahoacbfaaGreatDoor.Abs
namespace Go.Proofs.YtbjckaahoacbfaaGreatDoor.Abs
section
variable {P : Program} {c : Ctx} {st : AS} {ty : TypeId}
end
theorem ccI {P : Program} {c : Ctx} {x y : Code} {o : Operand} {t : Nat → AV} {m : List Blk} {Q : Exit → AS → Prop} {b : Bool} {α : Type} {u v : Option α} {r : α} (h : (if b then u else v) = some r) (ho : Ca ⟨t, m⟩ o = .s (.one (.b b)))
  (h1 : u = some r → AWC P c x Q ⟨t, m⟩) (h0 : v = some r → AWC P c y Q ⟨t, m⟩) : AWC P c (.cond o x y) Q ⟨t, m⟩ := Ei ho (fun hc => h1 (Br hc h)) (fun hc => h0 (Bq hc h))
section
variable {P : Program} {c : Ctx} {st : AS} {ty : TypeId}
def Au7 (d : TypeDesc) : Bool := match d with | .func .. => true | _ => false
theorem Anx (d : Nat) {w : World} {t : TypeId} {ds : TypeDesc} (h : P.underlying t = some ds) (hd : Au7 ds = true) : (Op.equalIn (d + 1) t .nilFunc .nilFunc).run P w = .ok true w := by
 cases ds <;> first | (cases hd; done) | simp [Op.equalIn, run_underlying h]
theorem Amd (d : Nat) {w : World} {t : TypeId} {ds : TypeDesc} {f : Fn} {va vb : Array Value} (h : P.underlying t = some ds) (hd : Au7 ds = true) : (Op.equalIn (d + 1) t (.func f va vb) .nilFunc).run P w = .ok false w := by
 cases ds <;> first | (cases hd; done) | simp [Op.equalIn, run_underlying h]
theorem Kl {xt yt : TypeId} {x : Operand} {d : TypeDesc} {f : FuncId} (hu : P.underlying xt = some d) (hx : Ca st x = .s (.one (.raw (.func (.func f) #[] #[])))) (hd : Au7 d = true := by rfl) : OpV P c st (.binOp .eql xt x (.const .nilFunc) yt) ty (.s (.one (.b false))) := by
 intro a w S H r
 have hx' := Bm r x
 rw [hx] at hx'
 have hv : a.eval x = .func (.func f) #[] #[] := Nb hx'
 refine ⟨.bool false, Gl (.b _), fun _ _ _ _ => ?_⟩
 have hc : a.eval (.const .nilFunc) = .nilFunc := rfl
 simp [execOp, hv, hc, eqGuard, binOp, Op.equal, show Op.maxDepth = 9999 + 1 from rfl, Amd 9999 hu hd]
theorem Aff {xt yt : TypeId} {x : Operand} {d : TypeDesc} (hu : P.underlying xt = some d) (hx : Ca st x = .s (.one (.raw .nilFunc))) (hd : Au7 d = true := by rfl) : OpV P c st (.binOp .eql xt x (.const .nilFunc) yt) ty (.s (.one (.b true))) := by
 intro a w S H r
 have hx' := Bm r x
 rw [hx] at hx'
 have hv : a.eval x = .nilFunc := Nb hx'
 refine ⟨.bool true, Gl (.b _), fun _ _ _ _ => ?_⟩
 have hc : a.eval (.const .nilFunc) = .nilFunc := rfl
 simp [execOp, hv, hc, eqGuard, binOp, Op.equal, show Op.maxDepth = 9999 + 1 from rfl, Anx 9999 hu hd]
end
end Go.Proofs.YtbjckaahoacbfaaGreatDoor.Abs
namespace Go.Proofs.YtbjckaahoacbfaaGreatDoor.Abs
open Go.RowKit
def Ava (st : AS) : Op → Option SV
 | .move x => match Ca st x with
  | .s v => some v
  | _ => none
 | .assign x => match Ca st x with
  | .s v => some v
  | _ => none
 | .pick b x y => match Ca st b with
  | .s (.one (.b true)) => match Ca st x with
   | .s v => some v
   | _ => none
  | .s (.one (.b false)) => match Ca st y with
   | .s v => some v
   | _ => none
  | _ => none
 | _ => none
theorem Aiv {P : Program} {c : Ctx} {st : AS} {op : Op} {ty : TypeId} {v : SV} (h : Ava st op = some v) : OpV P c st op ty (.s v) := by
 unfold Ava at h
 split at h
 ·split at h
  ·rename_i hx; cases h; exact Bc hx
  ·cases h
 ·split at h
  ·rename_i hx; cases h; exact K5 hx
  ·cases h
 ·split at h
  ·rename_i hb
   split at h
   ·rename_i hx; cases h; exact Oc hb hx
   ·cases h
  ·rename_i hb
   split at h
   ·rename_i hx; cases h; exact Nh hb hx
   ·cases h
  ·cases h
 ·cases h
def Ajq (nt : Nat) (m : List Blk) (ops : Array Oper) : Nat → List Oper → (Nat → AV) → Option (List Oper × (Nat → AV))
 | 0, l, t => some (l, t)
 | n + 1, l, t => match l with
  | [] => none
  | o :: rest => match o with
   | ⟨some d, op, _, _, _, g⟩ => match decide (d < nt) with
    | true => match g with
     | none => match Ava ⟨t, m⟩ op with
      | some v => Ajq nt m ops n rest (upd t d (.s v))
      | none => none
     | some (j, want) => match (ops[j]?).bind (·.dst) with
      | some dj => match t dj with
       | .s (.one (.b b)) => match b == want with
        | false => Ajq nt m ops n rest (upd t d (.tup []))
        | true => match decide (dj < nt) with
         | true => match Ava ⟨t, m⟩ op with
          | some v => Ajq nt m ops n rest (upd t d (.s v))
          | none => none
         | false => none
       | _ => none
      | none => none
    | false => none
   | _ => none
theorem rm {P : Program} {c : Ctx} {m : List Blk} {ops : Array Oper} {Q : Exit → AS → Prop} (n : Nat) {l l' : List Oper} {t t' : Nat → AV} (h : Ajq c.nt m ops n l t = some (l', t')) (k : AWL P c ops Q l' ⟨t', m⟩) : AWL P c ops Q l ⟨t, m⟩ := by
 induction n generalizing l t with
 | zero => cases h; exact k
 | succ n ih =>
  unfold Ajq at h
  split at h
  ·cases h
  split at h
  ·rename_i rest d op ty pos af g
   split at h
   ·rename_i hd
    split at h
    ·split at h
     ·rename_i v hv
      exact sv hd (Aiv hv) (ih h)
     ·cases h
    ·rename_i j want
     split at h
     ·rename_i dj hj
      split at h
      ·rename_i b ht
       split at h
       ·rename_i hb
        exact A0g hd hj ht hb (ih h)
       ·rename_i hb
        split at h
        ·rename_i hn
         split at h
         ·rename_i v hv
          have hb : b = want := by simpa using hb
          subst hb
          exact son hn hj ht (sv hd (Aiv hv) (ih h))
         ·cases h
        ·cases h
      ·cases h
     ·cases h
   ·cases h
  ·cases h
theorem dnT {P : Program} {fn : Func} {R : AV → Prop} {st : AS} {t : Tmp} {x : SV} (hr : fn.results.toList = [.tmp t]) (hx : st.t t = .s x) (hp : x.cells.all Lf.pubd = true) (hR : R (.s x)) : Done P fn R .ret st :=
 ⟨Or.inr rfl, [x], [x], st.m, by rw [hr]; exact Aj (.tmp _ _ hx) As, Ao (by simpa using hp), hR⟩
theorem dnA {P : Program} {fn : Func} {R : AV → Prop} {st : AS} {t : Tmp} {ty : TypeId} {sz : Nat} {l : Lf} {cs : List Lf} (hr : fn.results.toList = [.cell t ty]) (ti : TI P ty true sz) (ht : st.t t = .s (.one l)) (hp : Z4 st l cs) (hy : sz ≤ cs.length) (hb : (cs.take sz).all Lf.pubd = true) (hR : R (.s (.agg (cs.take sz)))) : Done P fn R .ret st :=
 ⟨Or.inr rfl, [.agg (cs.take sz)], [.agg (cs.take sz)], st.m, by rw [hr]; exact Aj (.agg _ _ _ _ _ ti ht hp hy) As, Ao (by simpa [SV.cells] using hb), hR⟩
theorem evs {α : Prop} {md : List Blk} {all : List (List Blk)} (k : Yx md all → α) (h : Yx md all) : α := k h
section
variable {P : Program} {c : Ctx} {t : Nat → AV} {m : List Blk} {ops : Array Oper} {Q : Exit → AS → Prop} {rest : List Oper} {ty ty' : TypeId} {pos pos' : String} {af af' : Array Edge} {d e : Tmp}
theorem csr {id : Nat} {l : List Oper} {y : Code} (h : AWL P c l.toArray (Qv (AWC P c y Q) Q) l ⟨t, m⟩) : AWC P c (.seq (.region id l.toArray false) y) Q ⟨t, m⟩ := Bp (Az h)
theorem fl {s f off : Nat} {x y : Operand} {p o q : Nat} {T : TypeId} {cs : List Lf} {z : Lf} (fi : FI P s f off) (ti : TI P T false 1) (h1 : decide (d < c.nt) = true) (hx : Ca ⟨t, m⟩ x = .s (.one (.lp p o))) (h2 : decide (e < c.nt) = true) (hy : Ca ⟨upd t d (.s (.one (.lp p (o + off)))), m⟩ y = .s (.one (.lp p q))) (hm : m[p]? = some (.box cs)) (hz : (cs.drop q)[0]? = some z)
  (k : AWL P c ops Q rest ⟨upd (upd t d (.s (.one (.lp p (o + off))))) e (.s (.one z)), m⟩) : AWL P c ops Q (⟨some d, .fieldAddr s x f, ty, pos, af, none⟩ :: ⟨some e, .load T y, ty', pos', af', none⟩ :: rest) ⟨t, m⟩ :=
 sv h1 (Aa fi hx) (sv h2 (Ae ti hy (.lp _ _ _ hm) hz) k)
end
end Go.Proofs.YtbjckaahoacbfaaGreatDoor.Abs
