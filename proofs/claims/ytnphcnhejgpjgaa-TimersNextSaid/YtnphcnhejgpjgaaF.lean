/-
  What stands beneath the four laws of the timers, part F.
-/
import Derived.Conc.Events
import Derived.Conc.EventLaws
import Derived.Test.YtnphcnhejgpjgaaProg
import Derived.Test.YtnphcnhejgpjgaaE
import Derived.Conc.SmallLaws
import Derived.Conc.LeavingOf
set_option linter.unusedVariables false
set_option linter.unusedSimpArgs false
section
namespace Go.Proofs.Ytnphcnhejgpjgaa.Abs
open Go.Proofs.Ytnphcnhejgpjgaa.Co Go.Conc
open Go.Proofs
section
variable {a : Act} {dst : Option Tmp} {ty : TypeId} {pos : String} {af : Array Edge} {g : Option (Nat × Bool)} {x y : Operand} {m n : Int}
theorem du_lss {t u : TypeId} (hx : a.eval x = .int .i64 m) (hy : a.eval y = .int .i64 n) (w : World) :
    (execOp a.eval ⟨dst, .binOp .lss t x y u, ty, pos, af, g⟩).run Try.prog w = .ok (.value (.bool (m < n))) w ∧ (execOp a.eval ⟨dst, .binOp .lss t x y u, ty, pos, af, g⟩).events Try.prog w #[] = #[] := by
  unfold execOp
  constructor <;> simp [hx, hy, eqGuard, binOp, Op.intCmp, Result.andThen, Result.evThen]
theorem du_leq {t u : TypeId} (hx : a.eval x = .int .i64 m) (hy : a.eval y = .int .i64 n) (w : World) :
    (execOp a.eval ⟨dst, .binOp .leq t x y u, ty, pos, af, g⟩).run Try.prog w = .ok (.value (.bool (m ≤ n))) w ∧ (execOp a.eval ⟨dst, .binOp .leq t x y u, ty, pos, af, g⟩).events Try.prog w #[] = #[] := by
  unfold execOp
  constructor <;> simp [hx, hy, eqGuard, binOp, Op.intCmp, Result.andThen, Result.evThen]
theorem du_add {t u : TypeId} (hx : a.eval x = .int .i64 m) (hy : a.eval y = .int .i64 n) (w : World) :
    (execOp a.eval ⟨dst, .binOp .add t x y u, ty, pos, af, g⟩).run Try.prog w = .ok (.value (.int .i64 (IntKind.i64.wrap (m + n)))) w ∧ (execOp a.eval ⟨dst, .binOp .add t x y u, ty, pos, af, g⟩).events Try.prog w #[] = #[] := by
  unfold execOp
  constructor <;> simp [hx, hy, eqGuard, binOp, Op.intArith, Result.andThen, Result.evThen]
theorem du_move {v : Value} (hx : a.eval x = v) (w : World) :
    (execOp a.eval ⟨dst, .move x, ty, pos, af, g⟩).run Try.prog w = .ok (.value v) w ∧ (execOp a.eval ⟨dst, .move x, ty, pos, af, g⟩).events Try.prog w #[] = #[] := by
  unfold execOp
  subst hx
  exact ⟨rfl, rfl⟩
theorem du_ix {b len cap i : Nat} (hx : a.eval x = .slice (some ⟨b, 0, none⟩) len cap) (hy : a.eval y = .int .i64 i) (hi : i < len) (w : World) :
    (execOp a.eval ⟨dst, .indexAddr 26 x y, ty, pos, af, g⟩).run Try.prog w = .ok (.value (.pointer (some ⟨b, i * 2, none⟩))) w ∧ (execOp a.eval ⟨dst, .indexAddr 26 x y, ty, pos, af, g⟩).events Try.prog w #[] = #[] := by
  have h1 : (0 : Int) ≤ i ∧ (i : Int) < len := ⟨by omega, by omega⟩
  have hu := Try.underlying26
  unfold execOp
  constructor
  · simp [hx, hy, Instr.indexAt, asIntOf, run_underlying, hu, h1, hi, Try.sizeOf61, Result.andThen, Addr.add]
    intro h
    exact h.symm
  · simp [hx, hy, Instr.indexAt, asIntOf, run_underlying, hu, h1, hi, Try.sizeOf61, Result.andThen, Result.evThen, Addr.add]
theorem du_f0 {b o : Nat} (hx : a.eval x = .pointer (some ⟨b, o, none⟩)) (w : World) :
    (execOp a.eval ⟨dst, .fieldAddr 61 x 0, ty, pos, af, g⟩).run Try.prog w = .ok (.value (.pointer (some ⟨b, o, none⟩))) w ∧ (execOp a.eval ⟨dst, .fieldAddr 61 x 0, ty, pos, af, g⟩).events Try.prog w #[] = #[] := by
  have hu := Try.underlying61
  unfold execOp
  constructor <;> simp [hx, Instr.fieldAt, Instr.sureAddr, run_underlying, hu, fieldPlace, Try.sizeOf3, Result.andThen, Result.evThen, Addr.add]
theorem du_f1 {b o : Nat} (hx : a.eval x = .pointer (some ⟨b, o, none⟩)) (w : World) :
    (execOp a.eval ⟨dst, .fieldAddr 61 x 1, ty, pos, af, g⟩).run Try.prog w = .ok (.value (.pointer (some ⟨b, o + 1, none⟩))) w ∧ (execOp a.eval ⟨dst, .fieldAddr 61 x 1, ty, pos, af, g⟩).events Try.prog w #[] = #[] := by
  have hu := Try.underlying61
  unfold execOp
  constructor <;> simp [hx, Instr.fieldAt, Instr.sureAddr, run_underlying, hu, fieldPlace, Try.sizeOf3, Result.andThen, Result.evThen, Addr.add]
theorem du_ld3 {b o : Nat} {v : Value} (hx : a.eval x = .pointer (some ⟨b, o, none⟩)) {w : World} (hc : w.cell? ⟨b, o, none⟩ = some v) :
    (execOp a.eval ⟨dst, .load 3 x, ty, pos, af, g⟩).run Try.prog w = .ok (.value v) w ∧ ∀ e ∈ (execOp a.eval ⟨dst, .load 3 x, ty, pos, af, g⟩).events Try.prog w #[], e.loc = .cell ⟨b, o, none⟩ := by
  unfold execOp
  constructor
  · simp [hx, Instr.loadAt, Instr.sureAddr, loadVar, Try.isAgg3, hc, Result.andThen]
  · simp [hx, Instr.loadAt, Instr.sureAddr, loadVar, Try.isAgg3, hc, Result.andThen, Result.evThen]
theorem du_ld61 {b o : Nat} {v u : Value} (hx : a.eval x = .pointer (some ⟨b, o, none⟩)) {w : World} (hc : w.cell? ⟨b, o, none⟩ = some v) (hd : w.cell? ⟨b, o + 1, none⟩ = some u) :
    (execOp a.eval ⟨dst, .load 61 x, ty, pos, af, g⟩).run Try.prog w = .ok (.value (.agg #[v, u])) w ∧ ∀ e ∈ (execOp a.eval ⟨dst, .load 61 x, ty, pos, af, g⟩).events Try.prog w #[], ∃ p, e.loc = .cell p ∧ p.block = b := by
  unfold execOp
  constructor
  · simp [hx, Instr.loadAt, Instr.sureAddr, loadVar, Try.isAgg61, Try.sizeOf61, loadCells, loadCellsFrom, Addr.add, hc, hd, Result.andThen]
  · simp [hx, Instr.loadAt, Instr.sureAddr, loadVar, Try.isAgg61, Try.sizeOf61, loadCells, loadCellsFrom, Addr.add, hc, hd, Result.andThen, Result.evThen]
theorem du_new (w : World) :
    (execOp a.eval ⟨dst, .alloc 61, ty, pos, af, g⟩).run Try.prog w = .ok (.value (.pointer (some ⟨w.heap.size, 0, none⟩))) { w with heap := w.heap.push (.cells #[.int .i64 0, .int .i64 0] 61) } ∧ (execOp a.eval ⟨dst, .alloc 61, ty, pos, af, g⟩).events Try.prog w #[] = #[] := by
  unfold execOp
  constructor
  · simp [Instr.alloc, Try.zeroValue61, newVar, newRow, Value.cells, Result.andThen]
  · simp [Instr.alloc, Try.zeroValue61, newVar, newRow, Value.cells, Result.andThen, Result.evThen]
/-- The box, written: it lies at the heap's end. -/
theorem du_st61 {b : Nat} {v u v' u' : Value} (hx : a.eval x = .pointer (some ⟨b, 0, none⟩)) (hy : a.eval y = .agg #[v, u]) (h1 : v.oneCell' = true) (h2 : u.oneCell' = true) {w : World} (hh : w.heap[b]? = some (.cells #[v', u'] 61 (0, 0))) :
    (execOp a.eval ⟨dst, .store 61 x y, ty, pos, af, g⟩).run Try.prog w = .ok .skip { w with heap := w.heap.setIfInBounds b (.cells #[v, u] 61 (0, 0)) } ∧
      ∀ e ∈ (execOp a.eval ⟨dst, .store 61 x y, ty, pos, af, g⟩).events Try.prog w #[], ∃ p, e.loc = .cell p ∧ p.block = b := by
  obtain ⟨hb, hg⟩ := Array.getElem?_eq_some_iff.1 hh
  have c0 : w.cell? ⟨b, 0, none⟩ = some v' := by simp [World.cell?, hh]
  have f0 : w.frozen? ⟨b, 0, none⟩ = false := by simp [World.frozen?, hh]
  have e1 : w.setCell ⟨b, 0, none⟩ v = { w with heap := w.heap.setIfInBounds b (.cells #[v, u'] 61 (0, 0)) } := by
    unfold World.setCell
    congr 1
    apply Array.ext_getElem?
    intro i
    rw [Array.getElem?_modify, Array.getElem?_setIfInBounds]
    by_cases hi : b = i
    · subst hi
      simp [hh, hb, hg]
    · simp [hi]
  have hh1 : (w.heap.setIfInBounds b (.cells #[v, u'] 61 (0, 0)))[b]? = some (.cells #[v, u'] 61 (0, 0)) := by simp [hb]
  have c1 : ({ w with heap := w.heap.setIfInBounds b (.cells #[v, u'] 61 (0, 0)) } : World).cell? ⟨b, 1, none⟩ = some u' := by simp [World.cell?, hb]
  have f1 : ({ w with heap := w.heap.setIfInBounds b (.cells #[v, u'] 61 (0, 0)) } : World).frozen? ⟨b, 1, none⟩ = false := by simp [World.frozen?, hb]
  have e2 : ({ w with heap := w.heap.setIfInBounds b (.cells #[v, u'] 61 (0, 0)) } : World).setCell ⟨b, 1, none⟩ u = { w with heap := w.heap.setIfInBounds b (.cells #[v, u] 61 (0, 0)) } := by
    unfold World.setCell
    congr 1
    apply Array.ext_getElem?
    intro i
    rw [Array.getElem?_modify, Array.getElem?_setIfInBounds, Array.getElem?_setIfInBounds]
    by_cases hi : b = i
    · subst hi
      simp [hb]
    · simp [hi]
  unfold execOp
  constructor
  · simp [hx, hy, Instr.storeAt, Instr.sureAddr, storeVar, Value.cells, Try.sizeOf61, storeCells, Addr.add, run_store _ _ _ _ _ h1, run_store _ _ _ _ _ h2, c0, f0, e1, c1, f1, e2, Result.andThen]
  · simp [hx, hy, Instr.storeAt, Instr.sureAddr, storeVar, Value.cells, Try.sizeOf61, storeCells, Addr.add, run_store _ _ _ _ _ h1, run_store _ _ _ _ _ h2, events_store _ _ _ _ _ _ h1, events_store _ _ _ _ _ _ h2, c0, f0, e1, c1, f1, e2, Result.andThen, Result.evThen]
end
end Go.Proofs.Ytnphcnhejgpjgaa.Abs
end
section
namespace Go.Proofs.Ytnphcnhejgpjgaa.Abs
open Go.Proofs.Ytnphcnhejgpjgaa.Co Go.Conc
open Go.Proofs
section
variable {σ : Type} {wd : σ → World} {R : σ → σ → Prop} {D : σ → Array Event → σ → Prop} (O : Go.Proofs.Ytnphcnhejgpjgaa.Co.Own wd R D)

/-- The sorted row lies in block g, which is its own: ids and times. -/
structure Good (g n : Nat) (id at_ : Nat → Int) (s : σ) : Prop where
  ok : O.ok s
  mine : O.mine s g
  lt : g < (wd s).heap.size
  cells : ∀ j, j < n → (wd s).cell? ⟨g, j * 2, none⟩ = some (.int .i64 (id j)) ∧ (wd s).cell? ⟨g, j * 2 + 1, none⟩ = some (.int .i64 (at_ j))

theorem Good.rely {g n : Nat} {id at_ : Nat → Int} {s s' : σ} (h : Good O g n id at_ s) (hr : R s s') : Good O g n id at_ s' := by
  have hb := O.stab s s' g hr h.mine h.lt
  exact ⟨O.okR _ _ hr h.ok, O.keep _ _ _ hr h.mine, Nat.lt_of_lt_of_le h.lt (O.size _ _ hr), fun j hj => ⟨(World.cell?_of_block (a := ⟨g, j * 2, none⟩) hb).trans (h.cells j hj).1, (World.cell?_of_block (a := ⟨g, j * 2 + 1, none⟩) hb).trans (h.cells j hj).2⟩⟩
theorem Good.upd {g n : Nat} {id at_ : Nat → Int} {s : σ} (h : Good O g n id at_ s) {w : World} (hs : (wd s).heap.size ≤ w.heap.size) (hb : w.heap[g]? = (wd s).heap[g]?) : Good O g n id at_ (O.upd s w) := by
  have e := O.wd_upd s w
  refine ⟨O.okU _ _ hs h.ok, O.old _ _ _ hs h.mine, by rw [e]; exact Nat.lt_of_lt_of_le h.lt hs, fun j hj => ?_⟩
  rw [e]
  exact ⟨(World.cell?_of_block (a := ⟨g, j * 2, none⟩) hb).trans (h.cells j hj).1, (World.cell?_of_block (a := ⟨g, j * 2 + 1, none⟩) hb).trans (h.cells j hj).2⟩
theorem Good.same {g n : Nat} {id at_ : Nat → Int} {s s' : σ} (h : Good O g n id at_ s) (hr : R s s') : Good O g n id at_ (O.upd s' (wd s')) := (h.rely O hr).upd O (Nat.le_refl _) rfl

/-- due's temporaries at a round's begin. -/
structure LT (T : Array Value) (now : Int) (vc v : Value) (n i : Nat) : Prop where
  size : T.size = 28
  t1 : T.getD 1 undef = .int .i64 now
  t2 : T.getD 2 undef = vc
  t14 : T.getD 14 undef = v
  t15 : T.getD 15 undef = .int .i64 n
  t16 : T.getD 16 undef = .int .i64 i
theorem getD_pt {T : Array Value} {d x : Nat} {v : Value} (hd : d < T.size) : (T.setIfInBounds d v).getD x undef = if d = x then v else T.getD x undef := by
  simp only [Array.getD_eq_getD_getElem?, Array.getElem?_setIfInBounds]
  split
  · rename_i h; subst h; simp [hd]
  · rfl
theorem LT.put {T : Array Value} {now : Int} {vc v : Value} {n i : Nat} (h : LT T now vc v n i) (d : Nat) (u : Value) (hd : d < 28) (h1 : d ≠ 1) (h2 : d ≠ 2) (h14 : d ≠ 14) (h15 : d ≠ 15) (h16 : d ≠ 16) : LT (T.setIfInBounds d u) now vc v n i := by
  have hs : d < T.size := by rw [h.size]; exact hd
  exact ⟨by rw [Array.size_setIfInBounds, h.size], by rw [getD_pt hs, if_neg h1, h.t1], by rw [getD_pt hs, if_neg h2, h.t2], by rw [getD_pt hs, if_neg h14, h.t14], by rw [getD_pt hs, if_neg h15, h.t15], by rw [getD_pt hs, if_neg h16, h.t16]⟩
theorem LT.next {T : Array Value} {now : Int} {vc v : Value} {n i : Nat} (h : LT T now vc v n i) {j : Nat} : LT (T.setIfInBounds 16 (.int .i64 (j : Int))) now vc v n j := by
  have hs : 16 < T.size := by rw [h.size]; decide
  exact ⟨by rw [Array.size_setIfInBounds, h.size], by rw [getD_pt hs, if_neg (by decide), h.t1], by rw [getD_pt hs, if_neg (by decide), h.t2], by rw [getD_pt hs, if_neg (by decide), h.t14], by rw [getD_pt hs, if_neg (by decide), h.t15], by rw [getD_pt hs, if_pos rfl]⟩
end
end Go.Proofs.Ytnphcnhejgpjgaa.Abs
end
section
namespace Go.Proofs.Ytnphcnhejgpjgaa.Abs
open Go.Proofs.Ytnphcnhejgpjgaa.Co Go.Conc
open Go.Proofs
def o4a : Oper := Go.Oper.mk (some 17) (Go.Op.binOp Go.BinOp.lss 3 (Go.Operand.tmp 16) (Go.Operand.tmp 15) 3) 0 "timers.go:80" #[] none
def r4 : Array Oper := #[o4a]
def o5a : Oper := Go.Oper.mk (some 18) (Go.Op.indexAddr 26 (Go.Operand.tmp 14) (Go.Operand.tmp 16)) 0 "timers.go:80" #[] none
def o5b : Oper := Go.Oper.mk (some 19) (Go.Op.load 61 (Go.Operand.tmp 18)) 61 "timers.go:80" #[Go.Edge.mk 0 Go.Ground.data] none
def o5c : Oper := Go.Oper.mk (some 8) (Go.Op.alloc 61) 0 "timers.go:80" #[] none
def o5d : Oper := Go.Oper.mk none (Go.Op.store 61 (Go.Operand.tmp 8) (Go.Operand.tmp 19)) 0 "timers.go:80"
    #[Go.Edge.mk 2 Go.Ground.data, Go.Edge.mk 1 Go.Ground.data, Go.Edge.mk 0 Go.Ground.phase, Go.Edge.mk 1 Go.Ground.phase, Go.Edge.mk 2 Go.Ground.phase] none
def r5 : Array Oper := #[o5a, o5b, o5c, o5d]
def o6a : Oper := Go.Oper.mk (some 20) (Go.Op.fieldAddr 61 (Go.Operand.tmp 8) 1) 0 "timers.go:81" #[] none
def o6b : Oper := Go.Oper.mk (some 21) (Go.Op.load 3 (Go.Operand.tmp 20)) 3 "timers.go:81" #[Go.Edge.mk 0 Go.Ground.data] none
def o6c : Oper := Go.Oper.mk (some 22) (Go.Op.move (Go.Operand.tmp 1)) 3 "timers.go:81" #[] none
def o6d : Oper := Go.Oper.mk (some 23) (Go.Op.binOp Go.BinOp.leq 3 (Go.Operand.tmp 21) (Go.Operand.tmp 22) 3) 4 "timers.go:81" #[Go.Edge.mk 1 Go.Ground.data, Go.Edge.mk 2 Go.Ground.data] none
def r6 : Array Oper := #[o6a, o6b, o6c, o6d]
def o7a : Oper := Go.Oper.mk (some 24) (Go.Op.move (Go.Operand.tmp 2)) 74 "timers.go:82" #[] none
def o7b : Oper := Go.Oper.mk (some 25) (Go.Op.fieldAddr 61 (Go.Operand.tmp 8) 0) 0 "timers.go:82" #[] none
def o7c : Oper := Go.Oper.mk (some 26) (Go.Op.load 3 (Go.Operand.tmp 25)) 3 "timers.go:82" #[Go.Edge.mk 1 Go.Ground.data] none
def o7d : Oper := Go.Oper.mk none (Go.Op.send (Go.Operand.tmp 24) (Go.Operand.tmp 26)) 0 "timers.go:82" #[Go.Edge.mk 0 Go.Ground.data, Go.Edge.mk 2 Go.Ground.data] none
def r7 : Array Oper := #[o7a, o7b, o7c, o7d]
def o8a : Oper := Go.Oper.mk (some 27) (Go.Op.binOp Go.BinOp.add 3 (Go.Operand.tmp 16) (Go.Operand.const (Go.Value.int Go.IntKind.i64 1)) 3) 3 "timers.go:80" #[] none
def o8b : Oper := Go.Oper.mk (some 16) (Go.Op.move (Go.Operand.tmp 27)) 3 "timers.go:80" #[Go.Edge.mk 0 Go.Ground.data] none
def r8 : Array Oper := #[o8a, o8b]
def dueLoop : Code := .seq (.region 4 r4 false) (.seq (.cond (.tmp 17) .skip (.exit 0)) (.seq (.block 1 (.seq (.region 5 r5 false) (.seq (.region 6 r6 false) (.cond (.tmp 23) (.region 7 r7 false) .skip)))) (.region 8 r8 false)))

section
variable {σ : Type} {wd : σ → World} {R : σ → σ → Prop} {D : σ → Array Event → σ → Prop} (O : Go.Proofs.Ytnphcnhejgpjgaa.Co.Own wd R D) {Stop : Goroutine → σ → Prop} {main : Bool}

theorem wantedN {o : Oper} (h : o.guard = none) (y : Nat → Option Bool) : Region.wanted o y = true := by simp [Region.wanted, h]

set_option maxHeartbeats 1000000 in
/-- The first half: the element is in the box. -/
theorem round_a {g n cap i : Nat} {id at_ : Nat → Int} {now : Int} {vc : Value} {T : Array Value} {s : σ} {b : Frame} {ds : List Deferred} {K : List Item} {cs : List Frame} (hb : b.kind ≠ .early)
    (hg : Good O g n id at_ s) (hT : LT T now vc (.slice (some ⟨g, 0, none⟩) n cap) n i) (hi : i < n)
    (h : ∀ s' T' (q : Nat), Good O g n id at_ s' → LT T' now vc (.slice (some ⟨g, 0, none⟩) n cap) n i → T'.getD 18 undef = .pointer (some ⟨g, i * 2, none⟩) →
      Tree Try.prog main wd R D noBig Stop (G (b.at ⟨T', ds⟩ (.inRegion r5 [1, 2, 3] :: .code (.seq (.region 6 r6 false) (.cond (.tmp 23) (.region 7 r7 false) .skip)) :: .inBlock 1 :: .code (.region 8 r8 false) :: K)) cs) s') :
    Tree Try.prog main wd R D noBig Stop (G (b.at ⟨T, ds⟩ (.code dueLoop :: K)) cs) s := by
  unfold dueLoop
  (refine own_ctl O rfl hg.ok (fun _ => stepG_seq) fun s1 k1 r1 => ?_; replace hg := hg.same O r1; clear k1 r1)
  (refine own_ctl O rfl hg.ok (fun _ => stepG_region) fun s1 k1 r1 => ?_; replace hg := hg.same O r1; clear k1 r1)
  refine own_val O (v := .bool true) hg.ok (o := o4a) rfl (wantedN rfl _) hb (fun w => ?_) fun s1 k1 r1 => ?_
  · have := du_lss (a := ⟨T, ds⟩) (dst := some 17) (ty := 0) (pos := "timers.go:80") (af := #[]) (g := none) (t := 3) (u := 3) (x := .tmp 16) (y := .tmp 15) (m := i) (n := n) hT.t16 hT.t15 w
    have e : decide ((i : Int) < n) = true := by simpa using hi
    rw [e] at this
    exact this
  replace hg := hg.same O r1
  clear k1 r1
  have hT1 := hT.put 17 (.bool true) (by decide) (by decide) (by decide) (by decide) (by decide) (by decide)
  (refine own_ctl O rfl hg.ok (fun _ => stepG_region_end) fun s1 k1 r1 => ?_; replace hg := hg.same O r1; clear k1 r1)
  (refine own_ctl O rfl hg.ok (fun _ => stepG_seq) fun s1 k1 r1 => ?_; replace hg := hg.same O r1; clear k1 r1)
  (refine own_ctl O rfl hg.ok (fun _ => (stepG_cond (t := true) (by show (T.setIfInBounds 17 (.bool true)).getD 17 undef = _; rw [getD_pt (by rw [hT.size]; decide), if_pos rfl]))) fun s1 k1 r1 => ?_; replace hg := hg.same O r1; clear k1 r1)
  (refine own_ctl O rfl hg.ok (fun _ => stepG_skip) fun s1 k1 r1 => ?_; replace hg := hg.same O r1; clear k1 r1)
  (refine own_ctl O rfl hg.ok (fun _ => stepG_seq) fun s1 k1 r1 => ?_; replace hg := hg.same O r1; clear k1 r1)
  (refine own_ctl O rfl hg.ok (fun _ => stepG_block) fun s1 k1 r1 => ?_; replace hg := hg.same O r1; clear k1 r1)
  (refine own_ctl O rfl hg.ok (fun _ => stepG_seq) fun s1 k1 r1 => ?_; replace hg := hg.same O r1; clear k1 r1)
  (refine own_ctl O rfl hg.ok (fun _ => stepG_region) fun s1 k1 r1 => ?_; replace hg := hg.same O r1; clear k1 r1)
  refine own_val O (v := .pointer (some ⟨g, i * 2, none⟩)) hg.ok (o := o5a) rfl (wantedN rfl _) hb (fun w => ?_) fun s1 k1 r1 => ?_
  · exact du_ix (a := ⟨T.setIfInBounds 17 (.bool true), ds⟩) (x := .tmp 14) (y := .tmp 16) (len := n) (cap := cap) (i := i) hT1.t14 hT1.t16 hi w
  refine h _ _ 0 (hg.same O r1) (hT1.put 18 _ (by decide) (by decide) (by decide) (by decide) (by decide) (by decide)) ?_
  show ((T.setIfInBounds 17 (.bool true)).setIfInBounds 18 (.pointer (some ⟨g, i * 2, none⟩))).getD 18 undef = _
  rw [getD_pt (by rw [hT1.size]; decide), if_pos rfl]
end
end Go.Proofs.Ytnphcnhejgpjgaa.Abs
end
section
namespace Go.Proofs.Ytnphcnhejgpjgaa.Abs
open Go.Proofs.Ytnphcnhejgpjgaa.Co Go.Conc
open Go.Proofs
section
variable {σ : Type} {wd : σ → World} {R : σ → σ → Prop} {D : σ → Array Event → σ → Prop} (O : Go.Proofs.Ytnphcnhejgpjgaa.Co.Own wd R D) {Stop : Goroutine → σ → Prop} {main : Bool}
/-- The box, which is its own, holds x and y. -/
structure Box (q : Nat) (x y : Value) (s : σ) : Prop where
  mine : O.mine s q
  lt : q < (wd s).heap.size
  at_ : (wd s).heap[q]? = some (.cells #[x, y] 61 (0, 0))
theorem Box.rely {q : Nat} {x y : Value} {s s' : σ} (h : Box O q x y s) (hr : R s s') : Box O q x y s' :=
  ⟨O.keep _ _ _ hr h.mine, Nat.lt_of_lt_of_le h.lt (O.size _ _ hr), (O.stab s s' q hr h.mine h.lt).trans h.at_⟩
theorem Box.same {q : Nat} {x y : Value} {s s' : σ} (h : Box O q x y s) (hr : R s s') : Box O q x y (O.upd s' (wd s')) := by
  have h' := h.rely O hr
  have e := O.wd_upd s' (wd s')
  exact ⟨O.old _ _ _ (Nat.le_refl _) h'.mine, by rw [e]; exact h'.lt, by rw [e]; exact h'.at_⟩

set_option maxHeartbeats 1000000 in
theorem round_b {g n cap i : Nat} {id at_ : Nat → Int} {now : Int} {vc : Value} {T : Array Value} {s : σ} {b : Frame} {ds : List Deferred} {K : List Item} {cs : List Frame} (hb : b.kind ≠ .early)
    (hg : Good O g n id at_ s) (hT : LT T now vc (.slice (some ⟨g, 0, none⟩) n cap) n i) (hi : i < n) (h18 : T.getD 18 undef = .pointer (some ⟨g, i * 2, none⟩))
    (h : ∀ s' T' (q : Nat), Good O g n id at_ s' → LT T' now vc (.slice (some ⟨g, 0, none⟩) n cap) n i → T'.getD 8 undef = .pointer (some ⟨q, 0, none⟩) → Box O q (.int .i64 (id i)) (.int .i64 (at_ i)) s' →
      Tree Try.prog main wd R D noBig Stop (G (b.at ⟨T', ds⟩ (.inRegion r5 [] :: K)) cs) s') :
    Tree Try.prog main wd R D noBig Stop (G (b.at ⟨T, ds⟩ (.inRegion r5 [1, 2, 3] :: K)) cs) s := by
  -- the element is read
  refine own_read O (v := .agg #[.int .i64 (id i), .int .i64 (at_ i)]) hg.ok (o := o5b) rfl (wantedN rfl _) hb (fun s' k' r' => ?_) fun s1 k1 r1 => ?_
  · have hg' := hg.rely O r'
    have := du_ld61 (a := ⟨T, ds⟩) (x := .tmp 18) (dst := some 19) (ty := 61) (pos := "timers.go:80") (af := #[Go.Edge.mk 0 Go.Ground.data]) (g := none) h18 (hg'.cells i hi).1 (hg'.cells i hi).2
    refine ⟨this.1, fun e he => ?_⟩
    obtain ⟨p, hp, hpb⟩ := this.2 e he
    exact .inl ⟨p, hp, by rw [hpb]; exact hg'.mine⟩
  replace hg := hg.same O r1
  clear k1 r1
  have hT1 := hT.put 19 (.agg #[.int .i64 (id i), .int .i64 (at_ i)]) (by decide) (by decide) (by decide) (by decide) (by decide) (by decide)
  have h19 : (T.setIfInBounds 19 (.agg #[.int .i64 (id i), .int .i64 (at_ i)])).getD 19 undef = .agg #[.int .i64 (id i), .int .i64 (at_ i)] := by rw [getD_pt (by rw [hT.size]; decide), if_pos rfl]
  -- the box is made
  refine own_op O hg.ok (o := o5c) rfl (wantedN rfl _) hb fun s' k' r' => ?_
  have hg' := hg.rely O r'
  have hn := du_new (a := ⟨T.setIfInBounds 19 (.agg #[.int .i64 (id i), .int .i64 (at_ i)]), ds⟩) (dst := some 8) (ty := 0) (pos := "timers.go:80") (af := #[]) (g := none) (wd s')
  refine ⟨_, _, .inl hn.1, .refl _, by simp, keeps_push _ _, fun b hb _ => ?_, fun e he => by
    change e ∈ (execOp (⟨T.setIfInBounds 19 (.agg #[.int .i64 (id i), .int .i64 (at_ i)]), ds⟩ : Act).eval o5c).events Try.prog (wd s') #[] at he
    rw [show (execOp (⟨T.setIfInBounds 19 (.agg #[.int .i64 (id i), .int .i64 (at_ i)]), ds⟩ : Act).eval o5c).events Try.prog (wd s') #[] = #[] from hn.2] at he
    simp at he, ?_⟩
  · show ((wd s').heap.push _)[b]? = _
    rw [Array.getElem?_push, if_neg (by omega)]
  have hgn : ((wd s').heap.push (Obj.cells #[.int .i64 0, .int .i64 0] 61))[g]? = (wd s').heap[g]? := by rw [Array.getElem?_push, if_neg (by have := hg'.lt; omega)]
  have hg2 := hg'.upd O (w := { wd s' with heap := (wd s').heap.push (Obj.cells #[.int .i64 0, .int .i64 0] 61) }) (by simp) hgn
  have hw := O.wd_upd s' { wd s' with heap := (wd s').heap.push (Obj.cells #[.int .i64 0, .int .i64 0] 61) }
  have hx2 : Box O (wd s').heap.size (.int .i64 0) (.int .i64 0) (O.upd s' { wd s' with heap := (wd s').heap.push (Obj.cells #[.int .i64 0, .int .i64 0] 61) }) :=
    ⟨O.fresh _ _ _ hg'.ok (Nat.le_refl _) (by simp), by rw [hw]; simp, by rw [hw]; simp⟩
  have hqg : (wd s').heap.size ≠ g := fun e => Nat.lt_irrefl _ (e ▸ hg'.lt)
  have hT2 := hT1.put 8 (.pointer (some ⟨(wd s').heap.size, 0, none⟩)) (by decide) (by decide) (by decide) (by decide) (by decide) (by decide)
  have h8 : ((T.setIfInBounds 19 (.agg #[.int .i64 (id i), .int .i64 (at_ i)])).setIfInBounds 8 (.pointer (some ⟨(wd s').heap.size, 0, none⟩))).getD 8 undef = .pointer (some ⟨(wd s').heap.size, 0, none⟩) := by rw [getD_pt (by rw [hT1.size]; decide), if_pos rfl]
  have h19' : ((T.setIfInBounds 19 (.agg #[.int .i64 (id i), .int .i64 (at_ i)])).setIfInBounds 8 (.pointer (some ⟨(wd s').heap.size, 0, none⟩))).getD 19 undef = .agg #[.int .i64 (id i), .int .i64 (at_ i)] := by rw [getD_pt (by rw [hT1.size]; decide), if_neg (by decide), h19]
  generalize hq : (wd s').heap.size = q at hx2 hqg hT2 h8 h19' ⊢
  generalize O.upd s' { wd s' with heap := (wd s').heap.push (Obj.cells #[.int .i64 0, .int .i64 0] 61) } = s2 at hg2 hx2 ⊢
  -- the element is laid in it
  refine own_op O hg2.ok (o := o5d) rfl (wantedN rfl _) hb fun s3 k3 r3 => ?_
  have hg3 := hg2.rely O r3
  have hx3 := hx2.rely O r3
  have hs := du_st61 (a := ⟨(T.setIfInBounds 19 (.agg #[.int .i64 (id i), .int .i64 (at_ i)])).setIfInBounds 8 (.pointer (some ⟨q, 0, none⟩)), ds⟩) (x := .tmp 8) (y := .tmp 19) (dst := none) (ty := 0) (pos := "timers.go:80")
    (af := #[Go.Edge.mk 2 Go.Ground.data, Go.Edge.mk 1 Go.Ground.data, Go.Edge.mk 0 Go.Ground.phase, Go.Edge.mk 1 Go.Ground.phase, Go.Edge.mk 2 Go.Ground.phase]) (g := none) h8 h19' rfl rfl hx3.at_
  refine ⟨undef, _, .inr ⟨hs.1, rfl⟩, .refl _, by simp, ?_, fun b _ hm => ?_, fun e he => ?_, ?_⟩
  · intro c o ho hch
    show ((wd s3).heap.setIfInBounds q _)[c]? = some o
    rw [Array.getElem?_setIfInBounds]
    split
    · rename_i e
      subst e
      rw [hx3.at_] at ho
      cases ho
      cases hch
    · exact ho
  · show ((wd s3).heap.setIfInBounds q _)[b]? = _
    rw [Array.getElem?_setIfInBounds, if_neg]
    intro e
    exact hm (e ▸ hx3.mine)
  · obtain ⟨p, hp, hpb⟩ := hs.2 e he
    exact .inl ⟨p, hp, by rw [hpb]; exact O.old _ _ _ (by simp) hx3.mine⟩
  · have hw3 := O.wd_upd s3 { wd s3 with heap := (wd s3).heap.setIfInBounds q (.cells #[.int .i64 (id i), .int .i64 (at_ i)] 61 (0, 0)) }
    refine h _ _ q (hg3.upd O (by simp) ?_) hT2 h8 ⟨O.old _ _ _ (by simp) hx3.mine, by rw [hw3]; simpa using hx3.lt, by rw [hw3]; simp [hx3.lt]⟩
    show ((wd s3).heap.setIfInBounds q _)[g]? = _
    rw [Array.getElem?_setIfInBounds, if_neg hqg]
end
end Go.Proofs.Ytnphcnhejgpjgaa.Abs
end
section
namespace Go.Proofs.Ytnphcnhejgpjgaa.Abs
open Go.Proofs.Ytnphcnhejgpjgaa.Co Go.Conc
open Go.Proofs
section
variable {σ : Type} {wd : σ → World} {R : σ → σ → Prop} {D : σ → Array Event → σ → Prop} (O : Go.Proofs.Ytnphcnhejgpjgaa.Co.Own wd R D) {Stop : Goroutine → σ → Prop} {main : Bool}
theorem Box.cell {q : Nat} {x y : Value} {s : σ} (h : Box O q x y s) : (wd s).cell? ⟨q, 0, none⟩ = some x ∧ (wd s).cell? ⟨q, 1, none⟩ = some y := by
  have := h.at_
  constructor <;> simp [World.cell?, this]

set_option maxHeartbeats 1000000 in
/-- The comparison. -/
theorem round_c {g n cap i q : Nat} {id at_ : Nat → Int} {now : Int} {vc : Value} {T : Array Value} {s : σ} {b : Frame} {ds : List Deferred} {x y : Code} {K : List Item} {cs : List Frame} (hb : b.kind ≠ .early)
    (hg : Good O g n id at_ s) (hT : LT T now vc (.slice (some ⟨g, 0, none⟩) n cap) n i) (h8 : T.getD 8 undef = .pointer (some ⟨q, 0, none⟩)) (hx : Box O q (.int .i64 (id i)) (.int .i64 (at_ i)) s)
    (h : ∀ s' T', Good O g n id at_ s' → LT T' now vc (.slice (some ⟨g, 0, none⟩) n cap) n i → T'.getD 8 undef = .pointer (some ⟨q, 0, none⟩) → Box O q (.int .i64 (id i)) (.int .i64 (at_ i)) s' →
      Tree Try.prog main wd R D noBig Stop (G (b.at ⟨T', ds⟩ (.code (if decide (at_ i ≤ now) then x else y) :: K)) cs) s') :
    Tree Try.prog main wd R D noBig Stop (G (b.at ⟨T, ds⟩ (.inRegion r5 [] :: .code (.seq (.region 6 r6 false) (.cond (.tmp 23) x y)) :: K)) cs) s := by
  (refine own_ctl O rfl hg.ok (fun _ => stepG_region_end) fun s1 k1 r1 => ?_; replace hg := hg.same O r1; replace hx := hx.same O r1; clear k1 r1)
  (refine own_ctl O rfl hg.ok (fun _ => stepG_seq) fun s1 k1 r1 => ?_; replace hg := hg.same O r1; replace hx := hx.same O r1; clear k1 r1)
  (refine own_ctl O rfl hg.ok (fun _ => stepG_region) fun s1 k1 r1 => ?_; replace hg := hg.same O r1; replace hx := hx.same O r1; clear k1 r1)
  refine own_val O (v := .pointer (some ⟨q, 1, none⟩)) hg.ok (o := o6a) rfl (wantedN rfl _) hb (fun w => du_f1 (a := ⟨T, ds⟩) (x := .tmp 8) (o := 0) h8 w) fun s1 k1 r1 => ?_
  (replace hg := hg.same O r1; replace hx := hx.same O r1; clear k1 r1)
  have hT1 := hT.put 20 (.pointer (some ⟨q, 1, none⟩)) (by decide) (by decide) (by decide) (by decide) (by decide) (by decide)
  have p20 : (T.setIfInBounds 20 (.pointer (some ⟨q, 1, none⟩))).getD 20 undef = .pointer (some ⟨q, 1, none⟩) := by rw [getD_pt (by rw [hT.size]; decide), if_pos rfl]
  have p8 : (T.setIfInBounds 20 (.pointer (some ⟨q, 1, none⟩))).getD 8 undef = .pointer (some ⟨q, 0, none⟩) := by rw [getD_pt (by rw [hT.size]; decide), if_neg (by decide), h8]
  generalize hTT : T.setIfInBounds 20 (.pointer (some ⟨q, 1, none⟩)) = T1 at hT1 p20 p8
  have eT : (⟨T, ds⟩ : Act).put o6a.dst (.pointer (some ⟨q, 1, none⟩)) = ⟨T1, ds⟩ := by rw [← hTT]; rfl
  rw [eT]
  refine own_read O (v := .int .i64 (at_ i)) hg.ok (o := o6b) rfl (wantedN rfl _) hb (fun s' k' r' => ?_) fun s1 k1 r1 => ?_
  · have hx' := hx.rely O r'
    have := du_ld3 (a := ⟨T1, ds⟩) (x := .tmp 20) (dst := some 21) (ty := 3) (pos := "timers.go:81") (af := #[Go.Edge.mk 0 Go.Ground.data]) (g := none) p20 (hx'.cell O).2
    exact ⟨this.1, fun e he => .inl ⟨_, this.2 e he, hx'.mine⟩⟩
  (replace hg := hg.same O r1; replace hx := hx.same O r1; clear k1 r1)
  have hT2 := hT1.put 21 (.int .i64 (at_ i)) (by decide) (by decide) (by decide) (by decide) (by decide) (by decide)
  have p21 : (T1.setIfInBounds 21 (.int .i64 (at_ i))).getD 21 undef = .int .i64 (at_ i) := by rw [getD_pt (by rw [hT1.size]; decide), if_pos rfl]
  have p8' : (T1.setIfInBounds 21 (.int .i64 (at_ i))).getD 8 undef = .pointer (some ⟨q, 0, none⟩) := by rw [getD_pt (by rw [hT1.size]; decide), if_neg (by decide), p8]
  generalize hTT2 : T1.setIfInBounds 21 (.int .i64 (at_ i)) = T2 at hT2 p21 p8'
  have eT2 : (⟨T1, ds⟩ : Act).put o6b.dst (.int .i64 (at_ i)) = ⟨T2, ds⟩ := by rw [← hTT2]; rfl
  rw [eT2]
  refine own_val O (v := .int .i64 now) hg.ok (o := o6c) rfl (wantedN rfl _) hb (fun w => du_move (a := ⟨T2, ds⟩) (x := .tmp 1) hT2.t1 w) fun s1 k1 r1 => ?_
  (replace hg := hg.same O r1; replace hx := hx.same O r1; clear k1 r1)
  have hT3 := hT2.put 22 (.int .i64 now) (by decide) (by decide) (by decide) (by decide) (by decide) (by decide)
  have p22 : (T2.setIfInBounds 22 (.int .i64 now)).getD 22 undef = .int .i64 now := by rw [getD_pt (by rw [hT2.size]; decide), if_pos rfl]
  have p21' : (T2.setIfInBounds 22 (.int .i64 now)).getD 21 undef = .int .i64 (at_ i) := by rw [getD_pt (by rw [hT2.size]; decide), if_neg (by decide), p21]
  have p8'' : (T2.setIfInBounds 22 (.int .i64 now)).getD 8 undef = .pointer (some ⟨q, 0, none⟩) := by rw [getD_pt (by rw [hT2.size]; decide), if_neg (by decide), p8']
  generalize hTT3 : T2.setIfInBounds 22 (.int .i64 now) = T3 at hT3 p21' p22 p8''
  have eT3 : (⟨T2, ds⟩ : Act).put o6c.dst (.int .i64 now) = ⟨T3, ds⟩ := by rw [← hTT3]; rfl
  rw [eT3]
  refine own_val O (v := .bool (decide (at_ i ≤ now))) hg.ok (o := o6d) rfl (wantedN rfl _) hb (fun w => du_leq (a := ⟨T3, ds⟩) (x := .tmp 21) (y := .tmp 22) p21' p22 w) fun s1 k1 r1 => ?_
  (replace hg := hg.same O r1; replace hx := hx.same O r1; clear k1 r1)
  have hT4 := hT3.put 23 (.bool (decide (at_ i ≤ now))) (by decide) (by decide) (by decide) (by decide) (by decide) (by decide)
  have p23 : (T3.setIfInBounds 23 (.bool (decide (at_ i ≤ now)))).getD 23 undef = .bool (decide (at_ i ≤ now)) := by rw [getD_pt (by rw [hT3.size]; decide), if_pos rfl]
  have p84 : (T3.setIfInBounds 23 (.bool (decide (at_ i ≤ now)))).getD 8 undef = .pointer (some ⟨q, 0, none⟩) := by rw [getD_pt (by rw [hT3.size]; decide), if_neg (by decide), p8'']
  generalize hTT4 : T3.setIfInBounds 23 (.bool (decide (at_ i ≤ now))) = T4 at hT4 p23 p84
  have eT4 : (⟨T3, ds⟩ : Act).put o6d.dst (.bool (decide (at_ i ≤ now))) = ⟨T4, ds⟩ := by rw [← hTT4]; rfl
  rw [eT4]
  (refine own_ctl O rfl hg.ok (fun _ => stepG_region_end) fun s1 k1 r1 => ?_; replace hg := hg.same O r1; replace hx := hx.same O r1; clear k1 r1)
  (refine own_ctl O rfl hg.ok (fun _ => (stepG_cond (a := ⟨T4, ds⟩) (t := decide (at_ i ≤ now)) p23)) fun s1 k1 r1 => ?_; replace hg := hg.same O r1; replace hx := hx.same O r1; clear k1 r1)
  exact h _ _ hg hT4 p84 hx
end
end Go.Proofs.Ytnphcnhejgpjgaa.Abs
end
section
namespace Go.Proofs.Ytnphcnhejgpjgaa.Abs
open Go.Proofs.Ytnphcnhejgpjgaa.Co Go.Conc
open Go.Proofs
section
variable {σ : Type} {wd : σ → World} {R : σ → σ → Prop} {D : σ → Array Event → σ → Prop} (O : Go.Proofs.Ytnphcnhejgpjgaa.Co.Own wd R D) {Stop : Goroutine → σ → Prop} {main : Bool}
theorem wrap_succ {i n : Nat} (hi : i < n) (hn : n ≤ 1000000000000000000) : IntKind.i64.wrap ((i : Int) + 1) = ((i + 1 : Nat) : Int) := by
  simp [IntKind.wrap, IntKind.bits, IntKind.signed]
  omega
set_option maxHeartbeats 1000000 in
/-- Behind the send, or past it: the next index. -/
theorem round_d {g n cap i : Nat} {id at_ : Nat → Int} {now : Int} {vc : Value} {T : Array Value} {s : σ} {b : Frame} {ds : List Deferred} {K : List Item} {cs : List Frame} (hb : b.kind ≠ .early)
    (hg : Good O g n id at_ s) (hT : LT T now vc (.slice (some ⟨g, 0, none⟩) n cap) n i) (hi : i < n) (hn : n ≤ 1000000000000000000)
    (h : ∀ s' T', Good O g n id at_ s' → LT T' now vc (.slice (some ⟨g, 0, none⟩) n cap) n (i + 1) → Tree Try.prog main wd R D noBig Stop (G (b.at ⟨T', ds⟩ K) cs) s') :
    Tree Try.prog main wd R D noBig Stop (G (b.at ⟨T, ds⟩ (.inBlock 1 :: .code (.region 8 r8 false) :: K)) cs) s := by
  (refine own_ctl O rfl hg.ok (fun _ => stepG_inBlock) fun s1 k1 r1 => ?_; replace hg := hg.same O r1; clear k1 r1)
  (refine own_ctl O rfl hg.ok (fun _ => stepG_region) fun s1 k1 r1 => ?_; replace hg := hg.same O r1; clear k1 r1)
  refine own_val O (v := .int .i64 ((i + 1 : Nat) : Int)) hg.ok (o := o8a) rfl (wantedN rfl _) hb (fun w => ?_) fun s1 k1 r1 => ?_
  · have := du_add (a := ⟨T, ds⟩) (x := .tmp 16) (y := .const (.int .i64 1)) (dst := some 27) (ty := 3) (pos := "timers.go:80") (af := #[]) (g := none) (t := 3) (u := 3) (m := i) (n := 1) hT.t16 rfl w
    rw [wrap_succ hi hn] at this
    exact this
  replace hg := hg.same O r1
  clear k1 r1
  have hT1 := hT.put 27 (.int .i64 ((i + 1 : Nat) : Int)) (by decide) (by decide) (by decide) (by decide) (by decide) (by decide)
  have p27 : (T.setIfInBounds 27 (.int .i64 ((i + 1 : Nat) : Int))).getD 27 undef = .int .i64 ((i + 1 : Nat) : Int) := by rw [getD_pt (by rw [hT.size]; decide), if_pos rfl]
  generalize hTT : T.setIfInBounds 27 (.int .i64 ((i + 1 : Nat) : Int)) = T1 at hT1 p27
  have eT : (⟨T, ds⟩ : Act).put o8a.dst (.int .i64 ((i + 1 : Nat) : Int)) = ⟨T1, ds⟩ := by rw [← hTT]; rfl
  rw [eT]
  refine own_val O (v := .int .i64 ((i + 1 : Nat) : Int)) hg.ok (o := o8b) rfl (wantedN rfl _) hb (fun w => du_move (a := ⟨T1, ds⟩) (x := .tmp 27) p27 w) fun s1 k1 r1 => ?_
  replace hg := hg.same O r1
  clear k1 r1
  have hT2 := hT1.next (j := i + 1)
  generalize hTT2 : T1.setIfInBounds 16 (.int .i64 ((i + 1 : Nat) : Int)) = T2 at hT2
  have eT2 : (⟨T1, ds⟩ : Act).put o8b.dst (.int .i64 ((i + 1 : Nat) : Int)) = ⟨T2, ds⟩ := by rw [← hTT2]; rfl
  rw [eT2]
  (refine own_ctl O rfl hg.ok (fun _ => stepG_region_end) fun s1 k1 r1 => ?_; replace hg := hg.same O r1; clear k1 r1)
  exact h _ _ hg hT2
set_option maxHeartbeats 1000000 in
/-- To the send. -/
theorem round_e {g n cap i q : Nat} {id at_ : Nat → Int} {now : Int} {vc : Value} {T : Array Value} {s : σ} {b : Frame} {ds : List Deferred} {K : List Item} {cs : List Frame} (hb : b.kind ≠ .early)
    (hg : Good O g n id at_ s) (hT : LT T now vc (.slice (some ⟨g, 0, none⟩) n cap) n i) (h8 : T.getD 8 undef = .pointer (some ⟨q, 0, none⟩)) (hx : Box O q (.int .i64 (id i)) (.int .i64 (at_ i)) s)
    (h : ∀ s' T', Good O g n id at_ s' → LT T' now vc (.slice (some ⟨g, 0, none⟩) n cap) n i → T'.getD 24 undef = vc → T'.getD 26 undef = .int .i64 (id i) →
      Tree Try.prog main wd R D noBig Stop (G (b.at ⟨T', ds⟩ (.inRegion r7 [3] :: K)) cs) s') :
    Tree Try.prog main wd R D noBig Stop (G (b.at ⟨T, ds⟩ (.code (.region 7 r7 false) :: K)) cs) s := by
  (refine own_ctl O rfl hg.ok (fun _ => stepG_region) fun s1 k1 r1 => ?_; replace hg := hg.same O r1; replace hx := hx.same O r1; clear k1 r1)
  refine own_val O (v := vc) hg.ok (o := o7a) rfl (wantedN rfl _) hb (fun w => du_move (a := ⟨T, ds⟩) (x := .tmp 2) hT.t2 w) fun s1 k1 r1 => ?_
  (replace hg := hg.same O r1; replace hx := hx.same O r1; clear k1 r1)
  have hT1 := hT.put 24 vc (by decide) (by decide) (by decide) (by decide) (by decide) (by decide)
  have p24 : (T.setIfInBounds 24 vc).getD 24 undef = vc := by rw [getD_pt (by rw [hT.size]; decide), if_pos rfl]
  have p8 : (T.setIfInBounds 24 vc).getD 8 undef = .pointer (some ⟨q, 0, none⟩) := by rw [getD_pt (by rw [hT.size]; decide), if_neg (by decide), h8]
  generalize hTT : T.setIfInBounds 24 vc = T1 at hT1 p24 p8
  have eT : (⟨T, ds⟩ : Act).put o7a.dst vc = ⟨T1, ds⟩ := by rw [← hTT]; rfl
  rw [eT]
  refine own_val O (v := .pointer (some ⟨q, 0, none⟩)) hg.ok (o := o7b) rfl (wantedN rfl _) hb (fun w => du_f0 (a := ⟨T1, ds⟩) (x := .tmp 8) (o := 0) p8 w) fun s1 k1 r1 => ?_
  (replace hg := hg.same O r1; replace hx := hx.same O r1; clear k1 r1)
  have hT2 := hT1.put 25 (.pointer (some ⟨q, 0, none⟩)) (by decide) (by decide) (by decide) (by decide) (by decide) (by decide)
  have p25 : (T1.setIfInBounds 25 (.pointer (some ⟨q, 0, none⟩))).getD 25 undef = .pointer (some ⟨q, 0, none⟩) := by rw [getD_pt (by rw [hT1.size]; decide), if_pos rfl]
  have p24' : (T1.setIfInBounds 25 (.pointer (some ⟨q, 0, none⟩))).getD 24 undef = vc := by rw [getD_pt (by rw [hT1.size]; decide), if_neg (by decide), p24]
  generalize hTT2 : T1.setIfInBounds 25 (.pointer (some ⟨q, 0, none⟩)) = T2 at hT2 p25 p24'
  have eT2 : (⟨T1, ds⟩ : Act).put o7b.dst (.pointer (some ⟨q, 0, none⟩)) = ⟨T2, ds⟩ := by rw [← hTT2]; rfl
  rw [eT2]
  refine own_read O (v := .int .i64 (id i)) hg.ok (o := o7c) rfl (wantedN rfl _) hb (fun s' k' r' => ?_) fun s1 k1 r1 => ?_
  · have hx' := hx.rely O r'
    have := du_ld3 (a := ⟨T2, ds⟩) (x := .tmp 25) (dst := some 26) (ty := 3) (pos := "timers.go:82") (af := #[Go.Edge.mk 1 Go.Ground.data]) (g := none) p25 (hx'.cell O).1
    exact ⟨this.1, fun e he => .inl ⟨_, this.2 e he, hx'.mine⟩⟩
  (replace hg := hg.same O r1; replace hx := hx.same O r1; clear k1 r1)
  have hT3 := hT2.put 26 (.int .i64 (id i)) (by decide) (by decide) (by decide) (by decide) (by decide) (by decide)
  have p26 : (T2.setIfInBounds 26 (.int .i64 (id i))).getD 26 undef = .int .i64 (id i) := by rw [getD_pt (by rw [hT2.size]; decide), if_pos rfl]
  have p24'' : (T2.setIfInBounds 26 (.int .i64 (id i))).getD 24 undef = vc := by rw [getD_pt (by rw [hT2.size]; decide), if_neg (by decide), p24']
  exact h _ _ hg hT3 p24'' p26
end
end Go.Proofs.Ytnphcnhejgpjgaa.Abs
end
section
namespace Go.Proofs.Ytnphcnhejgpjgaa.Abs
open Go.Proofs.Ytnphcnhejgpjgaa.Co Go.Conc
open Go.Proofs
section
variable {σ : Type} {wd : σ → World} {R : σ → σ → Prop} {D : σ → Array Event → σ → Prop} (O : Go.Proofs.Ytnphcnhejgpjgaa.Co.Own wd R D) {Stop : Goroutine → σ → Prop} {main : Bool}
set_option maxHeartbeats 1000000 in
/-- The loop's end. -/
theorem loop_end {g n cap : Nat} {id at_ : Nat → Int} {now : Int} {vc : Value} {T : Array Value} {s : σ} {b : Frame} {ds : List Deferred} {K : List Item} {cs : List Frame} (hb : b.kind ≠ .early)
    (hg : Good O g n id at_ s) (hT : LT T now vc (.slice (some ⟨g, 0, none⟩) n cap) n n)
    (h : ∀ s' T', Good O g n id at_ s' → LT T' now vc (.slice (some ⟨g, 0, none⟩) n cap) n n → Tree Try.prog main wd R D noBig Stop (G (b.at ⟨T', ds⟩ K) cs) s') :
    Tree Try.prog main wd R D noBig Stop (G (b.at ⟨T, ds⟩ (.inLoop dueLoop :: .inBlock 0 :: K)) cs) s := by
  (refine own_ctl O rfl hg.ok (fun _ => stepG_inLoop) fun s1 k1 r1 => ?_; replace hg := hg.same O r1; clear k1 r1)
  refine own_ctl O rfl hg.ok (g' := G (b.at ⟨T, ds⟩ (.code (.region 4 r4 false) :: .code (.seq (.cond (.tmp 17) .skip (.exit 0)) (.seq (.block 1 (.seq (.region 5 r5 false) (.seq (.region 6 r6 false) (.cond (.tmp 23) (.region 7 r7 false) .skip)))) (.region 8 r8 false))) :: .inLoop dueLoop :: .inBlock 0 :: K)) cs) (fun _ => stepG_seq) fun s1 k1 r1 => ?_
  replace hg := hg.same O r1
  clear k1 r1
  (refine own_ctl O rfl hg.ok (fun _ => stepG_region) fun s1 k1 r1 => ?_; replace hg := hg.same O r1; clear k1 r1)
  refine own_val O (v := .bool false) hg.ok (o := o4a) rfl (wantedN rfl _) hb (fun w => ?_) fun s1 k1 r1 => ?_
  · have := du_lss (a := ⟨T, ds⟩) (dst := some 17) (ty := 0) (pos := "timers.go:80") (af := #[]) (g := none) (t := 3) (u := 3) (x := .tmp 16) (y := .tmp 15) (m := n) (n := n) hT.t16 hT.t15 w
    have e : decide ((n : Int) < n) = false := by simp
    rw [e] at this
    exact this
  replace hg := hg.same O r1
  clear k1 r1
  have hT1 := hT.put 17 (.bool false) (by decide) (by decide) (by decide) (by decide) (by decide) (by decide)
  (refine own_ctl O rfl hg.ok (fun _ => stepG_region_end) fun s1 k1 r1 => ?_; replace hg := hg.same O r1; clear k1 r1)
  (refine own_ctl O rfl hg.ok (fun _ => stepG_seq) fun s1 k1 r1 => ?_; replace hg := hg.same O r1; clear k1 r1)
  (refine own_ctl O rfl hg.ok (fun _ => (stepG_cond (t := false) (by show (T.setIfInBounds 17 (.bool false)).getD 17 undef = _; rw [getD_pt (by rw [hT.size]; decide), if_pos rfl]))) fun s1 k1 r1 => ?_; replace hg := hg.same O r1; clear k1 r1)
  (refine own_ctl O rfl hg.ok (fun _ => (stepG_exit (k' := K) rfl)) fun s1 k1 r1 => ?_; replace hg := hg.same O r1; clear k1 r1)
  exact h _ _ hg hT1

/-- To the next send, or to the end. -/
theorem loop_to {g n cap : Nat} {id at_ : Nat → Int} {now : Int} {vc : Value} {b : Frame} {ds : List Deferred} {K : List Item} {cs : List Frame} (hb : b.kind ≠ .early) (hn : n ≤ 1000000000000000000) : ∀ (m i : Nat) (T : Array Value) (s : σ), n - i = m → i ≤ n →
    Good O g n id at_ s → LT T now vc (.slice (some ⟨g, 0, none⟩) n cap) n i →
    (∀ j, i ≤ j → j < n → (∀ l, i ≤ l → l < j → ¬ at_ l ≤ now) → at_ j ≤ now → ∀ s' T', Good O g n id at_ s' → LT T' now vc (.slice (some ⟨g, 0, none⟩) n cap) n j → T'.getD 24 undef = vc → T'.getD 26 undef = .int .i64 (id j) →
      Tree Try.prog main wd R D noBig Stop (G (b.at ⟨T', ds⟩ (.inRegion r7 [3] :: .inBlock 1 :: .code (.region 8 r8 false) :: .inLoop dueLoop :: .inBlock 0 :: K)) cs) s') →
    ((∀ l, i ≤ l → l < n → ¬ at_ l ≤ now) → ∀ s' T', Good O g n id at_ s' → LT T' now vc (.slice (some ⟨g, 0, none⟩) n cap) n n → Tree Try.prog main wd R D noBig Stop (G (b.at ⟨T', ds⟩ K) cs) s') →
    Tree Try.prog main wd R D noBig Stop (G (b.at ⟨T, ds⟩ (.inLoop dueLoop :: .inBlock 0 :: K)) cs) s := by
  intro m
  induction m with
  | zero =>
    intro i T s hm hi hg hT hsend hend
    obtain rfl : i = n := by omega
    exact loop_end O hb hg hT (hend fun l h1 h2 => by omega)
  | succ m ih =>
    intro i T s hm hi hg hT hsend hend
    have hin : i < n := by omega
    (refine own_ctl O rfl hg.ok (fun _ => stepG_inLoop) fun s1 k1 r1 => ?_; replace hg := hg.same O r1; clear k1 r1)
    refine round_a O hb hg hT hin fun s1 T1 _ hg1 hT1 h18 => ?_
    refine round_b O hb hg1 hT1 hin h18 fun s2 T2 q hg2 hT2 h8 hx => ?_
    refine round_c O hb hg2 hT2 h8 hx fun s3 T3 hg3 hT3 h83 hx3 => ?_
    by_cases hle : at_ i ≤ now
    · rw [decide_eq_true hle, if_pos rfl]
      refine round_e O hb hg3 hT3 h83 hx3 fun s4 T4 hg4 hT4 p24 p26 => ?_
      exact hsend i (Nat.le_refl _) hin (fun l h1 h2 => by omega) hle s4 T4 hg4 hT4 p24 p26
    · rw [decide_eq_false hle, if_neg (by simp)]
      refine own_ctl O rfl hg3.ok (fun _ => stepG_skip) fun s4 k4 r4 => ?_
      refine round_d O hb (hg3.same O r4) hT3 hin hn fun s5 T5 hg5 hT5 => ?_
      refine ih (i + 1) T5 s5 (by omega) (by omega) hg5 hT5 (fun j h1 h2 h3 h4 => hsend j (by omega) h2 (fun l h5 h6 => ?_) h4) fun h1 => hend fun l h5 h6 => ?_
      · rcases Nat.lt_or_ge i l with h | h
        · exact h3 l h h6
        · obtain rfl : l = i := by omega
          exact hle
      · rcases Nat.lt_or_ge i l with h | h
        · exact h1 l h h6
        · obtain rfl : l = i := by omega
          exact hle
end
end Go.Proofs.Ytnphcnhejgpjgaa.Abs
end
section
namespace Go.Proofs.Ytnphcnhejgpjgaa.Abs
open Go.Proofs.Ytnphcnhejgpjgaa.Co Go.Conc
open Go.Proofs
def o3a : Oper := Go.Oper.mk (some 14) (Go.Op.move (Go.Operand.tmp 6)) 26 "timers.go:80" #[] none
def o3b : Oper := Go.Oper.mk (some 15) (Go.Op.call (Go.Call.mk (Go.Callee.builtin Go.Builtin.len) #[Go.Operand.tmp 14] #[26])) 3 "timers.go:80" #[Go.Edge.mk 0 Go.Ground.data] none
def o3c : Oper := Go.Oper.mk (some 16) (Go.Op.move (Go.Operand.const (Go.Value.int Go.IntKind.i64 0))) 3 "timers.go:80" #[] none
def r3 : Array Oper := #[o3a, o3b, o3c]
theorem du_len {a : Act} {x : Operand} {b : Option Addr} {n cap : Nat} (hx : a.eval x = .slice b n cap) {dst : Option Tmp} {pos : String} {af : Array Edge} {g : Option (Nat × Bool)} {ty : TypeId} (w : World) :
    (execOp a.eval ⟨dst, .call ⟨.builtin .len, #[x], #[26]⟩, ty, pos, af, g⟩).run Try.prog w = .ok (.value (.int .i64 n)) w ∧ (execOp a.eval ⟨dst, .call ⟨.builtin .len, #[x], #[26]⟩, ty, pos, af, g⟩).events Try.prog w #[] = #[] := by
  have hu := Try.underlying26
  unfold execOp
  constructor
  · simp [resolve, invoke, builtin, Builtin.len_, hx, run_underlying, hu, goInt, Result.andThen]
  · simp [resolve, invoke, builtin, Builtin.len_, hx, run_underlying, hu, goInt, Result.andThen, Result.evThen]
section
variable {σ : Type} {wd : σ → World} {R : σ → σ → Prop} {D : σ → Array Event → σ → Prop} (O : Go.Proofs.Ytnphcnhejgpjgaa.Co.Own wd R D) {Stop : Goroutine → σ → Prop} {main : Bool}
set_option maxHeartbeats 1000000 in
theorem due_head {vb : Option Addr} {n cap : Nat} {now : Int} {vc : Value} {T : Array Value} {s : σ} {b : Frame} {ds : List Deferred} {K : List Item} {cs : List Frame} (hb : b.kind ≠ .early) (I : σ → Prop)
    (hI : ∀ s s', I s → R s s' → I (O.upd s' (wd s'))) (hok : ∀ s, I s → O.ok s) (hs : I s) (hz : T.size = 28) (h1 : T.getD 1 undef = .int .i64 now) (h2 : T.getD 2 undef = vc) (h6 : T.getD 6 undef = .slice vb n cap)
    (h : ∀ s' T', I s' → LT T' now vc (.slice vb n cap) n 0 → Tree Try.prog main wd R D noBig Stop (G (b.at ⟨T', ds⟩ (.code (.block 0 (.loop dueLoop)) :: K)) cs) s') :
    Tree Try.prog main wd R D noBig Stop (G (b.at ⟨T, ds⟩ (.code (.seq (.region 3 r3 false) (.block 0 (.loop dueLoop))) :: K)) cs) s := by
  refine own_ctl O rfl (hok _ hs) (fun _ => stepG_seq) fun s1 k1 r1 => ?_
  replace hs := hI _ _ hs r1
  refine own_ctl O rfl (hok _ hs) (fun _ => stepG_region) fun s2 k2 r2 => ?_
  replace hs := hI _ _ hs r2
  refine own_val O (v := .slice vb n cap) (hok _ hs) (o := o3a) rfl (wantedN rfl _) hb (fun w => du_move (a := ⟨T, ds⟩) (x := .tmp 6) h6 w) fun s3 k3 r3' => ?_
  replace hs := hI _ _ hs r3'
  have z1 : (T.setIfInBounds 14 (.slice vb n cap)).size = 28 := by rw [Array.size_setIfInBounds, hz]
  have g14 : (T.setIfInBounds 14 (.slice vb n cap)).getD 14 undef = .slice vb n cap := by rw [getD_pt (by rw [hz]; decide), if_pos rfl]
  have g1 : (T.setIfInBounds 14 (.slice vb n cap)).getD 1 undef = .int .i64 now := by rw [getD_pt (by rw [hz]; decide), if_neg (by decide), h1]
  have g2 : (T.setIfInBounds 14 (.slice vb n cap)).getD 2 undef = vc := by rw [getD_pt (by rw [hz]; decide), if_neg (by decide), h2]
  generalize hTT : T.setIfInBounds 14 (.slice vb n cap) = T1 at z1 g14 g1 g2
  have eT : (⟨T, ds⟩ : Act).put o3a.dst (.slice vb n cap) = ⟨T1, ds⟩ := by rw [← hTT]; rfl
  rw [eT]
  refine own_val O (v := .int .i64 n) (hok _ hs) (o := o3b) rfl (wantedN rfl _) hb (fun w => du_len (a := ⟨T1, ds⟩) (x := .tmp 14) g14 w) fun s4 k4 r4 => ?_
  replace hs := hI _ _ hs r4
  have eT2 : (⟨T1, ds⟩ : Act).put o3b.dst (.int .i64 n) = ⟨T1.setIfInBounds 15 (.int .i64 n), ds⟩ := rfl
  rw [eT2]
  refine own_val O (v := .int .i64 0) (hok _ hs) (o := o3c) rfl (wantedN rfl _) hb (fun w => du_move (a := ⟨T1.setIfInBounds 15 (.int .i64 n), ds⟩) (x := .const (.int .i64 0)) rfl w) fun s5 k5 r5 => ?_
  replace hs := hI _ _ hs r5
  have eT3 : (⟨T1.setIfInBounds 15 (.int .i64 n), ds⟩ : Act).put o3c.dst (.int .i64 0) = ⟨(T1.setIfInBounds 15 (.int .i64 n)).setIfInBounds 16 (.int .i64 0), ds⟩ := rfl
  rw [eT3]
  refine own_ctl O rfl (hok _ hs) (fun _ => stepG_region_end) fun s6 k6 r6 => ?_
  replace hs := hI _ _ hs r6
  have z2 : (T1.setIfInBounds 15 (.int .i64 n)).size = 28 := by rw [Array.size_setIfInBounds, z1]
  have l15 : 15 < T1.size := by rw [z1]; decide
  have l16 : 16 < (T1.setIfInBounds 15 (.int .i64 n)).size := by rw [z2]; decide
  exact h _ _ hs ⟨by rw [Array.size_setIfInBounds, z2], by rw [getD_pt l16, if_neg (by decide), getD_pt l15, if_neg (by decide), g1], by rw [getD_pt l16, if_neg (by decide), getD_pt l15, if_neg (by decide), g2],
    by rw [getD_pt l16, if_neg (by decide), getD_pt l15, if_neg (by decide), g14], by rw [getD_pt l16, if_neg (by decide), getD_pt l15, if_pos rfl], by rw [getD_pt l16, if_pos rfl]; rfl⟩
end
end Go.Proofs.Ytnphcnhejgpjgaa.Abs
end
section
namespace Go.Proofs.Ytnphcnhejgpjgaa.Abs
open Go.Proofs.Ytnphcnhejgpjgaa.Co Go.Conc
open Go.Proofs
section
variable {σ : Type} {wd : σ → World} {R : σ → σ → Prop} {D : σ → Array Event → σ → Prop} (O : Go.Proofs.Ytnphcnhejgpjgaa.Co.Own wd R D) {Stop : Goroutine → σ → Prop} {main : Bool}
set_option maxHeartbeats 1000000 in
/-- The loop's end, from its body. -/
theorem loop_end0 {g n cap : Nat} {id at_ : Nat → Int} {now : Int} {vc : Value} {T : Array Value} {s : σ} {b : Frame} {ds : List Deferred} {K : List Item} {cs : List Frame} (hb : b.kind ≠ .early)
    (hg : Good O g n id at_ s) (hT : LT T now vc (.slice (some ⟨g, 0, none⟩) n cap) n n)
    (h : ∀ s' T', Good O g n id at_ s' → LT T' now vc (.slice (some ⟨g, 0, none⟩) n cap) n n → Tree Try.prog main wd R D noBig Stop (G (b.at ⟨T', ds⟩ K) cs) s') :
    Tree Try.prog main wd R D noBig Stop (G (b.at ⟨T, ds⟩ (.code dueLoop :: .inLoop dueLoop :: .inBlock 0 :: K)) cs) s := by
  refine own_ctl O rfl hg.ok (g' := G (b.at ⟨T, ds⟩ (.code (.region 4 r4 false) :: .code (.seq (.cond (.tmp 17) .skip (.exit 0)) (.seq (.block 1 (.seq (.region 5 r5 false) (.seq (.region 6 r6 false) (.cond (.tmp 23) (.region 7 r7 false) .skip)))) (.region 8 r8 false))) :: .inLoop dueLoop :: .inBlock 0 :: K)) cs) (fun _ => stepG_seq) fun s1 k1 r1 => ?_
  replace hg := hg.same O r1
  clear k1 r1
  (refine own_ctl O rfl hg.ok (fun _ => stepG_region) fun s1 k1 r1 => ?_; replace hg := hg.same O r1; clear k1 r1)
  refine own_val O (v := .bool false) hg.ok (o := o4a) rfl (wantedN rfl _) hb (fun w => ?_) fun s1 k1 r1 => ?_
  · have := du_lss (a := ⟨T, ds⟩) (dst := some 17) (ty := 0) (pos := "timers.go:80") (af := #[]) (g := none) (t := 3) (u := 3) (x := .tmp 16) (y := .tmp 15) (m := n) (n := n) hT.t16 hT.t15 w
    have e : decide ((n : Int) < n) = false := by simp
    rw [e] at this
    exact this
  replace hg := hg.same O r1
  clear k1 r1
  have hT1 := hT.put 17 (.bool false) (by decide) (by decide) (by decide) (by decide) (by decide) (by decide)
  (refine own_ctl O rfl hg.ok (fun _ => stepG_region_end) fun s1 k1 r1 => ?_; replace hg := hg.same O r1; clear k1 r1)
  (refine own_ctl O rfl hg.ok (fun _ => stepG_seq) fun s1 k1 r1 => ?_; replace hg := hg.same O r1; clear k1 r1)
  (refine own_ctl O rfl hg.ok (fun _ => (stepG_cond (t := false) (by show (T.setIfInBounds 17 (.bool false)).getD 17 undef = _; rw [getD_pt (by rw [hT.size]; decide), if_pos rfl]))) fun s1 k1 r1 => ?_; replace hg := hg.same O r1; clear k1 r1)
  (refine own_ctl O rfl hg.ok (fun _ => (stepG_exit (k' := K) rfl)) fun s1 k1 r1 => ?_; replace hg := hg.same O r1; clear k1 r1)
  exact h _ _ hg hT1


theorem loop_start {g n cap : Nat} {id at_ : Nat → Int} {now : Int} {vc : Value} {b : Frame} {ds : List Deferred} {K : List Item} {cs : List Frame} (hb : b.kind ≠ .early) (hn : n ≤ 1000000000000000000) (T : Array Value) (s : σ)
    (hg : Good O g n id at_ s) (hT : LT T now vc (.slice (some ⟨g, 0, none⟩) n cap) n 0)
    (hsend : ∀ j, j < n → (∀ l, l < j → ¬ at_ l ≤ now) → at_ j ≤ now → ∀ s' T', Good O g n id at_ s' → LT T' now vc (.slice (some ⟨g, 0, none⟩) n cap) n j → T'.getD 24 undef = vc → T'.getD 26 undef = .int .i64 (id j) →
      Tree Try.prog main wd R D noBig Stop (G (b.at ⟨T', ds⟩ (.inRegion r7 [3] :: .inBlock 1 :: .code (.region 8 r8 false) :: .inLoop dueLoop :: .inBlock 0 :: K)) cs) s')
    (hend : (∀ l, l < n → ¬ at_ l ≤ now) → ∀ s' T', Good O g n id at_ s' → LT T' now vc (.slice (some ⟨g, 0, none⟩) n cap) n n → Tree Try.prog main wd R D noBig Stop (G (b.at ⟨T', ds⟩ K) cs) s') :
    Tree Try.prog main wd R D noBig Stop (G (b.at ⟨T, ds⟩ (.code (.block 0 (.loop dueLoop)) :: K)) cs) s := by
  (refine own_ctl O rfl hg.ok (fun _ => stepG_block) fun s1 k1 r1 => ?_; replace hg := hg.same O r1; clear k1 r1)
  (refine own_ctl O rfl hg.ok (fun _ => stepG_loop) fun s1 k1 r1 => ?_; replace hg := hg.same O r1; clear k1 r1)
  rcases Nat.eq_zero_or_pos n with h0 | hin
  · subst h0
    exact loop_end0 O hb hg hT (hend fun l h => absurd h (Nat.not_lt_zero _))
  · refine round_a O hb hg hT hin fun s1 T1 _ hg1 hT1 h18 => ?_
    refine round_b O hb hg1 hT1 hin h18 fun s2 T2 q hg2 hT2 h8 hx => ?_
    refine round_c O hb hg2 hT2 h8 hx fun s3 T3 hg3 hT3 h83 hx3 => ?_
    by_cases hle : at_ 0 ≤ now
    · rw [decide_eq_true hle, if_pos rfl]
      refine round_e O hb hg3 hT3 h83 hx3 fun s4 T4 hg4 hT4 p24 p26 => ?_
      exact hsend 0 hin (fun l h => absurd h (Nat.not_lt_zero _)) hle s4 T4 hg4 hT4 p24 p26
    · rw [decide_eq_false hle, if_neg (by simp)]
      refine own_ctl O rfl hg3.ok (fun _ => stepG_skip) fun s4 k4 r4 => ?_
      refine round_d O hb (hg3.same O r4) hT3 hin hn fun s5 T5 hg5 hT5 => ?_
      refine loop_to O hb hn (n - 1) 1 T5 s5 rfl hin hg5 hT5 (fun j h1 h2 h3 h4 => hsend j h2 (fun l h6 => ?_) h4) fun h1 => hend fun l h6 => ?_
      · rcases Nat.eq_zero_or_pos l with h | h
        · subst h; exact hle
        · exact h3 l h h6
      · rcases Nat.eq_zero_or_pos l with h | h
        · subst h; exact hle
        · exact h1 l h h6
end
end Go.Proofs.Ytnphcnhejgpjgaa.Abs
end
section
namespace Go.Proofs.Ytnphcnhejgpjgaa.Abs
open Go.Proofs.Ytnphcnhejgpjgaa.Co Go.Conc
open Go.Proofs
section
variable {σ : Type} {wd : σ → World} {R : σ → σ → Prop} {D : σ → Array Event → σ → Prop} (O : Go.Proofs.Ytnphcnhejgpjgaa.Co.Own wd R D) {Stop : Goroutine → σ → Prop} {main : Bool}
theorem after_send {g n cap : Nat} {id at_ : Nat → Int} {now : Int} {vc : Value} {b : Frame} {ds : List Deferred} {K : List Item} {cs : List Frame} (hb : b.kind ≠ .early) (hn : n ≤ 1000000000000000000) {i : Nat} (hi : i < n) (T : Array Value) (s : σ)
    (hg : Good O g n id at_ s) (hT : LT T now vc (.slice (some ⟨g, 0, none⟩) n cap) n i)
    (hsend : ∀ j, i < j → j < n → (∀ l, i < l → l < j → ¬ at_ l ≤ now) → at_ j ≤ now → ∀ s' T', Good O g n id at_ s' → LT T' now vc (.slice (some ⟨g, 0, none⟩) n cap) n j → T'.getD 24 undef = vc → T'.getD 26 undef = .int .i64 (id j) →
      Tree Try.prog main wd R D noBig Stop (G (b.at ⟨T', ds⟩ (.inRegion r7 [3] :: .inBlock 1 :: .code (.region 8 r8 false) :: .inLoop dueLoop :: .inBlock 0 :: K)) cs) s')
    (hend : (∀ l, i < l → l < n → ¬ at_ l ≤ now) → ∀ s' T', Good O g n id at_ s' → LT T' now vc (.slice (some ⟨g, 0, none⟩) n cap) n n → Tree Try.prog main wd R D noBig Stop (G (b.at ⟨T', ds⟩ K) cs) s') :
    Tree Try.prog main wd R D noBig Stop (G (b.at ⟨T, ds⟩ (.inRegion r7 [] :: .inBlock 1 :: .code (.region 8 r8 false) :: .inLoop dueLoop :: .inBlock 0 :: K)) cs) s := by
  (refine own_ctl O rfl hg.ok (fun _ => stepG_region_end) fun s1 k1 r1 => ?_; replace hg := hg.same O r1; clear k1 r1)
  refine round_d O hb hg hT hi hn fun s1 T1 hg1 hT1 => ?_
  exact loop_to O hb hn (n - (i + 1)) (i + 1) T1 s1 rfl hi hg1 hT1 (fun j h1 h2 h3 h4 => hsend j h1 h2 (fun l h5 h6 => h3 l h5 h6) h4) fun h1 => hend fun l h5 h6 => h1 l h5 h6
end
end Go.Proofs.Ytnphcnhejgpjgaa.Abs
end
section
namespace Go.Proofs.Ytnphcnhejgpjgaa.Abs
open Go.Proofs.Ytnphcnhejgpjgaa.Co Go.Conc
open Go.RowKit Go.Proofs

/-- A goroutine that is not the first; nothing is done in one stride. -/
abbrev EB : Env := envT false noBig
instance : @AtEnv EB := envT_at _ _
noncomputable def frB : Frame := { (default : Frame) with fn := Try.prog.funcs.size, defers := [], mode := .panicking [goexitEntry] }
noncomputable def born (d : Deferred) : Goroutine := { frame := { (default : Frame) with fn := Try.prog.funcs.size, defers := [d], mode := .panicking [goexitEntry] }, callers := [], status := .running, dying := none }
def duec (v0 v1 vc : Value) : Deferred := { target := .fn (.func 29) #[], args := #[v0, v1, vc] }
def clo (vc : Value) : Deferred := { target := .builtin .close #[74] 0 #[false], args := #[vc] }
def dueT (v0 v1 vc : Value) : Array Value := (#[v0, v1, vc] ++ Array.replicate 25 undef).setIfInBounds 9 vc

theorem due_enter (v0 v1 vc : Value) (w : World) : stepG Try.prog false (born (duec v0 v1 vc)) w = .go (G (Frame.enter Try.prog 29 #[v0, v1, vc] .deferred) [frB]) w #[] := by
  have hf := Try.func29
  have hr : (invoke (.fn (.func 29) #[]) #[v0, v1, vc]).run Try.prog w = .ok (.enter 29 #[v0, v1, vc]) w := by
    have := enters_of Try.func29 (by kernel_rfl) rfl #[v0, v1, vc] w
    simp [invoke]
  have he : (invoke (.fn (.func 29) #[]) #[v0, v1, vc]).events Try.prog w #[] = #[] := by
    have h1 : Try.f29.name ≠ "runtime.NumGoroutine" := by decide +kernel
    have hb : Try.f29.body.isNone = false := by kernel_rfl
    simp [invoke, callFunc, hf, h1]
    intro hn
    rw [hn] at hb
    cases hb
  simp [stepG, unwind, born, duec, callDeferred, hr, he, GStep.after, seen, G, frB]

theorem step_clo {b : Frame} {a : Act} {k : List Item} {cs : List Frame} {w : World} {main : Bool} {ops : Array Oper} {o : Oper} (ho : ops[1]? = some o) (hop : o.op = .defer { callee := .builtin .close, args := #[.tmp 9], argTypes := #[74] }) (hty : o.type = 0) (hd : o.dst = none)
    (hg : o.guard = none) (hk : b.kind ≠ .early) :
    stepG Try.prog main (G (b.at a (.inRegion ops [1] :: k)) cs) w = .go (G (b.at ⟨a.tmps, clo (a.tmps.getD 9 undef) :: a.defers⟩ (.inRegion ops [] :: k)) cs) w #[] := by
  have hw : Region.wanted o (yielded ops a.tmps) = true := by simp [Region.wanted, hg]
  have hr : (execOp a.eval o).run Try.prog w = .ok (.defer (clo (a.tmps.getD 9 undef))) w := by
    unfold execOp
    simp [hop, hty, resolve, clo, Act.eval]
  have he : (execOp a.eval o).events Try.prog w #[] = #[] := by
    unfold execOp
    simp [hop, resolve]
  have hfin : (b.at ⟨a.tmps, clo (a.tmps.getD 9 undef) :: a.defers⟩ (.inRegion ops [1] :: k)).finish undef = b.at ⟨a.tmps, clo (a.tmps.getD 9 undef) :: a.defers⟩ (.inRegion ops [] :: k) := by rw [Frame.finish_at, ho]; simp [hd, Act.put]
  have hk' : (b.kind == CallKind.early) = false := by simpa using hk
  rw [stepG_oper ho hw, ← hfin]
  simp [stepG.apply, hr, he, G, Frame.at, hk', GStep.after, seen]

/-- The code of due behind its first region. -/
noncomputable def dueBody : Code := match Try.f29.body with
  | some (.seq _ c) => c
  | _ => .skip
noncomputable def dueOps0 : Array Oper := match Try.f29.body with
  | some (.seq (.region _ ops _) _) => ops
  | _ => #[]
theorem due_code : Try.f29.body = some (.seq (.region 0 dueOps0 false) dueBody) := by kernel_rfl
/-- From its birth to behind its first region. -/
theorem due_born {Z : Goroutine → World → Prop} {v0 v1 vc : Value} {w : World} (h : @TrK EB Try.prog Z (G ((baseD 29).at ⟨dueT v0 v1 vc, [clo vc]⟩ [.code dueBody]) [frB]) w) : @TrK EB Try.prog Z (born (duec v0 v1 vc)) w := by
  letI := EB
  refine .ctl rfl (fun w => due_enter v0 v1 vc w) ?_
  rw [enter_atD _ Try.func29 due_code]
  refine .ctl rfl (fun _ => stepG_seq) ?_
  refine .ctl rfl (fun _ => stepG_region) ?_
  have ho : dueOps0[0]? = some (Go.Oper.mk (some 9) (Go.Op.move (Go.Operand.tmp 2)) 74 "timers.go:77" #[] none) := by kernel_rfl
  have ho1 : ∃ o, dueOps0[1]? = some o ∧ o.op = .defer { callee := .builtin .close, args := #[.tmp 9], argTypes := #[74] } ∧ o.type = 0 ∧ o.dst = none ∧ o.guard = none := by
    refine ⟨_, (by kernel_rfl : dueOps0[1]? = some (Go.Oper.mk none (Go.Op.defer (Go.Call.mk (Go.Callee.builtin Go.Builtin.close) #[Go.Operand.tmp 9] #[74])) 0 "timers.go:77" #[Go.Edge.mk 0 Go.Ground.data] none)), rfl, rfl, rfl, rfl⟩
  have hn : List.range dueOps0.size = [0, 1] := by
    have : dueOps0.size = 2 := by kernel_rfl
    rw [this]; rfl
  rw [hn]
  have a0 : (⟨#[v0, v1, vc] ++ Array.replicate (Try.f29.ntmps - #[v0, v1, vc].size) undef, []⟩ : Act) = ⟨#[v0, v1, vc] ++ Array.replicate 25 undef, []⟩ := by
    have : Try.f29.ntmps = 28 := by kernel_rfl
    rw [this]; rfl
  rw [a0]
  refine .ctl (g' := G ((baseD 29).at ⟨dueT v0 v1 vc, []⟩ (.inRegion dueOps0 [1] :: [.code dueBody])) [frB]) rfl (fun w => ?_) ?_
  · have hev : (⟨#[v0, v1, vc] ++ Array.replicate 25 undef, []⟩ : Act).eval (.tmp 2) = vc := by simp [Act.eval]
    have hr : (execOp (⟨#[v0, v1, vc] ++ Array.replicate 25 undef, []⟩ : Act).eval (Go.Oper.mk (some 9) (Go.Op.move (Go.Operand.tmp 2)) 74 "timers.go:77" #[] none)).run Try.prog w = .ok (.value vc) w := by
      unfold execOp
      dsimp only
      rw [hev]
      rfl
    have hl : listed Try.prog 29 ⟨#[v0, v1, vc] ++ Array.replicate 25 undef, []⟩ (Go.Oper.mk (some 9) (Go.Op.move (Go.Operand.tmp 2)) 74 "timers.go:77" #[] none) w = #[] := by
      unfold listed execOp
      rfl
    have hp : (⟨#[v0, v1, vc] ++ Array.replicate 25 undef, []⟩ : Act).put (some 9) vc = ⟨dueT v0 v1 vc, []⟩ := rfl
    have := stepG_value (P := Try.prog) (main := Env.main) (b := baseD 29) (k := [.code dueBody]) (cs := [frB]) (rest := [1]) ho (by simp [Region.wanted]) (by simp [baseD]) hr
    rw [hp] at this
    refine this.trans ?_
    show GStep.go _ _ (listed Try.prog 29 _ _ w) = _
    rw [hl]
  obtain ⟨o, h1, h2, h3, h4, h5⟩ := ho1
  refine .ctl (g' := G ((baseD 29).at ⟨dueT v0 v1 vc, [clo vc]⟩ (.inRegion dueOps0 [] :: [.code dueBody])) [frB]) rfl (fun w => ?_) ?_
  · have h9 : (dueT v0 v1 vc).getD 9 undef = vc := by simp [dueT]
    have := step_clo (b := baseD 29) (a := ⟨dueT v0 v1 vc, []⟩) (k := [.code dueBody]) (cs := [frB]) (w := w) (main := Env.main) h1 h2 h3 h4 h5 (by simp [baseD])
    dsimp only at this
    rw [h9] at this
    exact this
  exact .ctl rfl (fun _ => stepG_region_end) h

section
variable [Env] [NoFr] {P : Program} {ops : Array Oper} {Q : Exit → Act → World → Prop} {rest : List Oper} {o : Oper} {a : Act} {w : World}
theorem lp_move (hg : o.guard = none) {x : Operand} (hop : o.op = .move x ∨ o.op = .assign x) (h : wpListK P ops Q rest (a.put o.dst (a.eval x)) w) : wpListP P ops Q (o :: rest) a w :=
  wpListP_plain hg fun K hK => by
    unfold operK
    have : (execOp a.eval o).run P w = .ok (.value (a.eval x)) w := by
      unfold execOp
      rcases hop with h | h <;> rw [h] <;> rfl
    rw [this]
    exact hK _ _ h
theorem lp_call (hg : o.guard = none) {f : FuncId} {xs : Array Operand} {ats : Array TypeId} (hop : o.op = .call ⟨.value (.func f), xs, ats⟩) {fn : Func} {c : Code} (hf : P.funcs[f]? = some fn) (hnm : (fn.name == "runtime.NumGoroutine") = false) (hb : fn.body = some c)
    {R : Ending → World → Prop} (h : CallsK P f (xs.map a.eval) w R) (hk : ∀ e w', R e w' → ∃ v, e = .returned v ∧ wpListK P ops Q rest (a.put o.dst v) w') : wpListP P ops Q (o :: rest) a w :=
  wpListP_plain hg fun K hK => by
    unfold operK
    have : (execOp a.eval o).run P w = .ok (.enter f (xs.map a.eval)) w := by
      have := enters_of hf hnm hb (xs.map a.eval) w
      unfold execOp
      rw [hop]
      simpa [resolve, Deferred.ofValue, invoke, Act.eval] using this
    rw [this]
    refine h.mono fun e w' he => ?_
    obtain ⟨v, rfl, hw⟩ := hk e w' he
    exact hK _ _ hw
end
noncomputable def dueOps1 : List Oper := match Try.f29.body with
  | some (.seq _ (.seq (.region _ ops _) _)) => ops.toList
  | _ => []
noncomputable def dueOps2 : List Oper := match Try.f29.body with
  | some (.seq _ (.seq _ (.seq (.region _ ops _) _))) => ops.toList
  | _ => []
noncomputable def dueEnd : Code := match Try.f29.body with
  | some (.seq _ (.seq _ (.seq _ c))) => c
  | _ => .skip
theorem due_code2 : dueBody = .seq (.region 1 dueOps1.toArray false) (.seq (.region 2 dueOps2.toArray false) dueEnd) := by kernel_rfl

/-- due's temporaries behind the sort. -/
def dueT2 (v0 v1 vc v : Value) : Array Value := ((((((⟨dueT v0 v1 vc, []⟩ : Act).put (some 10) v0).put (some 11) v).put (some 6) v).put (some 12) v).put (some 13) (.tuple #[])).tmps
theorem mem_nil (w : World) (S : Stab) (H : Nat → Value) : Mem w S [] H := ⟨fun p b h => by simp at h, fun p b g h => by simp at h, fun p q b b' g h => by simp at h, fun p b g i h => by simp at h⟩
theorem put_df (t : Array Value) (ds : List Deferred) (d : Option Tmp) (v : Value) : (⟨t, ds⟩ : Act).put d v = ⟨((⟨t, []⟩ : Act).put d v).tmps, ds⟩ := by cases d <;> rfl

set_option maxHeartbeats 1000000 in
theorem due_first {Z : Goroutine → World → Prop} {v0 v1 vc : Value} {xs tl : List GTimersTimer} {w : World} {S : Stab} (hin : InH w S) (hv : Rep w S (.sl xs.length (xs.flatMap eGTimersTimer)) v0) (hn : xs.length ≤ 1000000000000000000)
    (hcl : m26_slices_Cloneo xs = some xs) (hu : ∀ zs : List GTimersTimer, zs.Perm xs → zs.Pairwise (fun a b => a.At < b.At ∨ a.At = b.At ∧ a.ID ≤ b.ID) → zs = tl) (hlen : tl.length = xs.length)
    (h : ∀ w' S' v vals, Same3 w w' → w.heap.size ≤ w'.heap.size → (∀ b, b < w.heap.size → w'.heap[b]? = w.heap[b]?) → InH w' S' → LsR (Rep w' S') (tl.flatMap eGTimersTimer) vals → w'.ownsRow 0 61 2 v tl.length vals → (∀ g, ownOf v = some g → w.heap.size ≤ g) →
      @TrK EB Try.prog Z (G ((baseD 29).at ⟨dueT2 v0 v1 vc v, [clo vc]⟩ [.code dueEnd]) [frB]) w') :
    @TrK EB Try.prog Z (G ((baseD 29).at ⟨dueT v0 v1 vc, [clo vc]⟩ [.code dueBody]) [frB]) w := by
  letI := EB
  rw [due_code2]
  refine .ctl rfl (fun _ => stepG_seq) ?_
  have ho1 : dueOps1 = [Go.Oper.mk (some 10) (Go.Op.move (Go.Operand.tmp 0)) 26 "timers.go:78" #[] none,
            Go.Oper.mk (some 11) (Go.Op.call (Go.Call.mk (Go.Callee.value (Go.Operand.func 26)) #[Go.Operand.tmp 10] #[26])) 26 "timers.go:78" #[Go.Edge.mk 0 Go.Ground.data] none,
            Go.Oper.mk (some 6) (Go.Op.assign (Go.Operand.tmp 11)) 26 "timers.go:78" #[Go.Edge.mk 1 Go.Ground.data, Go.Edge.mk 1 Go.Ground.chain, Go.Edge.mk 0 Go.Ground.phase, Go.Edge.mk 1 Go.Ground.phase] none] := by kernel_rfl
  have ho2 : dueOps2 = [Go.Oper.mk (some 12) (Go.Op.move (Go.Operand.tmp 6)) 26 "timers.go:79" #[] none,
              Go.Oper.mk (some 13) (Go.Op.call (Go.Call.mk (Go.Callee.value (Go.Operand.func 27)) #[Go.Operand.tmp 12, Go.Operand.func 31] #[26, 64])) 0 "timers.go:79" #[Go.Edge.mk 0 Go.Ground.data] none] := by kernel_rfl
  have hb : (baseD 29).kind ≠ .early := by simp [baseD]
  rw [ho1, ho2]
  have clos : ∀ (k : List Item) (a : Act) (w w₁ : World), Env.Rl w w₁ → ArrK Try.prog Z (baseD 29) k [frB] .normal a w → ArrK Try.prog Z (baseD 29) k [frB] .normal a w₁ := fun k a w w₁ hr hq => TrK.at hq hr
  have at_in : ∀ {w : World} {S : Stab} (d : Nat), InH w S → InH (w.at d) S := fun {w S} d h => inH_ta h w.tape d
  have at_rep : ∀ {w : World} {S : Stab} {l : Lf} {v : Value} (d : Nat), Rep w S l v → Rep (w.at d) S l v := fun {w S l v} d h => Rep.mono (keep_ta w S w.tape d) h
  have hE0 : (⟨dueT v0 v1 vc, [clo vc]⟩ : Act).eval (.tmp 0) = v0 := by simp [Act.eval, dueT]
  refine wpK_region_lit (Q := ArrK Try.prog Z (baseD 29) [.code (.seq (.region 2 _ false) dueEnd)] [frB]) (clos _) (fun _ hd => ?_) ⟨by kernel_rfl, fun hf => noFr hf⟩ (baseD 29) _ [frB] Z hb (fun e a' w' hq => hq)
  obtain ⟨d, rfl⟩ := hd
  refine lp_move rfl (.inl rfl) (fun _ hd => ?_)
  obtain ⟨d2, rfl⟩ := hd
  rw [hE0]
  have hE1 : (#[Go.Operand.tmp 10].map ((⟨dueT v0 v1 vc, [clo vc]⟩ : Act).put (some 10) v0).eval) = #[v0] := by simp [Act.eval, Act.put, dueT]
  have hc := m26_slices_Cloneo_c hcl ((w.at d).at d2) S (fun _ => undef) #[v0] (at_in d2 (at_in d hin)) (mem_nil _ _ _) ⟨rfl, fun j x v h1 h2 => by
    match j, h1, h2 with
    | 0, h1, h2 =>
      cases h1
      cases h2
      exact at_rep d2 (at_rep d hv)⟩
  rw [← hE1] at hc
  refine lp_call rfl rfl Try.func26 (by kernel_rfl) rfl hc ?_
  rintro e w1 ⟨v, x, m', S1, H1, rfl, ⟨rfl, rfl⟩, hx1, hin1, hm1, how1, hk1, hav⟩
  refine ⟨v, rfl, fun _ hd => ?_⟩
  obtain ⟨d3, rfl⟩ := hd
  refine lp_move rfl (.inr rfl) (fun _ hd => ?_)
  obtain ⟨d4, rfl⟩ := hd
  have hE2 : (((⟨dueT v0 v1 vc, [clo vc]⟩ : Act).put (some 10) v0).put (some 11) v).eval (.tmp 11) = v := by simp [Act.eval, Act.put, dueT]
  rw [hE2]
  show TrK Try.prog Z (G ((baseD 29).at ((((⟨dueT v0 v1 vc, [clo vc]⟩ : Act).put (some 10) v0).put (some 11) v).put (some 6) v) [.code (.seq (.region 2 _ false) dueEnd)]) [frB]) ((w1.at d3).at d4)
  refine .ctl rfl (fun _ => stepG_seq) ?_
  refine wpK_region_lit (Q := ArrK Try.prog Z (baseD 29) [.code dueEnd] [frB]) (clos _) (fun _ hd => ?_) ⟨by kernel_rfl, fun hf => noFr hf⟩ (baseD 29) _ [frB] Z hb (fun e a' w' hq => hq)
  obtain ⟨d5, rfl⟩ := hd
  refine lp_move rfl (.inl rfl) (fun _ hd => ?_)
  obtain ⟨d6, rfl⟩ := hd
  have hE3 : ((((⟨dueT v0 v1 vc, [clo vc]⟩ : Act).put (some 10) v0).put (some 11) v).put (some 6) v).eval (.tmp 6) = v := by simp [Act.eval, Act.put, dueT]
  rw [hE3]
  have hE4 : (#[Go.Operand.tmp 12, Go.Operand.func 31].map (((((⟨dueT v0 v1 vc, [clo vc]⟩ : Act).put (some 10) v0).put (some 11) v).put (some 6) v).put (some 12) v).eval) = #[v, .func (.func 31) #[] #[]] := by simp [Act.eval, Act.put, dueT]
  have hlx : (xs.flatMap eGTimersTimer).length = xs.length * 2 := flat_len (f := eGTimersTimer) (sz := 2) (fun _ => rfl) xs
  have hlt : (tl.flatMap eGTimersTimer).length = xs.length * 2 := by rw [flat_len (f := eGTimersTimer) (sz := 2) (fun _ => rfl), hlen]
  have hvl : GRep w1 S1 [.arr 61 2 0 (xs.flatMap eGTimersTimer)] H1 (.ls 0 xs.length) v := hav
  have hs := sort31_K (f := eGTimersTimer) (p := GTimersTimer.ID) (q := GTimersTimer.At) (fun _ => rfl) hn hu ((((w1.at d3).at d4).at d5).at d6) S1 H1 #[v, .func (.func 31) #[] #[]] (inH_ta hin1 w1.tape d6) (mem_ta hm1 w1.tape d6) ⟨rfl, fun j x u h1 h2 => by
    match j, h1, h2 with
    | 0, h1, h2 =>
      cases h1
      cases h2
      exact gRep_ta w1.tape d6 hvl
    | 1, h1, h2 =>
      cases h1
      cases h2
      exact Rep.raw _ rfl⟩
  rw [← hE4] at hs
  refine lp_call rfl rfl Try.func27 (by kernel_rfl) rfl hs ?_
  rintro e w2 ⟨v2, x2, m2, S2, H2, rfl, ⟨rfl, rfl⟩, hx2, hin2, hm2, how2, hk2, hav2⟩
  obtain ⟨vs2, rfl, hz2, _⟩ := hav2
  obtain rfl : vs2 = #[] := Array.eq_empty_of_size_eq_zero hz2.symm
  refine ⟨_, rfl, fun _ hd => ?_⟩
  obtain ⟨d7, rfl⟩ := hd
  have hv1 : v = H1 0 := (hvl.2.2 61 2 0 _ rfl).2 hlx.symm
  have hH : H2 0 = H1 0 := by
    obtain ⟨k', cs', hm', hor⟩ := hk2.r 0 61 2 0 _ (by simp) rfl
    obtain ⟨rfl, rfl⟩ : (0 = k') ∧ xs.flatMap eGTimersTimer = cs' := by simpa using hm'
    rcases hor with hor | hor
    · exact hor.2
    · rw [hlx, hlt] at hor; omega
  obtain ⟨_, _, n', vals, hown, hls, _⟩ := hm2.bl 0 _ rfl
  have hn' : n' = tl.length := ownsRow_n hown (by decide) (by rw [← hls.1, hlt, hlen])
  subst hn'
  have low : ∀ g, ownX [.arr 61 2 0 (xs.flatMap eGTimersTimer)] H1 g → w.heap.size ≤ g := by
    rintro g ⟨p, b, hp, hg⟩
    rcases how1 p b g hp hg with h | ⟨p', b', hp', _⟩
    · exact h
    · simp at hp'
  rw [hH, ← hv1] at hown
  have hA : ((((((⟨dueT v0 v1 vc, [clo vc]⟩ : Act).put (some 10) v0).put (some 11) v).put (some 6) v).put (some 12) v).put (some 13) (.tuple #[])) = ⟨dueT2 v0 v1 vc v, [clo vc]⟩ := by simp only [Act.put, dueT2]
  show TrK Try.prog Z (G ((baseD 29).at ((((((⟨dueT v0 v1 vc, [clo vc]⟩ : Act).put (some 10) v0).put (some 11) v).put (some 6) v).put (some 12) v).put (some 13) (.tuple #[])) [.code dueEnd]) [frB]) (w2.at d7)
  rw [hA]
  refine h (w2.at d7) S2 v vals ⟨hx2.tape.trans hx1.tape, hx2.os.trans hx1.os, hx2.output.trans hx1.output⟩ (Nat.le_trans hx1.size hx2.size) (fun b hb => ?_) (inH_ta hin2 w2.tape d7) (hls.mono fun l u r => Rep.mono (keep_ta w2 S2 w2.tape d7) r) hown (fun g hg => ?_)
  · exact (hx2.blk b (Nat.lt_of_lt_of_le hb hx1.size) fun hX => absurd (low b hX) (Nat.not_le.2 hb)).trans (hx1.blk b hb fun ⟨p, b', hp, _⟩ => by simp at hp)
  · have := how2 0 _ g rfl (by show ownOf (H2 0) = some g; rw [hH, ← hv1]; exact hg)
    exact this.elim (fun h => Nat.le_trans hx1.size h) (low g)
end Go.Proofs.Ytnphcnhejgpjgaa.Abs
end
section
namespace Go.Proofs.Ytnphcnhejgpjgaa.Abs
open Go.Proofs.Ytnphcnhejgpjgaa.Co Go.Conc
open Go.RowKit Go.Proofs
theorem run_close (c n : Nat) (tm : Bool) {w : World} (h : OpenAt c w n tm) : (invoke (.builtin .close #[74] 0 #[false]) #[.chan (some c)]).run Try.prog w = .ok (.value (.tuple #[])) (w.shut c n n tm) ∧
    (invoke (.builtin .close #[74] 0 #[false]) #[.chan (some c)]).events Try.prog w #[] = closeEs c := by
  have h' : w.heap[c]? = some (.chan 0 #[] false n n tm) := h
  constructor
  · simp [go_sem, run_close_open _ _ h', World.shut]
  · simp [go_sem, events_close_open _ _ h', closeEs]
noncomputable def outg (T : Array Value) (ds : List Deferred) : Goroutine := G { (baseD 29).at ⟨T, ds⟩ [] with mode := .returning } [frB]
theorem quits_due (T : Array Value) : QuitsIn Try.prog 2 (outg T []) := by
  refine .inr ⟨rfl, G frB [], fun w => ?_, .inr ⟨rfl, { frame := frB, callers := [], status := .finished, dying := none }, fun w => ?_, rfl⟩⟩
  · have hf := Try.func29
    have hr : Try.f29.results = #[] := by kernel_rfl
    simp [outg, G, stepG, unwind, doReturn, Frame.at, baseD, frB, hf, results, hr, seen, GStep.after]
    rfl
  · simp [G, frB, stepG, unwind, Frame.catches, goexitEntry]
    rfl
theorem atC_due (T : Array Value) (c : Nat) (w : World) : AtC Try.prog c (outg T [clo (.chan (some c))]) (outg T []) w := by
  refine ⟨rfl, rfl, fun n tm h => ?_, 2, quits_due T⟩
  obtain ⟨h1, h2⟩ := run_close c n tm h
  have hs : seen Try.prog 29 (closeEs c) = closeEs c := seen_eq (by kernel_rfl) (by simp [closeEs])
  simp [outg, G, stepG, unwind, callDeferred, Frame.at, baseD, clo, h1, h2, hs, GStep.after]

/-- What is due of the elements from i on. -/
def dueL (id at_ : Nat → Int) (now : Int) (n i : Nat) : List Value := ((List.range' i (n - i)).filter fun j => decide (at_ j ≤ now)).map fun j => .int .i64 (id j)
theorem dueL_none {id at_ : Nat → Int} {now : Int} {n i : Nat} (h : ∀ l, i ≤ l → l < n → ¬ at_ l ≤ now) : dueL id at_ now n i = [] := by
  unfold dueL
  rw [List.filter_eq_nil_iff.2 (fun j hj => by
    have := List.mem_range'_1.1 hj
    simpa using h j this.1 (by omega))]
  rfl
theorem dueL_first {id at_ : Nat → Int} {now : Int} {n j : Nat} (hj : j < n) (ha : at_ j ≤ now) : ∀ {i : Nat}, i ≤ j → (∀ l, i ≤ l → l < j → ¬ at_ l ≤ now) → dueL id at_ now n i = .int .i64 (id j) :: dueL id at_ now n (j + 1) := by
  intro i hi h
  induction hd : j - i generalizing i with
  | zero =>
    obtain rfl : i = j := by omega
    unfold dueL
    rw [show n - i = (n - (i + 1)) + 1 by omega, List.range'_succ, List.filter_cons, if_pos (by simpa using ha)]
    rfl
  | succ d ih =>
    have : dueL id at_ now n i = dueL id at_ now n (i + 1) := by
      unfold dueL
      rw [show n - i = (n - (i + 1)) + 1 by omega, List.range'_succ, List.filter_cons, if_neg (by simpa using h i (Nat.le_refl _) (by omega))]
    rw [this]
    exact ih (by omega) (fun l h1 h2 => h l (by omega) h2) (by omega)

theorem atS_due {b : Frame} (hb : b.kind ≠ .early) {T : Array Value} {ds : List Deferred} {c : Nat} {v : Value} (h24 : T.getD 24 undef = .chan (some c)) (h26 : T.getD 26 undef = v) (K : List Item) (cs : List Frame) (w : World) :
    AtS Try.prog c v (G (b.at ⟨T, ds⟩ (.inRegion r7 [3] :: K)) cs) (core (G (b.at ⟨T, ds⟩ (.inRegion r7 [3] :: K)) cs)) w := by
  refine ⟨rfl, .tuple #[], ?_⟩
  have hx : (⟨T, ds⟩ : Act).eval (.tmp 24) = .chan (some c) := h24
  have hy : (⟨T, ds⟩ : Act).eval (.tmp 26) = v := h26
  have ho : r7[3]? = some o7d := rfl
  have hop : o7d.op = .send (.tmp 24) (.tmp 26) := rfl
  rw [stepG_comm (cases := #[scase c v (.tuple #[])]) (blocking := true) (shape := .send) (w' := w) ho (wantedN rfl _) hb (by simp [execOp, hop, hx, hy, scase])]
  have he : (execOp (⟨T, ds⟩ : Act).eval o7d).events Try.prog w #[] = #[] := by
    unfold execOp
    simp only [hop]
    rfl
  unfold listed
  rw [he]
  simp [seen, core_G]
theorem served_due (b : Frame) (T : Array Value) (ds : List Deferred) (K : List Item) (cs : List Frame) : Go.Conc.served (core (G (b.at ⟨T, ds⟩ (.inRegion r7 [3] :: K)) cs)) undef = G (b.at ⟨T, ds⟩ (.inRegion r7 [] :: K)) cs := by
  rw [core_G, served_G]
  rfl

abbrev dueK : List Item := .inBlock 1 :: .code (.region 8 r8 false) :: .inLoop dueLoop :: .inBlock 0 :: []
section
variable {c g n cap : Nat} {id at_ : Nat → Int} {now : Int}
theorem good2 {s s' : GW} (h : Good (own2 c) g n id at_ s) (hr : RB2 s s') : Good (own2 c) g n id at_ s' := h.rely (own2 c) hr
theorem end_due {σ : Type} {wd : σ → World} {R : σ → σ → Prop} {D : σ → Array Event → σ → Prop} (O : Go.Proofs.Ytnphcnhejgpjgaa.Co.Own wd R D) {Stop : Goroutine → σ → Prop} {T : Array Value} {ds : List Deferred} {s : σ} (hs : O.ok s) (h : ∀ s', Stop (outg T ds) s') :
    Tree Try.prog false wd R D noBig Stop (G ((baseD 29).at ⟨T, ds⟩ []) [frB]) s :=
  own_ctl O rfl hs (fun _ => stepG_end) fun s1 _ _ => .stop fun s2 _ => h s2

theorem sends2 (hn : n ≤ 1000000000000000000) : ∀ (m i : Nat) (T : Array Value) (s : GW), n - i = m → i < n → Good (own2 c) g n id at_ s → LT T now (.chan (some c)) (.slice (some ⟨g, 0, none⟩) n cap) n i →
    SendsB Try.prog c (dueL id at_ now n (i + 1)) (G ((baseD 29).at ⟨T, [clo (.chan (some c))]⟩ (.inRegion r7 [] :: dueK)) [frB]) s := by
  intro m
  induction m using Nat.strongRecOn with
  | _ m ih =>
    intro i T s hm hi hg hT
    have hb : (baseD 29).kind ≠ .early := by simp [baseD]
    cases hL : dueL id at_ now n (i + 1) with
    | nil =>
      refine after_send (own2 c) hb hn hi T s hg hT (fun j h1 h2 h3 h4 => ?_) fun h1 s' T' hg' hT' => end_due (own2 c) hg'.ok fun s2 => ⟨_, atC_due T' c s2.w⟩
      rw [dueL_first h2 h4 (show i + 1 ≤ j from h1) fun l h5 h6 => h3 l (by omega) h6] at hL
      cases hL
    | cons v vs =>
      refine after_send (own2 c) hb hn hi T s hg hT (fun j h1 h2 h3 h4 s' T' hg' hT' p24 p26 => ?_) fun h1 s' T' hg' hT' => ?_
      · rw [dueL_first h2 h4 (show i + 1 ≤ j from h1) fun l h5 h6 => h3 l (by omega) h6] at hL
        obtain ⟨rfl, rfl⟩ := List.cons.inj hL
        refine .stop fun s₁ hr => ⟨atS_due hb p24 p26 _ _ _, fun s2 hr2 => ?_⟩
        rw [served_due]
        exact ih (n - j) (by omega) j T' s2 rfl h2 (good2 (good2 hg' hr) hr2) hT'
      · rw [dueL_none fun l h5 h6 => h1 l (by omega) h6] at hL
        cases hL

theorem good12 {W w : World} (hc : c < W.heap.size) (h : Good (own1f W c) g n id at_ w) : Good (own2 c) g n id at_ ⟨w, newO W w⟩ :=
  ⟨⟨fun x => absurd x.1 (Nat.not_le.2 hc), Nat.lt_of_lt_of_le hc h.ok⟩, ⟨h.mine, h.lt⟩, h.lt, h.cells⟩

/-- Without FK. -/
def StB1' (c : Nat) (W : World) : List Value → Goroutine → World → Prop
  | [], gb, w => ∃ g₂, AtC Try.prog c gb g₂ w
  | v :: vs, gb, w => AtS Try.prog c v gb (core gb) w ∧ ∀ s2, RB2 ⟨w, newO W w⟩ s2 → SendsB Try.prog c vs (Go.Conc.served (core gb) undef) s2
theorem stB1_of {W : World} : ∀ {vs : List Value} {gb : Goroutine} {w : World}, FK W c w ∧ StB1' c W vs gb w → StB1 Try.prog c W vs gb w
  | [], _, _, h => h
  | _ :: _, _, _, h => h

theorem sends1 {W : World} (hc : c < W.heap.size) (hn : n ≤ 1000000000000000000) {T : Array Value} {w : World} (hg : Good (own1f W c) g n id at_ w) (hT : LT T now (.chan (some c)) (.slice (some ⟨g, 0, none⟩) n cap) n 0) :
    Tree Try.prog false _root_.id AtRel (D1 W c) noBig (StB1' c W (dueL id at_ now n 0)) (G ((baseD 29).at ⟨T, [clo (.chan (some c))]⟩ [.code (.block 0 (.loop dueLoop))]) [frB]) w := by
  have hb : (baseD 29).kind ≠ .early := by simp [baseD]
  cases hL : dueL id at_ now n 0 with
  | nil =>
    refine loop_start (own1f W c) hb hn T w hg hT (fun j h2 h3 h4 => ?_) fun h1 s' T' hg' hT' => end_due (own1f W c) hg'.ok fun s2 => ⟨_, atC_due T' c s2⟩
    rw [dueL_first h2 h4 (Nat.zero_le j) fun l h5 h6 => h3 l h6] at hL
    cases hL
  | cons v vs =>
    refine loop_start (own1f W c) hb hn T w hg hT (fun j h2 h3 h4 s' T' hg' hT' p24 p26 => ?_) fun h1 s' T' hg' hT' => ?_
    · rw [dueL_first h2 h4 (Nat.zero_le j) fun l h5 h6 => h3 l h6] at hL
      obtain ⟨rfl, rfl⟩ := List.cons.inj hL
      refine .stop fun s₁ hr => ⟨atS_due hb p24 p26 _ _ _, fun s2 hr2 => ?_⟩
      rw [served_due]
      exact sends2 hn _ j T' s2 rfl h2 (good2 (good12 hc (hg'.rely (own1f W c) hr)) hr2) hT'
    · rw [dueL_none fun l h5 h6 => h1 l h6] at hL
      cases hL
end
end Go.Proofs.Ytnphcnhejgpjgaa.Abs
end
section
namespace Go.Proofs.Ytnphcnhejgpjgaa.Abs
open Go.Proofs.Ytnphcnhejgpjgaa.Co Go.Conc
open Go.RowKit Go.Proofs
theorem dueEnd_eq : dueEnd = .seq (.region 3 r3 false) (.block 0 (.loop dueLoop)) := by kernel_rfl
def idAt (tl : List GTimersTimer) (j : Nat) : Int := (tl[j]?.map (·.ID)).getD 0
def atAt (tl : List GTimersTimer) (j : Nat) : Int := (tl[j]?.map (·.At)).getD 0
/-- What is due, in its order. -/
def dueV (tl : List GTimersTimer) (now : Int) : List Value := (tl.filter fun x => decide (x.At ≤ now)).map fun x => .int .i64 x.ID
theorem dueL_eq (tl : List GTimersTimer) (now : Int) : dueL (idAt tl) (atAt tl) now tl.length 0 = dueV tl now := by
  have key : ∀ (l : List GTimersTimer) (k : Nat), tl.drop k = l → dueL (idAt tl) (atAt tl) now tl.length k = dueV l now := by
    intro l
    induction l with
    | nil =>
      intro k h
      have : tl.length ≤ k := List.drop_eq_nil_iff.1 h
      unfold dueL dueV
      rw [show tl.length - k = 0 by omega]
      rfl
    | cons x l ih =>
      intro k h
      have hlt : k < tl.length := by
        rcases Nat.lt_or_ge k tl.length with h' | h'
        · exact h'
        · rw [List.drop_eq_nil_iff.2 h'] at h; cases h
      have hx : tl[k]? = some x := by
        have := congrArg (·[0]?) h
        simpa [List.getElem?_drop] using this
      have hl : tl.drop (k + 1) = l := by
        have := congrArg List.tail h
        simpa [List.tail_drop] using this
      have hi := ih (k + 1) hl
      unfold dueL dueV at hi ⊢
      rw [show tl.length - k = (tl.length - (k + 1)) + 1 by omega, List.range'_succ, List.filter_cons, List.filter_cons]
      have ha : atAt tl k = x.At := by simp [atAt, hx]
      have hid : idAt tl k = x.ID := by simp [idAt, hx]
      rw [ha]
      split
      · rw [List.map_cons, List.map_cons, hi, hid]
      · exact hi
  exact key tl 0 rfl

section
variable {σ : Type} {wd : σ → World} {R : σ → σ → Prop} {D : σ → Array Event → σ → Prop} (O : Go.Proofs.Ytnphcnhejgpjgaa.Co.Own wd R D) {Stop : Goroutine → σ → Prop} {main : Bool}
/-- The loop's end at once, whatever the row. -/
theorem loop_none {vv : Value} {now : Int} {vc : Value} {T : Array Value} {s : σ} {b : Frame} {ds : List Deferred} {K : List Item} {cs : List Frame} (hb : b.kind ≠ .early)
    (hs : O.ok s) (hT : LT T now vc vv 0 0) (h : ∀ s' T', O.ok s' → Tree Try.prog main wd R D noBig Stop (G (b.at ⟨T', ds⟩ K) cs) s') :
    Tree Try.prog main wd R D noBig Stop (G (b.at ⟨T, ds⟩ (.code (.block 0 (.loop dueLoop)) :: K)) cs) s := by
  refine own_ctl O rfl hs (fun _ => stepG_block) fun s1 k1 r1 => ?_
  replace hs := O.okU s1 (wd s1) (Nat.le_refl _) k1
  refine own_ctl O rfl hs (fun _ => stepG_loop) fun s1 k1 r1 => ?_
  replace hs := O.okU s1 (wd s1) (Nat.le_refl _) k1
  refine own_ctl O rfl hs (g' := G (b.at ⟨T, ds⟩ (.code (.region 4 r4 false) :: .code (.seq (.cond (.tmp 17) .skip (.exit 0)) (.seq (.block 1 (.seq (.region 5 r5 false) (.seq (.region 6 r6 false) (.cond (.tmp 23) (.region 7 r7 false) .skip)))) (.region 8 r8 false))) :: .inLoop dueLoop :: .inBlock 0 :: K)) cs) (fun _ => stepG_seq) fun s1 k1 r1 => ?_
  replace hs := O.okU s1 (wd s1) (Nat.le_refl _) k1
  refine own_ctl O rfl hs (fun _ => stepG_region) fun s1 k1 r1 => ?_
  replace hs := O.okU s1 (wd s1) (Nat.le_refl _) k1
  refine own_val O (v := .bool false) hs (o := o4a) rfl (wantedN rfl _) hb (fun w => ?_) fun s1 k1 r1 => ?_
  · have := du_lss (a := ⟨T, ds⟩) (dst := some 17) (ty := 0) (pos := "timers.go:80") (af := #[]) (g := none) (t := 3) (u := 3) (x := .tmp 16) (y := .tmp 15) (m := (0 : Nat)) (n := (0 : Nat)) hT.t16 hT.t15 w
    have e : decide (((0 : Nat) : Int) < ((0 : Nat) : Int)) = false := by simp
    rw [e] at this
    exact this
  replace hs := O.okU s1 (wd s1) (Nat.le_refl _) k1
  refine own_ctl O rfl hs (fun _ => stepG_region_end) fun s1 k1 r1 => ?_
  replace hs := O.okU s1 (wd s1) (Nat.le_refl _) k1
  refine own_ctl O rfl hs (fun _ => stepG_seq) fun s1 k1 r1 => ?_
  replace hs := O.okU s1 (wd s1) (Nat.le_refl _) k1
  refine own_ctl O rfl hs (fun _ => stepG_cond (t := false) (by show (T.setIfInBounds 17 (.bool false)).getD 17 undef = _; rw [getD_pt (by rw [hT.size]; decide), if_pos rfl])) fun s1 k1 r1 => ?_
  replace hs := O.okU s1 (wd s1) (Nat.le_refl _) k1
  refine own_ctl O rfl hs (fun _ => stepG_exit (k' := K) rfl) fun s1 k1 r1 => ?_
  exact h _ _ (O.okU s1 (wd s1) (Nat.le_refl _) k1)
end

theorem rep_int {w : World} {S : Stab} {k : IntKind} {n : Int} {v : Value} (h : Rep w S (.i k n) v) : v = .int k n := by cases h; rfl

/-- The child, whole, up to its first send or its close. -/
theorem child_ok {W : World} {S : Stab} {c : Nat} {v0 : Value} {now : Int} {xs tl : List GTimersTimer} (hc : c < W.heap.size) (hin : InH W S) (hv : Rep W S (.sl xs.length (xs.flatMap eGTimersTimer)) v0) (hn : xs.length ≤ 1000000000000000000)
    (hcl : m26_slices_Cloneo xs = some xs) (hu : ∀ zs : List GTimersTimer, zs.Perm xs → zs.Pairwise (fun a b => a.At < b.At ∨ a.At = b.At ∧ a.ID ≤ b.ID) → zs = tl) (hlen : tl.length = xs.length) :
    Tree Try.prog false id AtRel DN noBig (StB1 Try.prog c W (dueV tl now)) (born (duec v0 (.int .i64 now) (.chan (some c)))) W := by
  refine due_born (Z := StB1 Try.prog c W (dueV tl now)) ?_
  refine due_first (Z := StB1 Try.prog c W (dueV tl now)) hin hv hn hcl hu hlen fun w' S' v vals h1 h2 h3 hin' hls hown hfr => ?_
  have hF : FK W c w' := ⟨h1, h2, fun b hb _ => h3 b hb⟩
  rw [dueEnd_eq]
  refine Tree.mono (Stop := fun g w => FK W c w ∧ StB1' c W (dueV tl now) g w) (fun g s h => stB1_of h) (tree_fk ?_ hF)
  have hb : (baseD 29).kind ≠ .early := by simp [baseD]
  have g1 : (dueT2 v0 (.int .i64 now) (.chan (some c)) v).getD 1 undef = .int .i64 now := by simp [dueT2, dueT, Act.put]
  have g2 : (dueT2 v0 (.int .i64 now) (.chan (some c)) v).getD 2 undef = .chan (some c) := by simp [dueT2, dueT, Act.put]
  have g6 : (dueT2 v0 (.int .i64 now) (.chan (some c)) v).getD 6 undef = v := by simp [dueT2, dueT, Act.put]
  have gz : (dueT2 v0 (.int .i64 now) (.chan (some c)) v).size = 28 := by simp [dueT2, dueT, Act.put]
  generalize dueT2 v0 (.int .i64 now) (.chan (some c)) v = T at g1 g2 g6 gz
  have hok : (own1f W c).ok w' := h2
  rw [← dueL_eq]
  rcases Nat.eq_zero_or_pos tl.length with h0 | hpos
  · -- nothing is there
    have hnil : dueL (idAt tl) (atAt tl) now tl.length 0 = [] := dueL_none fun l h5 h6 => by omega
    rw [hnil]
    obtain ⟨vb, cap, rfl⟩ : ∃ vb cap, v = .slice vb 0 cap := by
      rcases hown.2 with ⟨hv', _⟩ | ⟨g, cap, cur, hv', _⟩
      · exact ⟨_, _, hv'⟩
      · exact ⟨_, _, by rw [hv', h0]⟩
    refine due_head (own1f W c) hb (fun s => (own1f W c).ok s) (fun s s' k hr => (own1f W c).okU s' _ (Nat.le_refl _) ((own1f W c).okR s s' hr k)) (fun s h => h) hok gz g1 g2 g6 fun s' T' hs hT => ?_
    refine loop_none (own1f W c) hb hs hT fun s2 T2 hs2 => ?_
    exact end_due (own1f W c) hs2 fun s3 => ⟨_, atC_due T2 c s3⟩
  · obtain ⟨g, cap, cur, rfl, hge, hh, hcap, hmax, hcs, htake⟩ : ∃ g cap cur, v = .slice (some ⟨g, 0, none⟩) tl.length cap ∧ 0 ≤ g ∧ w'.heap[g]? = some (.cells cur 61 (0, 0)) ∧ tl.length ≤ cap ∧ cap ≤ maxLen ∧ cur.size = cap * 2 ∧ cur.toList.take (tl.length * 2) = vals := by
      rcases hown.2 with ⟨_, hn0⟩ | h
      · omega
      · exact h
    letI : Env := EB
    have hcell : ∀ j, j < tl.length → w'.cell? ⟨g, j * 2, none⟩ = some (.int .i64 (idAt tl j)) ∧ w'.cell? ⟨g, j * 2 + 1, none⟩ = some (.int .i64 (atAt tl j)) := by
      intro j hj
      have hx : tl[j]? = some tl[j] := List.getElem?_eq_getElem hj
      have l0 : (tl.flatMap eGTimersTimer)[j * 2]? = some (.i .i64 tl[j].ID) := by
        have := get_flat (g := eGTimersTimer) (k := 2) (fun _ => rfl) tl (j := j) (i := 0) (by decide) hj
        simpa [eGTimersTimer] using this
      have l1 : (tl.flatMap eGTimersTimer)[j * 2 + 1]? = some (.i .i64 tl[j].At) := by
        have := get_flat (g := eGTimersTimer) (k := 2) (fun _ => rfl) tl (j := j) (i := 1) (by decide) hj
        simpa [eGTimersTimer] using this
      have e0 : idAt tl j = tl[j].ID := by simp [idAt, hx]
      have e1 : atAt tl j = tl[j].At := by simp [atAt, hx]
      obtain ⟨u0, hu0, r0⟩ := hls.get l0
      obtain ⟨u1, hu1, r1⟩ := hls.get l1
      have := rep_int r0
      subst this
      have := rep_int r1
      subst this
      have at_ : ∀ i u, vals[i]? = some u → w'.cell? ⟨g, i, none⟩ = some u := by
        intro i u h
        rw [← htake, List.getElem?_take] at h
        split at h
        · simp only [World.cell?, hh]
          simpa using h
        · cases h
      rw [e0, e1]
      exact ⟨at_ _ _ hu0, at_ _ _ hu1⟩
    have hg : Good (own1f W c) g tl.length (idAt tl) (atAt tl) w' := ⟨hok, hfr g rfl, (Array.getElem?_eq_some_iff.1 hh).1, hcell⟩
    refine due_head (own1f W c) hb (fun s => Good (own1f W c) g tl.length (idAt tl) (atAt tl) s) (fun s s' k hr => k.same (own1f W c) hr) (fun s h => h.ok) hg gz g1 g2 g6 fun s' T' hs hT => ?_
    exact sends1 hc (by rw [hlen]; exact hn) hs hT
end Go.Proofs.Ytnphcnhejgpjgaa.Abs
end
section
namespace Go.Proofs.Ytnphcnhejgpjgaa.Abs
open Go.Proofs.Ytnphcnhejgpjgaa.Co Go.Conc
open Go.RowKit
theorem own_tab {o : Obj} (h : isTab o = true) : isOwn o = true := by cases o <;> first | rfl | cases h
section
variable [Env]
omit [Env] in
theorem Rel.agree {c : Ctx} {st : AS} {a : Act} {w w' w0' : World} {S : Stab} {H : Nat → Value} (r : Rel c st a w S H)
    (hb : ∀ (p : Nat) (b : Blk) (g : Nat), st.m[p]? = some b → b.own (H p) = some g → w'.heap[g]? = w.heap[g]?) (hs : ∀ b i, S b i → w'.heap[b]? = w.heap[b]?) (hsz : w.heap.size ≤ w'.heap.size) (hsz0 : w0'.heap.size = c.w0.heap.size)
    (hex : ExtX c.X w0' c.S0 w' S) : Rel { c with w0 := w0' } st a w' S H := by
  have hk : ∀ b i, S b i → S b i ∧ w'.cell? ⟨b, i, none⟩ = w.cell? ⟨b, i, none⟩ := fun b i h => ⟨h, World.cell?_of_block (a := ⟨b, i, none⟩) (hs b i h)⟩
  have hg : ∀ l v, GRep w S st.m H l v → GRep w' S st.m H l v := fun l v => GRep.mono hk (Nat.le_refl _) (fun _ _ => rfl) (fun p e sz k cs _ hm => ⟨k, cs, hm, rfl⟩)
  have hin : InH w' S := by
    refine ⟨fun b i h => Nat.lt_of_lt_of_le (r.sl.1 b i h) hsz, r.sl.2.1.mono hk, fun g i hi hc => ?_⟩
    rw [(hk g i hi).2] at hc
    obtain ⟨⟨cur, e, h1, h2⟩, h3⟩ := r.sl.2.2 g i hi hc
    exact ⟨⟨cur, e, (hs g i hi).trans h1, h2⟩, fun j hj => ((hk g j hj).2).trans (h3 j hj)⟩
  refine ⟨r.nt, r.df, fun i => AVR.mono hg (r.tm i), fun p b hp => ?_, fun p b g hp ho => ?_, r.inj, r.sb, hin, hex, r.kl, r.kh, r.kr, r.ku⟩
  · have hr := r.bl p b hp
    have hbb := hb p b
    cases b with
    | dead => trivial
    | hole => exact hr
    | obj g mk cs =>
      obtain ⟨h1, vs, o, h2, h3, h4, h5⟩ := hr
      exact ⟨h1, vs, o, (hbb g hp (by rw [h1]; rfl)).trans h2, h3, h4, h5.mono (fun l v => Rep.mono hk)⟩
    | tab mk cs =>
      obtain ⟨g, h1, vs, o, h2, h3, h4, h5⟩ := hr
      exact ⟨g, h1, vs, o, (hbb g hp (by rw [h1]; rfl)).trans h2, h3, h4, h5.mono (fun l v => Rep.mono hk)⟩
    | box cs =>
      obtain ⟨g, e, cur, h1, h2, h3⟩ := hr
      exact ⟨g, e, cur, h1, (hbb g hp (by rw [h1]; rfl)).trans h2, h3.mono hg⟩
    | arr e sz k cs =>
      obtain ⟨h0, hk1, n, vals, h1, h2, h3⟩ := hr
      exact ⟨h0, hk1, n, vals, ownsRow_of_block h1 (fun g hgo => hbb g hp hgo), h2.mono (fun l v => Rep.mono hk), h3⟩
  · have := r.lo p b g hp ho
    refine ⟨?_, Nat.lt_of_lt_of_le this.2 hsz⟩
    show w0'.heap.size ≤ g ∨ c.X g
    rw [hsz0]
    exact this.1

omit [Env] in
/-- An own block is a row, a map, a channel, or what runs through a map. -/
theorem Rel.own_obj {c : Ctx} {st : AS} {a : Act} {w : World} {S : Stab} {H : Nat → Value} (r : Rel c st a w S H) {p g : Nat} {b : Blk} (hp : st.m[p]? = some b) (ho : b.own (H p) = some g) : ∃ o, w.heap[g]? = some o ∧ isOwn o = true := by
  have hr := r.bl p b hp
  cases b with
  | dead => cases ho
  | hole => cases ho
  | obj g' mk cs =>
    obtain ⟨h1, vs, o, h2, h3, _⟩ := hr
    rw [h1] at ho
    cases ho
    exact ⟨o, h2, own_tab h3⟩
  | tab mk cs =>
    obtain ⟨g', h1, vs, o, h2, h3, _⟩ := hr
    rw [h1] at ho
    cases ho
    exact ⟨o, h2, own_tab h3⟩
  | box cs =>
    obtain ⟨g', e, cur, h1, h2, h3⟩ := hr
    rw [h1] at ho
    cases ho
    exact ⟨_, h2, rfl⟩
  | arr e sz k cs =>
    obtain ⟨h0, hk1, n, vals, h1, h2, h3⟩ := hr
    rcases h1.2 with ⟨hv, _⟩ | ⟨g', cap, cur, hv, _, hh, _⟩
    · have ho' : ownOf (H p) = some g := ho
      rw [hv] at ho'; cases ho'
    · have ho' : ownOf (H p) = some g := ho
      rw [hv] at ho'
      cases ho'
      exact ⟨_, hh, rfl⟩
omit [Env] in
/-- A stable cell lies in a row. -/
theorem InH.row {w : World} {S : Stab} (h : InH w S) {b i : Nat} (hs : S b i) : ∃ cs e z, w.heap[b]? = some (.cells cs e z) := by
  cases hc : w.cell? ⟨b, i, none⟩ with
  | none =>
    obtain ⟨⟨cur, e, h1, _⟩, _⟩ := h.2.2 b i hs hc
    exact ⟨_, _, _, h1⟩
  | some v =>
    unfold World.cell? at hc
    split at hc
    · rename_i cs e z hh
      exact ⟨cs, e, z, hh⟩
    · cases hc
omit [Env] in
theorem hid_own {H : Nat → Prop} {w : World} {b : Nat} {o : Obj} (h : (hide H w).heap[b]? = some o) (ho : isOwn o = true) : ¬ H b := by
  intro hb
  rw [hide_hid hb] at h
  cases hw : w.heap[b]? with
  | none => rw [hw] at h; cases h
  | some o' => rw [hw] at h; cases h; cases ho
end

/-- What goroutine 0 knows where the second mode begins, in what it sees. -/
theorem relView [Env] {C : Ctx} {st : AS} {a : Act} {W w : World} {S : Stab} {H : Nat → Value} {c n : Nat} {tm : Bool} (r : Rel C st a W S H) (hX : ∀ b, ¬ C.X b) (hc0 : C.w0.heap.size ≤ c) (ho : OpenAt c W n tm)
    (hown : ∀ (p : Nat) (b : Blk) (g : Nat), st.m[p]? = some b → b.own (H p) = some g → g ≠ c) (hF : FK W c w) : Rel { C with w0 := hide (Vw W) C.w0 } st a (view c W ⟨w, newO W w⟩) S H := by
  have hcW := open_lt ho
  have hle := r.ex.size
  -- what is W's, but the channel and views, is seen as it was
  have see : ∀ b, b < W.heap.size → b ≠ c → ¬ Vw W b → (view c W ⟨w, newO W w⟩).heap[b]? = W.heap[b]? := fun b hb hne hv => by
    rw [view, hide_not]
    · exact hF.2.2 b hb hne
    · rintro (h | h | h)
      · exact absurd h.1 (Nat.not_le.2 hb)
      · exact hne h
      · exact hv h
  have notvw : ∀ b o, W.heap[b]? = some o → isOwn o = true → ¬ Vw W b := fun b o h1 h2 ⟨x, t, h3⟩ => by rw [h1] at h3; cases h3; cases h2
  have sS : ∀ b i, S b i → (view c W ⟨w, newO W w⟩).heap[b]? = W.heap[b]? := fun b i hs => by
    obtain ⟨cs, e, z, hh⟩ := r.sl.row hs
    refine see b (r.sl.1 b i hs) (fun e => ?_) (notvw b _ hh rfl)
    subst e
    rw [OpenAt, hh] at ho
    cases ho
  refine r.agree (fun p b g hp hg => ?_) sS (by rw [view, hide_size]; exact hF.2.1) (hide_size _) ⟨hF.1.2.1.trans r.ex.os, hF.1.1.trans r.ex.tape, hF.1.2.2.trans r.ex.output, by rw [view, hide_size, hide_size]; exact Nat.le_trans hle hF.2.1, fun b hb _ => ?_, r.ex.sub, fun b i hs => ?_, fun b i hb hx hs => r.ex.back b i (by rw [hide_size] at hb; exact hb) hx hs⟩
  · obtain ⟨o, h1, h2⟩ := r.own_obj hp hg
    exact see g (r.lo p b g hp hg).2 (hown p b g hp hg) (notvw g o h1 h2)
  · rw [hide_size] at hb
    have hne : b ≠ c := fun e => by omega
    have hbW : b < W.heap.size := Nat.lt_of_lt_of_le hb hle
    have hw0 := r.ex.blk b hb (hX b)
    by_cases hv : Vw W b
    · have hH : Hid c W ⟨w, newO W w⟩ b := .inr (.inr hv)
      rw [view, hide_hid hv, hide_hid hH, Array.getElem?_eq_getElem hb, Array.getElem?_eq_getElem (Nat.lt_of_lt_of_le hbW hF.2.1)]
      rfl
    · rw [see b hbW hne hv, hide_not hv, hw0]
  · have hS := r.ex.sub b i hs
    obtain ⟨cs, e, z, hh⟩ := r.sl.row hS
    have h1 : (view c W ⟨w, newO W w⟩).cell? ⟨b, i, none⟩ = W.cell? ⟨b, i, none⟩ := World.cell?_of_block (a := ⟨b, i, none⟩) (sS b i hS)
    have h2 : (hide (Vw W) C.w0).cell? ⟨b, i, none⟩ = C.w0.cell? ⟨b, i, none⟩ := World.cell?_of_block (a := ⟨b, i, none⟩) (hide_not (notvw b _ hh rfl))
    rw [h1, h2]
    exact r.ex.stab b i hs

/-- .. and back. -/
theorem relShow [Env] {C : Ctx} {st st0 : AS} {a a0 : Act} {W : World} {S S0 : Stab} {H H0 : Nat → Value} {c : Nat} {s : GW} (r0 : Rel C st0 a0 W S0 H0) (hX : ∀ b, ¬ C.X b) (hc0 : C.w0.heap.size ≤ c) (k : Ok2 c W s)
    (r : Rel { C with w0 := hide (Vw W) C.w0 } st a (view c W s) S H) : Rel C st a s.w S H := by
  have see : ∀ b, ¬ Hid c W s b → s.w.heap[b]? = (view c W s).heap[b]? := fun b h => (hide_not h).symm
  have sS : ∀ b i, S b i → ¬ Hid c W s b := fun b i hs => by
    obtain ⟨cs, e, z, hh⟩ := r.sl.row hs
    exact hid_own hh rfl
  have hsz : (view c W s).heap.size = s.w.heap.size := hide_size _
  have hle := r0.ex.size
  have res := r.agree (w' := s.w) (w0' := C.w0) (fun p b g hp hg => by
    obtain ⟨o, h1, h2⟩ := r.own_obj hp hg
    exact see g (hid_own h1 h2)) (fun b i hs => see b (sS b i hs)) (Nat.le_of_eq hsz) (hide_size _).symm ⟨r.ex.os, r.ex.tape, r.ex.output, by have := r.ex.size; rw [hsz] at this; rw [hide_size] at this; exact this, fun b hb _ => ?_, r.ex.sub, fun b i hs => ?_, fun b i hb hx hs => r.ex.back b i (by show b < (hide (Vw W) C.w0).heap.size; rw [hide_size]; exact hb) hx hs⟩
  · exact res
  · have hbW : b < W.heap.size := Nat.lt_of_lt_of_le hb hle
    have hw0 := r0.ex.blk b hb (hX b)
    by_cases hv : Vw W b
    · exact (k.vs b hv).trans hw0
    · rw [see b (by
        rintro (h | h | h)
        · exact absurd (k.ol b h).1 (Nat.not_le.2 hbW)
        · omega
        · exact hv h)]
      have := r.ex.blk b (by show b < (hide (Vw W) C.w0).heap.size; rw [hide_size]; exact hb) (hX b)
      rw [this]
      exact hide_not hv
  · have hS := r.ex.sub b i hs
    have hn := sS b i hS
    have h1 : s.w.cell? ⟨b, i, none⟩ = (view c W s).cell? ⟨b, i, none⟩ := World.cell?_of_block (a := ⟨b, i, none⟩) (see b hn)
    have h2 : (hide (Vw W) C.w0).cell? ⟨b, i, none⟩ = C.w0.cell? ⟨b, i, none⟩ := World.cell?_of_block (a := ⟨b, i, none⟩) (hide_not fun hv => hn (.inr (.inr hv)))
    rw [h1, ← h2]
    exact r.ex.stab b i hs
end Go.Proofs.Ytnphcnhejgpjgaa.Abs
end
section
namespace Go.Proofs.Ytnphcnhejgpjgaa.Abs
open Go.Proofs.Ytnphcnhejgpjgaa.Co Go.Conc
open Go.Proofs
def tk0 : List Oper := [Oper.mk (some 2) (Go.Op.box 28 (Go.Operand.tmp 0)) 0 "timers.go:88" #[] none, Oper.mk (some 4) (Go.Op.alloc 28) 0 "timers.go:88" #[] none, Oper.mk (some 5) (Go.Op.assign (Go.Operand.const (Go.Value.slice none 0 0))) 35 "timers.go:88" #[] none, Oper.mk (some 6) (Go.Op.assign (Go.Operand.const (Go.Value.int Go.IntKind.i64 0))) 30 "timers.go:88" #[Go.Edge.mk 2 Go.Ground.chain] none]
def tk1 : List Oper := [Oper.mk (some 11) (Go.Op.load 28 (Go.Operand.tmp 2)) 28 "timers.go:89" #[] none, Oper.mk (some 12) (Go.Op.call (Go.Call.mk (Go.Callee.value (Go.Operand.func 20)) #[Go.Operand.tmp 11] #[28])) 4 "timers.go:89" #[Go.Edge.mk 0 Go.Ground.data] none, Oper.mk (some 13) (Go.Op.unOp Go.UnOp.not 4 (Go.Operand.tmp 12)) 4 "timers.go:89" #[Go.Edge.mk 1 Go.Ground.data] none, Oper.mk (some 14) (Go.Op.move (Go.Operand.tmp 13)) 4 "timers.go:89" #[Go.Edge.mk 2 Go.Ground.data, Go.Edge.mk 1 Go.Ground.chain] none, Oper.mk (some 15) (Go.Op.move (Go.Operand.tmp 1)) 3 "timers.go:89" #[Go.Edge.mk 3 Go.Ground.guard] (some (3, false)), Oper.mk (some 16) (Go.Op.binOp Go.BinOp.lss 3 (Go.Operand.tmp 15) (Go.Operand.const (Go.Value.int Go.IntKind.i64 0)) 3) 4 "timers.go:89" #[Go.Edge.mk 4 Go.Ground.data, Go.Edge.mk 3 Go.Ground.guard] (some (3, false)), Oper.mk (some 17) (Go.Op.pick (Go.Operand.tmp 14) (Go.Operand.const (Go.Value.bool true)) (Go.Operand.tmp 16)) 4 "timers.go:89" #[Go.Edge.mk 3 Go.Ground.data, Go.Edge.mk 5 Go.Ground.data] none]
def tk2 : List Oper := [Oper.mk (some 18) (Go.Op.build 28 #[]) 28 "timers.go:90" #[] none, Oper.mk none (Go.Op.store 28 (Go.Operand.tmp 4) (Go.Operand.tmp 18)) 0 "timers.go:90" #[Go.Edge.mk 0 Go.Ground.data, Go.Edge.mk 0 Go.Ground.phase] none, Oper.mk (some 5) (Go.Op.assign (Go.Operand.const (Go.Value.slice none 0 0))) 35 "timers.go:90" #[Go.Edge.mk 1 Go.Ground.chain, Go.Edge.mk 0 Go.Ground.phase, Go.Edge.mk 1 Go.Ground.phase] none, Oper.mk (some 6) (Go.Op.assign (Go.Operand.const (Go.Value.int Go.IntKind.i64 1))) 30 "timers.go:90" #[Go.Edge.mk 2 Go.Ground.chain, Go.Edge.mk 0 Go.Ground.phase, Go.Edge.mk 1 Go.Ground.phase, Go.Edge.mk 2 Go.Ground.phase] none]
def tk3 : List Oper := [Oper.mk (some 19) (Go.Op.move (Go.Operand.tmp 1)) 3 "timers.go:92" #[] none, Oper.mk (some 20) (Go.Op.fieldAddr 28 (Go.Operand.tmp 2) 0) 0 "timers.go:92" #[] none, Oper.mk (some 21) (Go.Op.load 3 (Go.Operand.tmp 20)) 3 "timers.go:92" #[Go.Edge.mk 1 Go.Ground.data] none, Oper.mk (some 22) (Go.Op.binOp Go.BinOp.sub 3 (Go.Operand.const (Go.Value.int Go.IntKind.i64 1099511627776)) (Go.Operand.tmp 21) 3) 3 "timers.go:92" #[Go.Edge.mk 2 Go.Ground.data] none, Oper.mk (some 23) (Go.Op.binOp Go.BinOp.gtr 3 (Go.Operand.tmp 19) (Go.Operand.tmp 22) 3) 4 "timers.go:92" #[Go.Edge.mk 0 Go.Ground.data, Go.Edge.mk 3 Go.Ground.data] none]
def tk4 : List Oper := [Oper.mk (some 24) (Go.Op.build 28 #[]) 28 "timers.go:93" #[] none, Oper.mk none (Go.Op.store 28 (Go.Operand.tmp 4) (Go.Operand.tmp 24)) 0 "timers.go:93" #[Go.Edge.mk 0 Go.Ground.data, Go.Edge.mk 0 Go.Ground.phase] none, Oper.mk (some 5) (Go.Op.assign (Go.Operand.const (Go.Value.slice none 0 0))) 35 "timers.go:93" #[Go.Edge.mk 1 Go.Ground.chain, Go.Edge.mk 0 Go.Ground.phase, Go.Edge.mk 1 Go.Ground.phase] none, Oper.mk (some 6) (Go.Op.assign (Go.Operand.const (Go.Value.int Go.IntKind.i64 11))) 30 "timers.go:93" #[Go.Edge.mk 2 Go.Ground.chain, Go.Edge.mk 0 Go.Ground.phase, Go.Edge.mk 1 Go.Ground.phase, Go.Edge.mk 2 Go.Ground.phase] none]
def tk5 : List Oper := [Oper.mk (some 25) (Go.Op.fieldAddr 28 (Go.Operand.tmp 2) 0) 0 "timers.go:95" #[] none, Oper.mk (some 26) (Go.Op.load 3 (Go.Operand.tmp 25)) 3 "timers.go:95" #[Go.Edge.mk 0 Go.Ground.data] none, Oper.mk (some 27) (Go.Op.move (Go.Operand.tmp 1)) 3 "timers.go:95" #[] none, Oper.mk (some 28) (Go.Op.binOp Go.BinOp.add 3 (Go.Operand.tmp 26) (Go.Operand.tmp 27) 3) 3 "timers.go:95" #[Go.Edge.mk 1 Go.Ground.data, Go.Edge.mk 2 Go.Ground.data] none, Oper.mk (some 29) (Go.Op.fieldAddr 28 (Go.Operand.tmp 2) 1) 0 "timers.go:95" #[] none, Oper.mk (some 30) (Go.Op.load 26 (Go.Operand.tmp 29)) 26 "timers.go:95" #[Go.Edge.mk 4 Go.Ground.data] none, Oper.mk (some 31) (Go.Op.build 28 #[(0, Go.Operand.tmp 28), (1, Go.Operand.tmp 30)]) 28 "timers.go:95" #[Go.Edge.mk 3 Go.Ground.data, Go.Edge.mk 5 Go.Ground.data] none, Oper.mk (some 7) (Go.Op.alloc 28) 0 "timers.go:95" #[] none, Oper.mk none (Go.Op.store 28 (Go.Operand.tmp 7) (Go.Operand.tmp 31)) 0 "timers.go:95" #[Go.Edge.mk 7 Go.Ground.data, Go.Edge.mk 6 Go.Ground.data, Go.Edge.mk 0 Go.Ground.phase, Go.Edge.mk 1 Go.Ground.phase, Go.Edge.mk 2 Go.Ground.phase, Go.Edge.mk 3 Go.Ground.phase, Go.Edge.mk 4 Go.Ground.phase, Go.Edge.mk 5 Go.Ground.phase, Go.Edge.mk 6 Go.Ground.phase, Go.Edge.mk 7 Go.Ground.phase] none]
def tk6 : List Oper := [Oper.mk (some 32) (Go.Op.makeChan 65 (Go.Operand.const (Go.Value.int Go.IntKind.i64 0))) 65 "timers.go:96" #[] none, Oper.mk (some 8) (Go.Op.assign (Go.Operand.tmp 32)) 65 "timers.go:96" #[Go.Edge.mk 0 Go.Ground.data, Go.Edge.mk 0 Go.Ground.phase] none]
def tk7 : List Oper := [Oper.mk (some 33) (Go.Op.fieldAddr 28 (Go.Operand.tmp 2) 1) 0 "timers.go:97" #[] none, Oper.mk (some 34) (Go.Op.load 26 (Go.Operand.tmp 33)) 26 "timers.go:97" #[Go.Edge.mk 0 Go.Ground.data] none, Oper.mk (some 35) (Go.Op.fieldAddr 28 (Go.Operand.tmp 7) 0) 0 "timers.go:97" #[] none, Oper.mk (some 36) (Go.Op.load 3 (Go.Operand.tmp 35)) 3 "timers.go:97" #[Go.Edge.mk 2 Go.Ground.data] none, Oper.mk (some 37) (Go.Op.move (Go.Operand.tmp 8)) 65 "timers.go:97" #[] none, Oper.mk none (Go.Op.go (Go.Call.mk (Go.Callee.value (Go.Operand.func 29)) #[Go.Operand.tmp 34, Go.Operand.tmp 36, Go.Operand.tmp 37] #[26, 3, 74])) 0 "timers.go:97" #[Go.Edge.mk 1 Go.Ground.data, Go.Edge.mk 3 Go.Ground.data, Go.Edge.mk 4 Go.Ground.data] none]
def tk8 : List Oper := [Oper.mk (some 9) (Go.Op.assign (Go.Operand.const (Go.Value.slice none 0 0))) 35 "timers.go:98" #[] none]
def tk9 : List Oper := [Oper.mk (some 38) (Go.Op.move (Go.Operand.tmp 8)) 65 "timers.go:99" #[] none]
def tk10 : List Oper := [Oper.mk (some 39) (Go.Op.recv 65 (Go.Operand.tmp 38) true) 0 "timers.go:99" #[] none, Oper.mk (some 40) (Go.Op.extract (Go.Operand.tmp 39) 1) 4 "timers.go:99" #[Go.Edge.mk 0 Go.Ground.data] none]
def tk11 : List Oper := [Oper.mk (some 41) (Go.Op.extract (Go.Operand.tmp 39) 0) 3 "timers.go:99" #[] none, Oper.mk (some 10) (Go.Op.assign (Go.Operand.tmp 41)) 3 "timers.go:99" #[Go.Edge.mk 0 Go.Ground.data, Go.Edge.mk 0 Go.Ground.phase] none]
def tk12 : List Oper := [Oper.mk (some 42) (Go.Op.move (Go.Operand.tmp 9)) 35 "timers.go:100" #[] none, Oper.mk (some 43) (Go.Op.move (Go.Operand.tmp 10)) 3 "timers.go:100" #[] none, Oper.mk (some 44) (Go.Op.buildSlice 35 1 #[(0, Go.Operand.tmp 43)]) 35 "timers.go:100" #[Go.Edge.mk 1 Go.Ground.data] none, Oper.mk (some 45) (Go.Op.call (Go.Call.mk (Go.Callee.builtin Go.Builtin.append) #[Go.Operand.tmp 42, Go.Operand.tmp 44] #[35, 35])) 35 "timers.go:100" #[Go.Edge.mk 0 Go.Ground.data, Go.Edge.mk 2 Go.Ground.data] none, Oper.mk (some 9) (Go.Op.assign (Go.Operand.tmp 45)) 35 "timers.go:100" #[Go.Edge.mk 3 Go.Ground.data, Go.Edge.mk 3 Go.Ground.chain, Go.Edge.mk 0 Go.Ground.phase, Go.Edge.mk 1 Go.Ground.phase, Go.Edge.mk 2 Go.Ground.phase, Go.Edge.mk 3 Go.Ground.phase] none]
def tk13 : List Oper := [Oper.mk (some 46) (Go.Op.load 28 (Go.Operand.tmp 7)) 28 "timers.go:101" #[] none, Oper.mk (some 47) (Go.Op.move (Go.Operand.tmp 10)) 3 "timers.go:101" #[] none, Oper.mk (some 48) (Go.Op.call (Go.Call.mk (Go.Callee.value (Go.Operand.func 22)) #[Go.Operand.tmp 46, Go.Operand.tmp 47] #[28, 3])) 28 "timers.go:101" #[Go.Edge.mk 0 Go.Ground.data, Go.Edge.mk 1 Go.Ground.data] none, Oper.mk none (Go.Op.store 28 (Go.Operand.tmp 7) (Go.Operand.tmp 48)) 0 "timers.go:101" #[Go.Edge.mk 2 Go.Ground.data, Go.Edge.mk 2 Go.Ground.chain, Go.Edge.mk 0 Go.Ground.phase, Go.Edge.mk 1 Go.Ground.phase, Go.Edge.mk 2 Go.Ground.phase] none]
def tk14 : List Oper := [Oper.mk (some 49) (Go.Op.load 28 (Go.Operand.tmp 7)) 28 "timers.go:103" #[] none, Oper.mk (some 50) (Go.Op.move (Go.Operand.tmp 9)) 35 "timers.go:103" #[Go.Edge.mk 2 (Go.Ground.gcOnly Go.Departure.lateStores)] none, Oper.mk none (Go.Op.store 28 (Go.Operand.tmp 4) (Go.Operand.tmp 49)) 0 "timers.go:103" #[Go.Edge.mk 0 Go.Ground.data, Go.Edge.mk 0 Go.Ground.phase, Go.Edge.mk 1 (Go.Ground.textOnly Go.Departure.lateStores)] none, Oper.mk (some 5) (Go.Op.assign (Go.Operand.tmp 50)) 35 "timers.go:103" #[Go.Edge.mk 1 Go.Ground.data, Go.Edge.mk 2 Go.Ground.chain, Go.Edge.mk 0 Go.Ground.phase, Go.Edge.mk 1 Go.Ground.phase, Go.Edge.mk 2 Go.Ground.phase] none, Oper.mk (some 6) (Go.Op.assign (Go.Operand.const (Go.Value.int Go.IntKind.i64 0))) 30 "timers.go:103" #[Go.Edge.mk 3 Go.Ground.chain, Go.Edge.mk 0 Go.Ground.phase, Go.Edge.mk 1 Go.Ground.phase, Go.Edge.mk 2 Go.Ground.phase, Go.Edge.mk 3 Go.Ground.phase] none]
def tkX : Code := .seq (.cond (.tmp 40) .skip (.exit 0)) (.block 1 (.seq (.region 11 tk11.toArray false) (.seq (.region 12 tk12.toArray false) (.region 13 tk13.toArray false))))
def tkL : Code := .seq (.region 10 tk10.toArray false) tkX
def tkEnd : Code := .seq (.region 14 tk14.toArray false) .ret
def tkRest : Code := .seq (.region 6 tk6.toArray false) (.seq (.region 7 tk7.toArray false) (.seq (.region 8 tk8.toArray false) (.seq (.seq (.region 9 tk9.toArray false) (.block 0 (.loop tkL))) tkEnd)))
def tkP1 : Code := .seq (.region 1 tk1.toArray false) (.cond (.tmp 17) (.seq (.region 2 tk2.toArray false) .ret) .skip)
def tkP3 : Code := .seq (.region 3 tk3.toArray false) (.cond (.tmp 23) (.seq (.region 4 tk4.toArray false) .ret) .skip)
theorem tk_code : Try.f11.body = some (.seq (.region 0 tk0.toArray false) (.seq tkP1 (.seq tkP3 (.seq (.region 5 tk5.toArray false) tkRest)))) := by kernel_rfl
end Go.Proofs.Ytnphcnhejgpjgaa.Abs
end
section
namespace Go.Proofs.Ytnphcnhejgpjgaa.Abs
open Go.Proofs.Ytnphcnhejgpjgaa.Co Go.Conc
open Go.RowKit Go.Proofs
/-- What Tick holds at its receive. -/
abbrev tkS (c : Nat) (gone : List Int) : List (Nat × AV) := [(4, .s (.one (.lp 1 0))), (7, .s (.one (.lp 2 0))), (9, .s (.one (.ls 3 gone.length))), (38, .s (.one (.raw (.chan (some c)))))]
abbrev tkM (a0 next : GTimersTable) (gone : List Int) : List Blk := [.box a0, .box [.i .i64 0, .raw (.slice none 0 0)], .box next, .arr 3 1 0 (gone.flatMap eI)]
/-- Behind a receive. -/
abbrev tkR (c : Nat) (gone : List Int) (v : Int) (ok : Bool) : Nat → AV := upd (updL (fun _ => .top) (tkS c gone)) 39 (.tup [.one (.i .i64 v), .one (.b ok)])

set_option maxRecDepth 100000 in
theorem tkX_go [Env] {w0 : World} {S0 : Stab} {c : Nat} {a0 next next' : GTimersTable} {gone : List Int} {id : Int} (h22 : m22_timers_Clear next id = some next') (hroom : (gone.length + [id].length) * 8 ≤ 140737488355328) {Q : Exit → AS → Prop} :
    AWC Try.prog (Ctx.of w0 S0 51) tkX (thenA (fun st => ∃ ex, MatchL st.t (tkS c (gone ++ [id])) ∧ st.m = tkM a0 next' (gone ++ [id]) ++ ex) Q) ⟨upd (tkR c gone id true) 40 (.s (.one (.b true))), tkM a0 next gone⟩ := by
  unfold tkX
  refine cseq ?_
  refine ccond rfl (fun hc => ?_) (fun hc => by cases hc)
  clear hc
  refine cskip ?_
  refine then_normal ?_
  refine cblock ?_
  refine cseq ?_
  refine cregion ?_
  refine sv rfl (opv_extract rfl rfl) ?_
  refine sv rfl (opv_as rfl) ?_
  refine snil ?_
  refine cseq ?_
  refine cregion ?_
  refine sv rfl (opv_mv rfl) ?_
  refine sv rfl (opv_mv rfl) ?_
  refine sbuild1 rfl Try.underlying35 ei3 rfl rfl (List.all_eq_true.1 rfl) (by decide) ?_
  refine smem [.box a0, .box [.i .i64 0, .raw (.slice none 0 0)], .box next, .arr 3 1 0 (gone.flatMap eI), .arr 3 1 0 ([id].flatMap eI)] rfl ?_
  refine sapp (f := eI) (xs := gone) (us := [id]) rfl Try.underlying35 ei3 ni35 (fun _ => rfl) rfl rfl (.one _ _ _ _ (.ls _ _ _ _ _ _ rfl (flat_len (f := eI) (fun _ => rfl) [id]).symm)) rfl rfl rfl (.sl _ _ _ (flat_len (f := eI) (fun _ => rfl) _)) rfl rfl hroom (by decide) ?_
  refine sv rfl (opv_as rfl) ?_
  refine snil ?_
  refine cregion ?_
  refine sv rfl (opv_loadN ti28 rfl (.lp _ _ _ rfl) (Nat.le_of_ble_eq_true rfl)) ?_
  refine sv rfl (opv_mv rfl) ?_
  refine scall1 rfl fn22 (opnds_cons rfl (opnds_cons rfl opnds_nil)) (pubA_id rfl) (m22_timers_Clear_c h22) ?_
  refine sstore sz28 rfl rfl rfl rfl (Nat.le_of_ble_eq_true rfl) ?_
  refine smem (tkM a0 next' (gone ++ [id]) ++ [.arr 3 1 ([id].flatMap eI).length ([id].flatMap eI)]) rfl ?_
  refine snil0 ?_
  exact ⟨_, ⟨rfl, rfl, rfl, rfl, trivial⟩, rfl⟩
end Go.Proofs.Ytnphcnhejgpjgaa.Abs
end
section
namespace Go.Proofs.Ytnphcnhejgpjgaa.Abs
open Go.Proofs.Ytnphcnhejgpjgaa.Co Go.Conc
open Go.RowKit Go.Proofs
abbrev tkK (k : List Item) : List Item := .code tkX :: .inLoop tkL :: .inBlock 0 :: .code tkEnd :: k
def atRecv (b : Frame) (k : List Item) (cs : List Frame) (a : Act) : Goroutine := G (b.at a (.inRegion tk10.toArray [0, 1] :: tkK k)) cs
def behind (b : Frame) (k : List Item) (cs : List Frame) (a : Act) : Goroutine := G (b.at a (.inRegion tk10.toArray [1] :: tkK k)) cs
section
variable {w0 : World} {S0 : Stab} {a0 : GTimersTable} {b : Frame} {k : List Item} {cs : List Frame} {c : Nat} {W : World}
def Zr (w0 : World) (S0 : Stab) (a0 : GTimersTable) (b : Frame) (k : List Item) (cs : List Frame) (c : Nat) (gone : List Int) (next : GTimersTable) (g : Goroutine) (v : World) : Prop :=
  ∃ a S H, g = atRecv b k cs a ∧ Rel (Ctx.of w0 S0 51) ⟨updL (fun _ => .top) (tkS c gone), tkM a0 next gone⟩ a v S H

theorem eval38 {gone : List Int} {m : List Blk} {a : Act} {w : World} {S : Stab} {H : Nat → Value} (r : Rel (Ctx.of w0 S0 51) ⟨updL (fun _ => .top) (tkS c gone), m⟩ a w S H) : a.eval (.tmp 38) = .chan (some c) := by
  have h := r.tm 38
  have h' : Rep w S (.raw (.chan (some c))) (a.tmps.getD 38 undef) := h
  show a.tmps.getD 38 undef = _
  generalize a.tmps.getD 38 undef = u at h'
  cases h'
  rfl
theorem atR_tk (hb : b.kind ≠ .early) {a : Act} (h : a.eval (.tmp 38) = .chan (some c)) (w : World) : AtR Try.prog c (.int .i64 0) (atRecv b k cs a) w := by
  refine ⟨rfl, ?_⟩
  have ho : tk10.toArray[0]? = some (Oper.mk (some 39) (Go.Op.recv 65 (Go.Operand.tmp 38) true) 0 "timers.go:99" #[] none) := rfl
  have hu := Try.underlying65
  have hz := Try.zeroValue3
  unfold atRecv
  rw [stepG_comm (cases := #[rcase c (.int .i64 0)]) (blocking := true) (shape := .recv true) (w' := w) ho (wantedN rfl _) hb (by
    unfold execOp
    simp [h, run_underlying, hu, hz, rcase, Result.andThen])]
  have he : (execOp a.eval (Oper.mk (some 39) (Go.Op.recv 65 (Go.Operand.tmp 38) true) 0 "timers.go:99" #[] none)).events Try.prog w #[] = #[] := by
    unfold execOp
    simp [h, run_underlying, hu, hz, Result.andThen, Result.evThen]
  unfold listed
  rw [he]
  simp [seen, core_G]
theorem served_tk (a : Act) (v : Value) : Go.Conc.served (core (atRecv b k cs a)) v = behind b k cs (a.put (some 39) v) := by
  unfold atRecv behind
  rw [core_G, served_G]
  rfl

theorem tkX_ok : okc tkX = true ∧ frc tkX = true := ⟨by kernel_rfl, by kernel_rfl⟩
theorem tk_seg (hb : b.kind ≠ .early) {next next' : GTimersTable} {gone : List Int} {id : Int} (h22 : m22_timers_Clear next id = some next') (hroom : (gone.length + [id].length) * 8 ≤ 140737488355328)
    {a : Act} {v : World} {S : Stab} {H : Nat → Value} (r : Rel (Ctx.of w0 S0 51) ⟨tkR c gone id true, tkM a0 next gone⟩ a v S H) :
    @Env.Tr (env2 c W) Try.prog (Zr w0 S0 a0 b k cs c (gone ++ [id]) next') (behind b k cs a) v := by
  letI := env2 c W
  have hl : AWL Try.prog (Ctx.of w0 S0 51) tk10.toArray (fun e st => e = .normal ∧ st = ⟨upd (tkR c gone id true) 40 (.s (.one (.b true))), tkM a0 next gone⟩) [Oper.mk (some 40) (Go.Op.extract (Go.Operand.tmp 39) 1) 4 "timers.go:99" #[Go.Edge.mk 0 Go.Ground.data] none] ⟨tkR c gone id true, tkM a0 next gone⟩ :=
    sv rfl (opv_extract rfl rfl) (snil0 ⟨rfl, rfl⟩)
  refine wpK_list (P := Try.prog) (Q := QR (Ctx.of w0 S0 51) _) (k := tkK k) (cs := cs) (fun _ _ _ hr q => q.atw hr) hb (fun a' w' hq => ?_) [Oper.mk (some 40) (Go.Op.extract (Go.Operand.tmp 39) 1) 4 "timers.go:99" #[Go.Edge.mk 0 Go.Ground.data] none] 1 a v (fun i => by match i with | 0 => rfl | 1 => rfl | i + 2 => rw [Array.getElem?_eq_none (by simp [tk10]; omega)]; rfl) rfl (hl a v S H r)
  obtain ⟨st, S1, H1, r1, _, rfl⟩ := hq
  refine tkX_go (Q := fun _ _ => False) h22 hroom a' w' S1 H1 r1 ⟨tkX_ok.1, fun _ => tkX_ok.2⟩ b _ cs _ hb fun e a2 w2 hq2 => ?_
  obtain ⟨st2, S2, H2, r2, hq2⟩ := hq2
  cases e with
  | normal =>
    obtain ⟨ex, hm, he⟩ := hq2
    have r2' : Rel (Ctx.of w0 S0 51) ⟨st2.t, tkM a0 next' (gone ++ [id]) ++ ex⟩ a2 w2 S2 H2 := by rw [← he]; exact r2
    have rt := r2'.trim (updL_match hm (inbL_of rfl)) (blkinb_of rfl) (Nat.le_of_ble_eq_true rfl)
    refine .ctl rfl (fun _ => stepG_inLoop) ?_
    refine .ctl rfl (fun _ => stepG_seq) ?_
    refine .ctl rfl (fun _ => stepG_region) ?_
    exact stop2 fun s hk hv => ⟨a2, S2, H2, rfl, rt.atw hv⟩
  | exit id => exact hq2.elim
  | goto l => exact hq2.elim
  | ret => exact hq2.elim
  | panic ch => exact hq2.elim
  | outgrown => exact hq2.elim

theorem rel_recv {gone : List Int} {m : List Blk} {a : Act} {w w' : World} {S : Stab} {H : Nat → Value} (r : Rel (Ctx.of w0 S0 51) ⟨updL (fun _ => .top) (tkS c gone), m⟩ a w S H) (hr : Rl2 w w') (v : Int) (ok : Bool) :
    Rel (Ctx.of w0 S0 51) ⟨tkR c gone v ok, m⟩ (a.put (some 39) (.tuple #[.int .i64 v, .bool ok])) w' S H := by
  letI := env2 c w
  have r' : Rel (Ctx.of w0 S0 51) ⟨updL (fun _ => .top) (tkS c gone), m⟩ a w' S H := r.atw hr
  refine r'.put (d := 39) (x := .tup [.one (.i .i64 v), .one (.b ok)]) (by show 39 < 51; decide) ⟨_, rfl, rfl, fun j x u h1 h2 => ?_⟩
  match j, h1, h2 with
  | 0, h1, h2 => cases h1; cases h2; exact Rep.i _ _
  | 1, h1, h2 => cases h1; cases h2; exact Rep.b _

theorem tk_recvs (hb : b.kind ≠ .early) {goneF : List Int} {nextF : GTimersTable} {Fin : Goroutine → GW → Prop}
    (hFin : ∀ a s S H, Ok2 c W s → Rel (Ctx.of w0 S0 51) ⟨tkR c goneF 0 false, tkM a0 nextF goneF⟩ a (view c W s) S H → Fin (behind b k cs a) s) :
    ∀ (ids : List Int) (gone : List Int) (next : GTimersTable) (id : Int) (a : Act) (s : GW) (S : Stab) (H : Nat → Value), tkGo (id :: ids) next gone = some (nextF, goneF) → Ok2 c W s → Rel (Ctx.of w0 S0 51) ⟨tkR c gone id true, tkM a0 next gone⟩ a (view c W s) S H →
      RecvsA Try.prog c (.int .i64 0) Fin (ids.map fun i => .int .i64 i) (behind b k cs a) s := by
  intro ids
  induction ids with
  | nil =>
    intro gone next id a s S H h hk r
    unfold tkGo at h
    obtain ⟨n, h22, h⟩ := bind_eq h
    obtain ⟨hroom, h⟩ := chk_eq h
    obtain ⟨rfl, rfl⟩ : n = nextF ∧ gone ++ [id] = goneF := by simpa [tkGo] using h
    refine Tree.mono (fun g s' hz => ?_) (tk_seg (W := W) hb h22 hroom r s hk (Rl2.refl _))
    obtain ⟨hk', a', S', H', rfl, r'⟩ := hz
    refine ⟨atR_tk hb (eval38 r') _, fun s2 hr => ?_⟩
    rw [served_tk]
    exact hFin _ s2 S' H' (hk'.rely hr) (rel_recv r' (view_rl hr) 0 false)
  | cons id' ids ih =>
    intro gone next id a s S H h hk r
    rw [tkGo] at h
    obtain ⟨n, h22, h⟩ := bind_eq h
    obtain ⟨hroom, h⟩ := chk_eq h
    refine Tree.mono (fun g s' hz => ?_) (tk_seg (W := W) hb h22 hroom r s hk (Rl2.refl _))
    obtain ⟨hk', a', S', H', rfl, r'⟩ := hz
    refine ⟨atR_tk hb (eval38 r') _, fun s2 hr => ?_⟩
    rw [served_tk]
    exact ih (gone ++ [id]) n id' _ s2 S' H' h (hk'.rely hr) (rel_recv r' (view_rl hr) id' true)
end
end Go.Proofs.Ytnphcnhejgpjgaa.Abs
end
section
namespace Go.Proofs.Ytnphcnhejgpjgaa.Abs
open Go.Proofs.Ytnphcnhejgpjgaa.Co Go.Conc
open Go.RowKit Go.Proofs
section
variable [Env] {P : Program} [Nice P] {c : Ctx} {Q : Exit → AS → Prop} {st : AS}
def AWX (P : Program) (c : Ctx) (x : Code) (Q : Exit → AS → Prop) (st : AS) : Prop := ∀ a w S H, Rel c st a w S H → wpX P x (QR c Q) a w
omit [Nice P] in
theorem xof {x : Code} (h : AWC P c x Q st) (ok : OkE x := by first | exact ⟨by kernel_rfl, fun h => noFr h⟩ | exact ⟨by kernel_rfl, fun _ => by kernel_rfl⟩) : AWX P c x Q st := fun a w S H r => h a w S H r ok
omit [Nice P] in
theorem xseq {x y : Code} (h : AWX P c x (thenA (AWX P c y Q) Q) st) : AWX P c (.seq x y) Q st := by
  intro a w S H r b k cs Z hb hz
  refine .ctl rfl (fun _ => stepG_seq) (h a w S H r b (.code y :: k) cs Z hb fun e a' w' hq => ?_)
  obtain ⟨st', S', H', r', hq⟩ := hq
  cases e with
  | normal => exact hq a' w' S' H' r' b k cs Z hb hz
  | exit id => obtain ⟨k', hk, ht⟩ := hz (.exit id) a' w' ⟨st', S', H', r', hq⟩; exact ⟨k', by simpa [exitTo] using hk, ht⟩
  | goto l => obtain ⟨k', hk, ht⟩ := hz (.goto l) a' w' ⟨st', S', H', r', hq⟩; exact ⟨k', by simpa [gotoIn] using hk, ht⟩
  | ret => exact hz .ret a' w' ⟨st', S', H', r', hq⟩
  | panic ch => exact (hz (.panic ch) a' w' ⟨st', S', H', r', hq⟩).elim
  | outgrown => exact (hz .outgrown a' w' ⟨st', S', H', r', hq⟩).elim
theorem callsX_of {f : FuncId} {fn : Func} {body : Code} {args : List SV} {R : AV → Prop} (hf : P.funcs[f]? = some fn) (hb : fn.body = some body) {nt : Nat} (hnt : fn.ntmps = nt) (hn : args.length ≤ nt)
    (h : ∀ w0 S0, AWX P (Ctx.of w0 S0 nt) body (Done P fn R) ⟨argT args, []⟩) : CallsA P f args R := by
  subst hnt
  intro w S vs hS hv
  refine calls_of_wpX hf hb ?_
  have hlen : vs.size = args.length := by have := hv.1; simp at this; omega
  have hget : ∀ i, (vs ++ Array.replicate (fn.ntmps - vs.size) undef).getD i undef = vs.getD i undef := by
    intro i
    simp only [Array.getD_eq_getD_getElem?, Array.getElem?_append]
    split
    · rfl
    · rename_i hi
      rw [Array.getElem?_replicate]
      have : vs[i]? = none := Array.getElem?_eq_none (by omega)
      rw [this]
      split <;> rfl
  have r0 : Rel (Ctx.of w S fn.ntmps) ⟨argT args, []⟩ { tmps := vs ++ Array.replicate (fn.ntmps - vs.size) undef, defers := [] } w S (fun _ => undef) := by
    refine ⟨by simp; omega, rfl, fun i => ?_, fun p b h => by simp at h, fun p b g h => by simp at h, fun p q b b' g h => by simp at h, fun p b g i h => by simp at h, hS, ExtX.refl _ w S, Nat.zero_le _, fun p g h => absurd h (Nat.not_lt_zero _), fun p e sz k cs h => absurd h (Nat.not_lt_zero _), fun p h => absurd h (Nat.not_lt_zero _)⟩
    rw [hget]
    show AVR _ (match args[i]? with | some x => .s x | none => .tup []) _
    cases ha : args[i]? with
    | none =>
      have : vs[i]? = none := Array.getElem?_eq_none (by rw [hlen]; exact List.getElem?_eq_none_iff.1 ha)
      simp only [Array.getD_eq_getD_getElem?, this, Option.getD_none]
      exact avr_undef
    | some x =>
      have hi : i < args.length := (List.getElem?_eq_some_iff.1 ha).1
      have hi' : i < vs.size := by omega
      have : vs[i]? = some vs[i] := Array.getElem?_eq_getElem hi'
      simp only [Array.getD_eq_getD_getElem?, this, Option.getD_some]
      exact SVR.mono (fun _ _ => GRep.of_rep) (hv.2 i x _ ha (by simp))
  intro b k cs Z hbk hz
  refine h w S _ _ _ _ r0 b k cs Z hbk fun e a w1 hq => hz e a w1 fun w2 hr => ?_
  replace hq := QR.atw hr hq
  obtain ⟨st, S1, H, r, he, xs, ys, m', hx, hp, hR⟩ := hq
  obtain ⟨u, hu, hk⟩ := results_run r hx
  obtain ⟨S2, k2, g2⟩ := hp.keeps r
  have hav := hk S2 ys g2
  have hfin : ∃ v x S', Ending.returned u = .returned v ∧ R x ∧ Ext w S w2 S' ∧ InH w2 S' ∧ AVR (Rep w2 S') x v := ⟨u, resOf ys, S2, rfl, hR, k2.rel.ex.toExt (fun _ h => h), k2.rel.sl, hav⟩
  rcases he with rfl | rfl
  · exact ⟨r.df, u, hu, u, rfl, hfin⟩
  · exact ⟨r.df, u, hu, u, rfl, hfin⟩
end
abbrev tkRes (r : GTimersTable × List Int × Int) : AV → Prop := (· = .tup [.agg r.1, .one (.sl r.2.1.length (r.2.1.flatMap eI)), .one (.i .i64 r.2.2)])
abbrev tkM0 (a0 next : GTimersTable) : List Blk := [.box a0, .box [.i .i64 0, .raw (.slice none 0 0)], .box next]

set_option maxRecDepth 100000 in
theorem tick_pre [Env] [AtEnv] {a0 : GTimersTable} {a1 : Int} {r : GTimersTable × (List Int) × Int} (h : m11_timers_Tick a0 a1 = some r)
    (hR : ∀ w0 S0 t, (([] : List GTimersTimer).length + a0.L.length) * 16 ≤ 140737488355328 → ((tkGo (dueIds a0.L (wI (a0.Now + a1))) (GTimersTable.mk (wI (a0.Now + a1)) a0.L) []).bind fun x => some (x.1, x.2, 0)) = some r → MatchL t [(2, .s (.one (.lp 0 0))), (4, .s (.one (.lp 1 0))), (7, .s (.one (.lp 2 0)))] →
      AWX Try.prog (Ctx.of w0 S0 51) tkRest (Done Try.prog Try.f11 (tkRes r)) ⟨t, tkM0 a0 (GTimersTable.mk (wI (a0.Now + a1)) a0.L)⟩) :
    CallsA Try.prog 11 [.agg a0, .one (.i .i64 a1)] (tkRes r) := by
  unfold m11_timers_Tick at h
  refine callsX_of Try.func11 tk_code (nt := 51) rfl (Nat.le_of_ble_eq_true rfl) ?_
  intro w0 S0
  refine xseq (xof (cregion ?_))
  refine sbox rfl rfl ?_
  refine salloc rfl zi28 ?_
  refine sv rfl (opv_as rfl) ?_
  refine sv rfl (opv_as rfl) ?_
  refine snil ?_
  refine xseq (xof (cseq (cregion ?_)))
  obtain ⟨v, hv, h⟩ := bind_eq h
  refine sv rfl (opv_loadN ti28 rfl (.lp _ _ _ rfl) (Nat.le_of_ble_eq_true rfl)) ?_
  refine scall1 rfl fn20 (opnds_cons rfl opnds_nil) (pubA_id rfl) (m20_timers_Sane_c hv) ?_
  refine sv rfl (opv_not rfl) ?_
  refine sv rfl (opv_mv rfl) ?_
  refine ssplit 14 rfl (fun hc => ?_) (fun hc => ?_)
  · replace h := ite_t hc h
    clear hc
    refine soff rfl rfl rfl rfl ?_
    refine soff rfl rfl rfl rfl ?_
    refine sv rfl (opv_pick_t rfl rfl) ?_
    refine snil ?_
    refine ccond rfl (fun _ => ?_) (fun hx => Bool.noConfusion hx)
    refine cseq ?_
    refine cregion ?_
    refine sv rfl (opv_build zi28 pi28 parts_nil (.nil _)) ?_
    refine sstore sz28 rfl rfl rfl rfl (Nat.le_of_ble_eq_true rfl) ?_
    refine smem [.box a0, .box [.i .i64 0, .raw (.slice none 0 0)]] rfl ?_
    refine sv rfl (opv_as rfl) ?_
    refine sv rfl (opv_as rfl) ?_
    refine snil ?_
    refine cret ?_
    obtain rfl := Option.some.inj h
    refine ⟨Or.inr rfl, _, _, _, (resVs_cons (ResV.agg _ _ _ _ _ ti28 rfl (.lp _ _ _ rfl) (Nat.le_of_ble_eq_true rfl)) (resVs_cons (ResV.tmp _ _ rfl) (resVs_cons (ResV.tmp _ _ rfl) resVs_nil))), (pubC rfl), ?_⟩
    rfl
  · replace h := ite_f hc h
    clear hc
    refine son rfl rfl rfl ?_
    refine sv rfl (opv_mv rfl) ?_
    refine son rfl rfl rfl ?_
    refine sv rfl (opv_lss rfl rfl) ?_
    refine sv rfl (opv_pick_f rfl rfl) ?_
    refine snil ?_
    refine ccond rfl (fun hc => ?_) (fun hc => ?_)
    · replace h := ite_t hc h
      clear hc
      refine cseq ?_
      refine cregion ?_
      refine sv rfl (opv_build zi28 pi28 parts_nil (.nil _)) ?_
      refine sstore sz28 rfl rfl rfl rfl (Nat.le_of_ble_eq_true rfl) ?_
      refine smem [.box a0, .box [.i .i64 0, .raw (.slice none 0 0)]] rfl ?_
      refine sv rfl (opv_as rfl) ?_
      refine sv rfl (opv_as rfl) ?_
      refine snil ?_
      refine cret ?_
      obtain rfl := Option.some.inj h
      refine ⟨Or.inr rfl, _, _, _, (resVs_cons (ResV.agg _ _ _ _ _ ti28 rfl (.lp _ _ _ rfl) (Nat.le_of_ble_eq_true rfl)) (resVs_cons (ResV.tmp _ _ rfl) (resVs_cons (ResV.tmp _ _ rfl) resVs_nil))), (pubC rfl), ?_⟩
      rfl
    · replace h := ite_f hc h
      clear hc
      refine cskip ?_
      refine xseq (xof (cseq (cregion ?_)))
      refine sv rfl (opv_mv rfl) ?_
      refine sv rfl (opv_fieldAddr_lp fi28_0 rfl) ?_
      refine sv rfl (opv_load1 ti3 rfl (.lp _ _ _ rfl) rfl) ?_
      refine sv rfl (opv_sub rfl rfl) ?_
      refine sv rfl (opv_gtr rfl rfl) ?_
      refine snil ?_
      refine ccond rfl (fun hc => ?_) (fun hc => ?_)
      · replace h := ite_t hc h
        clear hc
        refine cseq ?_
        refine cregion ?_
        refine sv rfl (opv_build zi28 pi28 parts_nil (.nil _)) ?_
        refine sstore sz28 rfl rfl rfl rfl (Nat.le_of_ble_eq_true rfl) ?_
        refine smem [.box a0, .box [.i .i64 0, .raw (.slice none 0 0)]] rfl ?_
        refine sv rfl (opv_as rfl) ?_
        refine sv rfl (opv_as rfl) ?_
        refine snil ?_
        refine cret ?_
        obtain rfl := Option.some.inj h
        refine ⟨Or.inr rfl, _, _, _, (resVs_cons (ResV.agg _ _ _ _ _ ti28 rfl (.lp _ _ _ rfl) (Nat.le_of_ble_eq_true rfl)) (resVs_cons (ResV.tmp _ _ rfl) (resVs_cons (ResV.tmp _ _ rfl) resVs_nil))), (pubC rfl), ?_⟩
        rfl
      · replace h := ite_f hc h
        clear hc
        refine cskip ?_
        refine xseq (xof (cregion ?_))
        refine sv rfl (opv_fieldAddr_lp fi28_0 rfl) ?_
        refine sv rfl (opv_load1 ti3 rfl (.lp _ _ _ rfl) rfl) ?_
        refine sv rfl (opv_mv rfl) ?_
        refine sv rfl (opv_add rfl rfl) ?_
        refine sv rfl (opv_fieldAddr_lp fi28_1 rfl) ?_
        refine sv rfl (opv_load1 ti26 rfl (.lp _ _ _ rfl) rfl) ?_
        refine sv rfl (opv_build zi28 pi28 (parts_cons rfl (parts_cons rfl parts_nil)) (.cons _ _ _ _ _ _ _ rfl rfl (Nat.le_of_ble_eq_true rfl) (.cons _ _ _ _ _ _ _ rfl rfl (Nat.le_of_ble_eq_true rfl) (.nil _)))) ?_
        refine salloc rfl zi28 ?_
        refine sstore sz28 rfl rfl rfl rfl (Nat.le_of_ble_eq_true rfl) ?_
        refine smem (tkM0 a0 (GTimersTable.mk (wI (a0.Now + a1)) a0.L)) rfl ?_
        refine snil ?_
        obtain ⟨hlen, h⟩ := chk_eq h
        exact hR w0 S0 _ hlen h ⟨rfl, rfl, rfl, trivial⟩
end Go.Proofs.Ytnphcnhejgpjgaa.Abs
end
section
namespace Go.Proofs.Ytnphcnhejgpjgaa.Abs
open Go.Proofs.Ytnphcnhejgpjgaa.Co Go.Conc
open Go.RowKit Go.Proofs
/-- A stride: from a go statement to where the channel was found closed. -/
def BigF (g : Goroutine) (w : World) (K : Goroutine → World → Prop) : Prop :=
  ∃ (c : Nat) (z : Value) (vs : List Value) (a child : Goroutine) (n : Nat) (tm : Bool), (∀ d, stepG Try.prog true g (w.at d) = .spawn a child (w.at d) #[]) ∧ OpenAt c w n tm ∧
    Tree Try.prog true id (fun _ _ => True) DA1 noBig (StA1 Try.prog c z (fun g s => K g s.w) w vs) a w ∧ Tree Try.prog false id AtRel DN noBig (StB1 Try.prog c w vs) child w
theorem bigF_runs : ∀ g w K, g.status = .running → BigF g w K → ∀ m t, Sit Try.prog g w m t → ∃ N m' t' g' w', runNT Try.prog N m t = (.next m', t') ∧ Sit Try.prog g' w' m' t' ∧ K g' w' := by
  intro g w K hs ⟨c, z, vs, a, child, n, tm, h1, h2, h3, h4⟩ m t hS
  obtain ⟨N, m', t', g', s', r1, r2, r3⟩ := fork_runs hs h1 h2 h3 h4 hS
  exact ⟨N, m', t', g', s'.w, r1, r2, r3⟩
abbrev EF : Env := envT true BigF
instance : @AtEnv EF := envT_at _ _

section
variable [Env] [NoFr] {P : Program} [Nice P] {C : Ctx} {st : AS} {a : Act} {w : World} {S : Stab} {H : Nat → Value} {b : Frame} {k : List Item} {cs : List Frame} {ops : Array Oper} {rest : List Nat} {Z : Goroutine → World → Prop}
theorem step_v {i : Nat} {op : Op} {ty : TypeId} {pos : String} {af : Array Edge} {d : Tmp} {x : AV} (ho : ops[i]? = some ⟨some d, op, ty, pos, af, none⟩) (h : OpV P C st op ty x) (hd : d < C.nt) (hok : okOp op = true) (hb : b.kind ≠ .early) (r : Rel C st a w S H)
    (K : ∀ v w₁, Env.Rl w w₁ → Rel C (st.upd d x) (a.put (some d) v) w₁ S H → TrK P Z (G (b.at (a.put (some d) v) (.inRegion ops rest :: k)) cs) w₁) :
    TrK P Z (G (b.at a (.inRegion ops (i :: rest) :: k)) cs) w := by
  refine Env.one rfl fun w₁ hr => ?_
  have r1 := r.atw hr
  obtain ⟨v, hv, hrun⟩ := h a w₁ S H r1
  have hn := Nice.op' (P := P) ⟨some d, op, ty, pos, af, none⟩ a w₁ _ _ hok (hrun (some d) pos af none)
  exact ⟨_, w₁, _, stepG_value ho (by simp [Region.wanted]) hb (hrun (some d) pos af none), ⟨fun e he => hn.1 e (mem_listed he), hn.2⟩, fun hf => noFr hf, K v w₁ hr (r1.put hd hv)⟩
end

/-! ### goroutine 0 on its way to its first receive -/
section
variable {P : Program} {Stop : Goroutine → World → Prop} {b : Frame} {a : Act} {k : List Item} {cs : List Frame} {w : World}
abbrev TrF (P : Program) (Stop : Goroutine → World → Prop) : Goroutine → World → Prop := Tree P true id (fun _ _ => True) DA1 noBig Stop
theorem f_ctl {g g' : Goroutine} (hs : g.status = .running) (h : ∀ w, stepG P true g w = .go g' w #[]) (K : ∀ w, TrF P Stop g' w) : TrF P Stop g w :=
  Tree.one hs fun s₁ _ => ⟨g', s₁, #[], h s₁, ⟨rfl, rfl⟩, K s₁⟩
theorem f_val {ops : Array Oper} {i : Nat} {rest : List Nat} {o : Oper} {v : Value} (ho : ops[i]? = some o) (hg : o.guard = none) (hb : b.kind ≠ .early) (hv : ∀ w, (execOp a.eval o).run P w = .ok (.value v) w ∧ (execOp a.eval o).events P w #[] = #[])
    (K : ∀ w, TrF P Stop (G (b.at (a.put o.dst v) (.inRegion ops rest :: k)) cs) w) : TrF P Stop (G (b.at a (.inRegion ops (i :: rest) :: k)) cs) w :=
  Tree.one rfl fun s₁ _ => ⟨_, s₁, #[], by
    have := stepG_value (P := P) (main := true) (k := k) (cs := cs) (rest := rest) ho (by simp [Region.wanted, hg]) hb (hv s₁).1
    rw [show listed P b.fn a o s₁ = #[] by unfold listed; rw [(hv s₁).2, seen_none]] at this
    exact this, ⟨rfl, rfl⟩, K s₁⟩
end
theorem ev_mv {P : Program} {a : Act} {dst : Option Tmp} {x : Operand} {ty : TypeId} {pos : String} {af : Array Edge} {g : Option (Nat × Bool)} (w : World) :
    (execOp a.eval ⟨dst, .move x, ty, pos, af, g⟩).run P w = .ok (.value (a.eval x)) w ∧ (execOp a.eval ⟨dst, .move x, ty, pos, af, g⟩).events P w #[] = #[] := by
  unfold execOp
  exact ⟨rfl, rfl⟩
theorem ev_as {P : Program} {a : Act} {dst : Option Tmp} {x : Operand} {ty : TypeId} {pos : String} {af : Array Edge} {g : Option (Nat × Bool)} (w : World) :
    (execOp a.eval ⟨dst, .assign x, ty, pos, af, g⟩).run P w = .ok (.value (a.eval x)) w ∧ (execOp a.eval ⟨dst, .assign x, ty, pos, af, g⟩).events P w #[] = #[] := by
  unfold execOp
  exact ⟨rfl, rfl⟩

/-- The state in which it comes to its receive. -/
def act9 (a : Act) (c : Value) : Act := (a.put (some 9) (.slice none 0 0)).put (some 38) c
theorem first_mode {Stop : Goroutine → World → Prop} {b : Frame} {a : Act} {k : List Item} {cs : List Frame} {w : World} {c : Nat} (hb : b.kind ≠ .early) (h8 : (a.put (some 9) (.slice none 0 0)).eval (.tmp 8) = .chan (some c)) (hstop : ∀ w, Stop (atRecv b k cs (act9 a (.chan (some c)))) w) :
    TrF Try.prog Stop (G (b.at a (.inRegion tk7.toArray [] :: .code (.seq (.region 8 tk8.toArray false) (.seq (.seq (.region 9 tk9.toArray false) (.block 0 (.loop tkL))) tkEnd)) :: k)) cs) w := by
  refine f_ctl rfl (fun _ => stepG_region_end) fun w => ?_
  refine f_ctl rfl (fun _ => stepG_seq) fun w => ?_
  refine f_ctl rfl (fun _ => stepG_region) fun w => ?_
  refine f_val (o := Oper.mk (some 9) (Go.Op.assign (Go.Operand.const (Go.Value.slice none 0 0))) 35 "timers.go:98" #[] none) rfl rfl hb (fun w => ev_as w) fun w => ?_
  refine f_ctl rfl (fun _ => stepG_region_end) fun w => ?_
  refine f_ctl rfl (fun _ => stepG_seq) fun w => ?_
  refine f_ctl rfl (fun _ => stepG_seq) fun w => ?_
  refine f_ctl rfl (fun _ => stepG_region) fun w => ?_
  refine f_val (o := Oper.mk (some 38) (Go.Op.move (Go.Operand.tmp 8)) 65 "timers.go:99" #[] none) rfl rfl hb (fun w => ev_mv w) fun w => ?_
  refine f_ctl rfl (fun _ => stepG_region_end) fun w => ?_
  refine f_ctl rfl (fun _ => stepG_block) fun w => ?_
  refine f_ctl rfl (fun _ => stepG_loop) fun w => ?_
  refine f_ctl rfl (fun _ => stepG_seq) fun w => ?_
  refine f_ctl rfl (fun _ => stepG_region) fun w => ?_
  refine .stop fun w _ => ?_
  have e : (a.put (some 9) (.slice none 0 0)).put (some 38) ((a.put (some 9) (.slice none 0 0)).eval (.tmp 8)) = act9 a (.chan (some c)) := by rw [h8]; rfl
  have := hstop w
  rw [← e] at this
  exact this

set_option maxRecDepth 100000 in
theorem tkEnd_go [Env] {w0 : World} {S0 : Stab} {c : Nat} {a0 next : GTimersTable} {gone : List Int} :
    AWC Try.prog (Ctx.of w0 S0 51) tkEnd (Done Try.prog Try.f11 (tkRes (next, gone, 0))) ⟨upd (tkR c gone 0 false) 40 (.s (.one (.b false))), tkM a0 next gone⟩ := by
  unfold tkEnd
  refine cseq ?_
  refine cregion ?_
  refine sv rfl (opv_loadN ti28 rfl (.lp _ _ _ rfl) (Nat.le_of_ble_eq_true rfl)) ?_
  refine sv rfl (opv_mv rfl) ?_
  refine sstore sz28 rfl rfl rfl rfl (Nat.le_of_ble_eq_true rfl) ?_
  refine smem [.box a0, .box next, .box next, .arr 3 1 0 (gone.flatMap eI)] rfl ?_
  refine sv rfl (opv_as rfl) ?_
  refine sv rfl (opv_as rfl) ?_
  refine snil ?_
  refine cret ?_
  refine ⟨Or.inr rfl, _, _, _, (resVs_cons (ResV.agg _ _ _ _ _ ti28 rfl (.lp _ _ _ rfl) (Nat.le_of_ble_eq_true rfl)) (resVs_cons (ResV.tmp _ _ rfl) (resVs_cons (ResV.tmp _ _ rfl) resVs_nil))), (by (repeat' first | exact PubA.nil _ | apply PubA.cons | apply PubV.one | apply PubV.agg | exact PubL.nil | exact PubL.ls _ _ _ _ _ _ rfl (flat_len (f := eI) (fun _ => rfl) _).symm | exact PubL.id _ rfl | exact PubLs.nil _ | apply PubLs.cons)), ?_⟩
  rfl
end Go.Proofs.Ytnphcnhejgpjgaa.Abs
end
section
namespace Go.Proofs.Ytnphcnhejgpjgaa.Abs
open Go.Proofs.Ytnphcnhejgpjgaa.Co Go.Conc
open Go.RowKit Go.Proofs

theorem sortAt_uniq {a zs : List GTimersTimer} (hp : zs.Perm a) (hs : zs.Pairwise fun x y => x.At < y.At ∨ x.At = y.At ∧ x.ID ≤ y.ID) : zs = sortAt a := by
  have hm : (sortAt a).Perm a := List.mergeSort_perm a _
  refine List.Perm.eq_of_pairwise (le := fun x y => x.At < y.At ∨ x.At = y.At ∧ x.ID ≤ y.ID) (fun x y _ _ h1 h2 => ?_) hs ?_ (hp.trans hm.symm)
  · cases x
    cases y
    simp only at h1 h2
    simp only [GTimersTimer.mk.injEq]
    omega
  · exact (List.pairwise_mergeSort (le := fun x y : GTimersTimer => decide (x.At < y.At ∨ x.At = y.At ∧ x.ID ≤ y.ID)) (fun a b c h1 h2 => by simp at *; omega) (fun a b => by simp; omega) a).imp fun h => by simpa using h

/-- Where the channel was found closed. -/
def Kfin (w0 : World) (S0 : Stab) (a0 nextF : GTimersTable) (goneF : List Int) (c : Nat) (b : Frame) (k : List Item) (cs : List Frame) (g : Goroutine) (w : World) : Prop :=
  ∃ a S H, g = behind b k cs a ∧ Rel (Ctx.of w0 S0 51) ⟨tkR c goneF 0 false, tkM a0 nextF goneF⟩ a w S H

theorem ended [E : Env] [NoFr] {w0 : World} {S0 : Stab} {a0 nextF : GTimersTable} {goneF : List Int} {c : Nat} {b : Frame} {k : List Item} {cs : List Frame} {Z : Goroutine → World → Prop} (hb : b.kind ≠ .early)
    (hz : ∀ e a' w', QR (Ctx.of w0 S0 51) (Done Try.prog Try.f11 (tkRes (nextF, goneF, 0))) e a' w' → ArrK Try.prog Z b k cs e a' w') {g : Goroutine} {w : World} (h : Kfin w0 S0 a0 nextF goneF c b k cs g w) : TrK Try.prog Z g w := by
  obtain ⟨a, S, H, rfl, r⟩ := h
  unfold behind
  refine step_v (i := 1) (op := .extract (.tmp 39) 1) (ty := 4) (pos := "timers.go:99") (af := #[Go.Edge.mk 0 Go.Ground.data]) (d := 40) rfl (opv_extract rfl rfl) (by show 40 < 51; decide) rfl hb r fun v w1 _ r1 => ?_
  refine .ctl rfl (fun _ => stepG_region_end) ?_
  refine .ctl rfl (fun _ => stepG_seq) ?_
  have h40 : (a.put (some 40) v).eval (.tmp 40) = .bool false := by
    have h := r1.tm 40
    have h' : Rep w1 S (.b false) ((a.put (some 40) v).tmps.getD 40 undef) := h
    show (a.put (some 40) v).tmps.getD 40 undef = _
    generalize (a.put (some 40) v).tmps.getD 40 undef = u at h'
    cases h'
    rfl
  refine .ctl rfl (fun _ => stepG_cond h40) ?_
  refine .ctl rfl (fun _ => stepG_exit (k' := .code tkEnd :: k) rfl) ?_
  exact tkEnd_go _ _ _ _ r1 ⟨by kernel_rfl, fun hf => noFr hf⟩ b k cs Z hb hz

theorem tick_rest {w0 : World} {S0 : Stab} {t : Nat → AV} {a0 : GTimersTable} {now : Int} {r : GTimersTable × (List Int) × Int} (hlen : (([] : List GTimersTimer).length + a0.L.length) * 16 ≤ 140737488355328)
    (hgo : ((tkGo (dueIds a0.L now) (GTimersTable.mk now a0.L) []).bind fun x => some (x.1, x.2, 0)) = some r) (hm : MatchL t [(2, .s (.one (.lp 0 0))), (4, .s (.one (.lp 1 0))), (7, .s (.one (.lp 2 0)))]) :
    @AWX EF Try.prog (Ctx.of w0 S0 51) tkRest (Done Try.prog Try.f11 (tkRes r)) ⟨t, tkM0 a0 (GTimersTable.mk now a0.L)⟩ := by
  letI := EF
  obtain ⟨⟨nextF, goneF⟩, hgo1, hr⟩ := bind_eq hgo
  clear hgo
  have hgo := hgo1
  clear hgo1
  obtain rfl := Option.some.inj hr
  clear hr
  obtain ⟨m2, m4, m7, _⟩ := hm
  intro a w S H rel b k cs Z hb hz
  unfold tkRest
  refine .ctl rfl (fun _ => stepG_seq) ?_
  refine .ctl rfl (fun _ => stepG_region) ?_
  -- the channel is made
  refine Env.one (P := Try.prog) (Z := Z) rfl fun w₁ hr₁ => ?_
  have rel1 := rel.atw hr₁
  obtain ⟨inf, hinf⟩ := Option.isSome_iff_exists.1 (by kernel_rfl : (Try.prog.info? 3).isSome = true)
  have hmk := run_makeChan (P := Try.prog) (w := w₁) Try.underlying65 hinf .i64 0 (by decide) (by simp)
  have hmkE := events_makeChan (P := Try.prog) (w := w₁) Try.underlying65 hinf .i64 0 (by decide) (by simp) #[]
  have hrun : (execOp a.eval (Oper.mk (some 32) (Go.Op.makeChan 65 (Go.Operand.const (Go.Value.int Go.IntKind.i64 0))) 65 "timers.go:96" #[] none)).run Try.prog w₁ = .ok (.value (.chan (some w₁.heap.size))) (w₁.alloc (.chan 0 #[] false 0 0 false)) := by
    unfold execOp
    have : a.eval (.const (.int .i64 0)) = .int .i64 ((0 : Nat) : Int) := rfl
    simp only [this, Sem.run_bind, hmk, Result.andThen_ok, Sem.run_pure]
  have hev : (execOp a.eval (Oper.mk (some 32) (Go.Op.makeChan 65 (Go.Operand.const (Go.Value.int Go.IntKind.i64 0))) 65 "timers.go:96" #[] none)).events Try.prog w₁ #[] = #[] := by
    unfold execOp
    have : a.eval (.const (.int .i64 0)) = .int .i64 ((0 : Nat) : Int) := rfl
    simp only [this, Sem.events_bind, hmk, hmkE, Result.evThen_ok, Sem.events_pure]
  refine ⟨_, _, _, stepG_value (o := Oper.mk (some 32) (Go.Op.makeChan 65 (Go.Operand.const (Go.Value.int Go.IntKind.i64 0))) 65 "timers.go:96" #[] none) rfl (by simp [Region.wanted]) hb hrun, ⟨fun e he => ?_, keeps_push _ _⟩, fun hf => noFr hf, ?_⟩
  · have := mem_listed he
    rw [hev] at this
    simp at this
  have hx := Ext.alloc w₁ S (.chan 0 #[] false 0 0 false)
  have rel2 := (rel1.ext hx (rel1.sl.ext hx)).put (d := 32) (by show 32 < 51; decide) (avr_rep (.raw (.chan (some w₁.heap.size)) rfl))
  have hc0 : w0.heap.size ≤ w₁.heap.size := rel1.ex.size
  have hownlt : ∀ (p : Nat) (b : Blk) (g : Nat), (tkM0 a0 (GTimersTable.mk now a0.L))[p]? = some b → b.own (H p) = some g → g ≠ w₁.heap.size := fun p b g h1 h2 => Nat.ne_of_lt (rel1.lo p b g h1 h2).2
  have hopen : OpenAt w₁.heap.size (w₁.alloc (.chan 0 #[] false 0 0 false)) 0 false := by
    show (w₁.heap.push _)[w₁.heap.size]? = _
    rw [Array.getElem?_push, if_pos rfl]
  generalize w₁.alloc (.chan 0 #[] false 0 0 false) = w2 at rel2 hopen
  generalize w₁.heap.size = c at rel2 hopen hc0 hownlt
  clear hmk hmkE hrun hev hx
  have at_ : ∀ {w w' : World}, Env.Rl w w' → OpenAt c w 0 false → OpenAt c w' 0 false := fun hr h => by obtain ⟨d, rfl⟩ := hr; exact h
  refine step_v (i := 1) (op := .assign (.tmp 32)) (ty := 65) (pos := "timers.go:96") (af := #[Go.Edge.mk 0 Go.Ground.data, Go.Edge.mk 0 Go.Ground.phase]) (d := 8) rfl (opv_as rfl) (by show 8 < 51; decide) rfl hb rel2 fun v3 w3 hr3 rel3 => ?_
  replace hopen := at_ hr3 hopen
  refine .ctl rfl (fun _ => stepG_region_end) ?_
  refine .ctl rfl (fun _ => stepG_seq) ?_
  refine .ctl rfl (fun _ => stepG_region) ?_
  refine step_v (i := 0) (op := .fieldAddr 28 (.tmp 2) 1) (ty := 0) (pos := "timers.go:97") (af := #[]) (d := 33) rfl (opv_fieldAddr_lp fi28_1 (by exact m2)) (by show 33 < 51; decide) rfl hb rel3 fun v4 w4 hr4 rel4 => ?_
  replace hopen := at_ hr4 hopen
  refine step_v (i := 1) (op := .load 26 (.tmp 33)) (ty := 26) (pos := "timers.go:97") (af := #[Go.Edge.mk 0 Go.Ground.data]) (d := 34) rfl (opv_load1 ti26 rfl (.lp _ _ _ rfl) rfl) (by show 34 < 51; decide) rfl hb rel4 fun v5 w5 hr5 rel5 => ?_
  replace hopen := at_ hr5 hopen
  refine step_v (i := 2) (op := .fieldAddr 28 (.tmp 7) 0) (ty := 0) (pos := "timers.go:97") (af := #[]) (d := 35) rfl (opv_fieldAddr_lp fi28_0 (by exact m7)) (by show 35 < 51; decide) rfl hb rel5 fun v6 w6 hr6 rel6 => ?_
  replace hopen := at_ hr6 hopen
  refine step_v (i := 3) (op := .load 3 (.tmp 35)) (ty := 3) (pos := "timers.go:97") (af := #[Go.Edge.mk 2 Go.Ground.data]) (d := 36) rfl (opv_load1 ti3 rfl (.lp _ _ _ rfl) rfl) (by show 36 < 51; decide) rfl hb rel6 fun v7 w7 hr7 rel7 => ?_
  replace hopen := at_ hr7 hopen
  refine step_v (i := 4) (op := .move (.tmp 8)) (ty := 65) (pos := "timers.go:97") (af := #[]) (d := 37) rfl (opv_mv rfl) (by show 37 < 51; decide) rfl hb rel7 fun v8 w8 hr8 rel8 => ?_
  replace hopen := at_ hr8 hopen
  generalize (((((((a.put (some 32) (.chan (some c))).put (some 8) v3).put (some 33) v4).put (some 34) v5).put (some 35) v6).put (some 36) v7).put (some 37) v8) = a8 at rel8 ⊢
  clear rel7 rel6 rel5 rel4 rel3 rel2 rel1 rel
  -- the stride
  refine Tree.big rfl (Kfin w0 S0 a0 nextF goneF c b k cs) (fun W hW => ?_) fun g' w' hK => ended (E := EF) hb hz hK
  replace hopen := at_ hW hopen
  replace rel8 := rel8.atw hW
  have hvw : ¬ Vw W c := fun ⟨x, ty, h⟩ => by rw [OpenAt, h] at hopen; cases hopen
  have hcW := open_lt hopen
  -- what the child is handed
  have e34 : Rep W S (.sl a0.L.length (a0.L.flatMap eGTimersTimer)) (a8.eval (.tmp 34)) := rel8.tm 34
  have e36 : a8.eval (.tmp 36) = .int .i64 now := rep_int (rel8.tm 36 : Rep W S (.i .i64 now) (a8.eval (.tmp 36)))
  have e37 : a8.eval (.tmp 37) = .chan (some c) := rep_raw (rel8.tm 37 : Rep W S (.raw (.chan (some c))) (a8.eval (.tmp 37)))
  -- where goroutine 0 comes to
  have r9 := (rel8.put (d := 9) (by show 9 < 51; decide) (avr_rep (.raw (.slice none 0 0) rfl))).put (d := 38) (by show 38 < 51; decide) (avr_rep (.raw (.chan (some c)) rfl))
  have h8 : (a8.put (some 9) (.slice none 0 0)).eval (.tmp 8) = .chan (some c) := by
    have r8 := rel8.put (d := 9) (by show 9 < 51; decide) (avr_rep (.raw (.slice none 0 0) rfl))
    exact rep_raw (r8.tm 8 : Rep W S (.raw (.chan (some c))) ((a8.put (some 9) (.slice none 0 0)).eval (.tmp 8)))
  have r10 := adopt_rel (e := 3) (sz := 1) 9 (by decide) rfl r9
  have r11 : Rel (Ctx.of w0 S0 51) ⟨updL (fun _ => .top) (tkS c []), tkM a0 (GTimersTable.mk now a0.L) []⟩ (act9 a8 (.chan (some c))) W S (setH H 3 (.slice none 0 0)) :=
    Rel.trim (ex := []) (m := tkM a0 (GTimersTable.mk now a0.L) []) r10 (updL_match ⟨by exact m4, by exact m7, rfl, rfl, trivial⟩ (inbL_of rfl)) (blkinb_of rfl) (Nat.le_of_ble_eq_true rfl)
  have hown : ∀ (p : Nat) (b : Blk) (g : Nat), (tkM a0 (GTimersTable.mk now a0.L) [])[p]? = some b → b.own (setH H 3 (.slice none 0 0) p) = some g → g ≠ c := by
    intro p b g h1 h2
    match p, h1, h2 with
    | 0, h1, h2 => exact hownlt 0 b g h1 h2
    | 1, h1, h2 => exact hownlt 1 b g h1 h2
    | 2, h1, h2 => exact hownlt 2 b g h1 h2
    | 3, h1, h2 => cases h1; cases h2
    | p + 4, h1, h2 => cases h1
  have view_ : ∀ w, FK W c w → Rel (Ctx.of (hide (Vw W) w0) S0 51) ⟨updL (fun _ => .top) (tkS c []), tkM a0 (GTimersTable.mk now a0.L) []⟩ (act9 a8 (.chan (some c))) (view c W ⟨w, newO W w⟩) S (setH H 3 (.slice none 0 0)) :=
    fun w hF => relView r11 (fun _ h => h) hc0 hopen hown hF
  have show_ : ∀ (a : Act) (s : GW) (S' : Stab) (H' : Nat → Value), Ok2 c W s → Rel (Ctx.of (hide (Vw W) w0) S0 51) ⟨tkR c goneF 0 false, tkM a0 nextF goneF⟩ a (view c W s) S' H' → Kfin w0 S0 a0 nextF goneF c b k cs (behind b k cs a) s.w :=
    fun a s S' H' hk hr => ⟨a, S', H', rfl, relShow (C := Ctx.of w0 S0 51) r11 (fun _ h => h) hc0 hk hr⟩
  have hvs : dueV (sortAt a0.L) now = (dueIds a0.L now).map fun i => .int .i64 i := by
    unfold dueV dueIds
    rw [List.map_map]
    rfl
  refine ⟨c, .int .i64 0, dueV (sortAt a0.L) now, G (b.at (a8.put none undef) (.inRegion tk7.toArray [] :: .code (.seq (.region 8 tk8.toArray false) (.seq (.seq (.region 9 tk9.toArray false) (.block 0 (.loop tkL))) tkEnd)) :: k)) cs, born (duec (a8.eval (.tmp 34)) (.int .i64 now) (.chan (some c))), 0, false, fun d => ?_, hopen, ?_, ?_⟩
  · have ho : tk7.toArray[5]? = some (Oper.mk none (Go.Op.go (Go.Call.mk (Go.Callee.value (Go.Operand.func 29)) #[Go.Operand.tmp 34, Go.Operand.tmp 36, Go.Operand.tmp 37] #[26, 3, 74])) 0 "timers.go:97" #[Go.Edge.mk 1 Go.Ground.data, Go.Edge.mk 3 Go.Ground.data, Go.Edge.mk 4 Go.Ground.data] none) := rfl
    have hg : ∀ w, (execOp a8.eval (Oper.mk none (Go.Op.go (Go.Call.mk (Go.Callee.value (Go.Operand.func 29)) #[Go.Operand.tmp 34, Go.Operand.tmp 36, Go.Operand.tmp 37] #[26, 3, 74])) 0 "timers.go:97" #[Go.Edge.mk 1 Go.Ground.data, Go.Edge.mk 3 Go.Ground.data, Go.Edge.mk 4 Go.Ground.data] none)).run Try.prog w = .ok (.spawn (duec (a8.eval (.tmp 34)) (.int .i64 now) (.chan (some c)))) w ∧ (execOp a8.eval (Oper.mk none (Go.Op.go (Go.Call.mk (Go.Callee.value (Go.Operand.func 29)) #[Go.Operand.tmp 34, Go.Operand.tmp 36, Go.Operand.tmp 37] #[26, 3, 74])) 0 "timers.go:97" #[Go.Edge.mk 1 Go.Ground.data, Go.Edge.mk 3 Go.Ground.data, Go.Edge.mk 4 Go.Ground.data] none)).events Try.prog w #[] = #[] := by
      intro w
      rw [← e36, ← e37]
      unfold execOp
      constructor <;> simp [resolve, Deferred.ofValue, Act.eval, duec, Result.andThen, Result.evThen]
    have hs := stepG_spawn (P := Try.prog) (main := true) (b := b) (a := a8) (cs := cs) (w := W.at d) (w' := W.at d) (rest := []) (k := .code (.seq (.region 8 tk8.toArray false) (.seq (.seq (.region 9 tk9.toArray false) (.block 0 (.loop tkL))) tkEnd)) :: k) ho (by simp [Region.wanted]) hb (hg (W.at d)).1 rfl
    rw [show listed Try.prog b.fn a8 (Oper.mk none (Go.Op.go (Go.Call.mk (Go.Callee.value (Go.Operand.func 29)) #[Go.Operand.tmp 34, Go.Operand.tmp 36, Go.Operand.tmp 37] #[26, 3, 74])) 0 "timers.go:97" #[Go.Edge.mk 1 Go.Ground.data, Go.Edge.mk 3 Go.Ground.data, Go.Edge.mk 4 Go.Ground.data] none) (W.at d) = #[] by unfold listed; rw [(hg (W.at d)).2, seen_none]] at hs
    exact hs
  · refine first_mode hb h8 fun w => ⟨atR_tk hb (eval38 r11) w, ?_⟩
    rw [hvs]
    cases hids : dueIds a0.L now with
    | nil =>
      rw [hids] at hgo
      obtain ⟨rfl, rfl⟩ : GTimersTable.mk now a0.L = nextF ∧ [] = goneF := by simpa [tkGo] using hgo
      intro w hF
      rw [served_tk]
      exact show_ _ ⟨w, newO W w⟩ S _ (ok2_new hcW hvw hF) (rel_recv (view_ w hF) (Rl2.refl _) 0 false)
    | cons id ids =>
      rw [hids] at hgo
      intro w hF
      rw [served_tk]
      exact tk_recvs hb (fun a s S' H' hk hr => show_ a s S' H' hk hr) ids [] (GTimersTable.mk now a0.L) id _ ⟨w, newO W w⟩ S _ hgo (ok2_new hcW hvw hF) (rel_recv (view_ w hF) (Rl2.refl _) id true)
  · have hll : a0.L.length ≤ 1000000000000000000 := by simp at hlen; omega
    exact child_ok hcW rel8.sl e34 hll (by unfold m26_slices_Cloneo; rw [if_pos hlen]; rfl) (fun zs h1 h2 => sortAt_uniq h1 h2) ((List.mergeSort_perm a0.L _).length_eq)

instance : @TickC EF :=
  @TickC.mk EF fun {a0 a1 r} h => @tick_pre EF _ a0 a1 r h fun w0 S0 t hlen hgo hm => tick_rest hlen hgo hm
end Go.Proofs.Ytnphcnhejgpjgaa.Abs
end
section
namespace Go.Proofs.Ytnphcnhejgpjgaa.Abs
open Go.Proofs.Ytnphcnhejgpjgaa.Co Go.Conc
open Go.RowKit Go.Proofs
variable {P : Program}
/-- Goroutine 0, from f's beginning, with nothing below: it comes to its end, and R holds then. -/
def LawK (P : Program) (f : FuncId) (args : Array Value) (w : World) (R : Ending → World → Prop) : Prop :=
  Tree P true id AtRel DN BigF (EndsAt P fun v w' => R (.returned v) w') (G (Frame.enter P f args .normal) []) w
theorem LawK.mono {f : FuncId} {args : Array Value} {w : World} {R R' : Ending → World → Prop} (h : LawK P f args w R) (hr : ∀ e w', R e w' → R' e w') : LawK P f args w R' :=
  Tree.mono (fun _ _ ⟨h1, v, es, h2, h3, h4⟩ => ⟨h1, v, es, h2, h3, hr _ _ h4⟩) h
theorem law_of_wpX [Nice P] {f : FuncId} {fn : Func} {c : Code} {args : Array Value} {w : World} {R : Ending → World → Prop} (hf : P.funcs[f]? = some fn) (hb : fn.body = some c) (hi : P.inits.idxOf? f = none)
    (h : @wpX EF P c (fun e a w => ∀ w₁, AtRel w w₁ → bodyPost P fn (fun e w => ∃ v, e = .returned v ∧ R e w) e a w₁) { tmps := args ++ Array.replicate (fn.ntmps - args.size) undef, defers := [] } w) : LawK P f args w R := by
  unfold LawK
  rw [enter_at args hf hb]
  have leave : ∀ (a : Act) (todo : List Item) (w : World), (∀ w₁, AtRel w w₁ → a.defers = [] ∧ ∃ v, (results fn a.tmps).run P w₁ = .ok v w₁ ∧ ∃ v', Ending.returned v = .returned v' ∧ R (.returned v) w₁) →
      Tree P true id AtRel DN BigF (EndsAt P fun v w' => R (.returned v) w') (G { (base f).at a todo with mode := .returning } []) w := by
    intro a todo w hall
    refine .stop fun w₁ hr => ?_
    obtain ⟨hd, v, hv, _, _, hRv⟩ := hall w₁ hr
    refine ⟨rfl, v, seen P f ((results fn a.tmps).events P w₁ #[]), ?_, fun e he => Nice.res' fn a.tmps w₁ e (mem_seen he), hRv⟩
    simp [G, stepG, unwind, doReturn, Frame.at, base, hd, hf, Sem.runT_eq, hv, hi, GStep.after]
  refine h (base f) [] [] _ (by simp [base]) fun e a' w' hq => ?_
  cases e with
  | normal => exact @TrK.ctl EF P w' _ _ _ rfl (fun _ => stepG_end) (leave a' [] w' hq)
  | ret => exact fun todo => leave a' todo w' hq
  | exit id => exact (hq w' (atRel_refl w')).elim
  | goto l => exact (hq w' (atRel_refl w')).elim
  | panic ch => obtain ⟨_, _, e, _⟩ := hq w' (atRel_refl w'); cases e
  | outgrown => obtain ⟨_, e, _⟩ := hq w' (atRel_refl w'); cases e
/-- One good run, from the start. -/
theorem LawK.runs {f : FuncId} {args : Array Value} {w : World} {R : Ending → World → Prop} (h : LawK Try.prog f args w R) :
    ∃ M last o w' t', runNT Try.prog (M + 1) (solo (G (Frame.enter Try.prog f args .normal) []) w) #[] = (.ended o w', t') ∧ runN Try.prog M (solo (G (Frame.enter Try.prog f args .normal) []) w) = .next last ∧
      step Try.prog last = .ended o w' ∧ Conc.Good Try.prog (fun v W' => R (.returned v) W') last o w' t' := by
  have h0 : Sit Try.prog (G (Frame.enter Try.prog f args .normal) []) w (solo (G (Frame.enter Try.prog f args .normal) []) w) #[] := by
    refine ⟨⟨#[G (Frame.enter Try.prog f args .normal) []], w.drawn, none, fun _ => 0, rfl, rfl, fun i g hi hg => ?_⟩, .nil⟩
    rw [Array.getElem?_eq_none (by simp; omega)] at hg
    cases hg
  obtain ⟨N, m', t', g', w', r1, hS, hE⟩ := tree_run bigF_runs h _ _ h0
  obtain ⟨M, last, o, w2, t2, e1, e2, e3, e4⟩ := hS.ends hE
  refine ⟨N + M, last, o, w2, t2, ?_, ?_, e3, e4⟩
  · rw [Nat.add_assoc, runNT_add, r1]
    exact e1
  · have := runNT_fst Try.prog (N + M) (solo (G (Frame.enter Try.prog f args .normal) []) w) #[]
    rw [runNT_add, r1] at this
    have h2 := runNT_fst Try.prog M m' t'
    rw [← this]
    exact h2.trans e2

def LawA (P : Program) (f : FuncId) (args : List SV) (R : AV → Prop) : Prop :=
  ∀ (w : World) (S : Stab) (vs : Array Value), InH w S → SvsR (Rep w S) args vs.toList →
    LawK P f vs w fun e w' => ∃ v x S', e = .returned v ∧ R x ∧ Ext w S w' S' ∧ InH w' S' ∧ AVR (Rep w' S') x v
theorem lawA_of [Nice P] {f : FuncId} {fn : Func} {body : Code} {args : List SV} {R : AV → Prop} (hf : P.funcs[f]? = some fn) (hb : fn.body = some body) {nt : Nat} (hnt : fn.ntmps = nt) (hn : args.length ≤ nt)
    (h : ∀ w0 S0, @AWC EF P (Ctx.of w0 S0 nt) body (Done P fn R) ⟨argT args, []⟩) (hi : P.inits.idxOf? f = none := by kernel_rfl) (hok : @OkE EF body := by exact ⟨by kernel_rfl, fun h => by cases h⟩) : LawA P f args R := by
  letI := EF
  subst hnt
  intro w S vs hS hv
  refine law_of_wpX hf hb hi ?_
  have hlen : vs.size = args.length := by have := hv.1; simp at this; omega
  have hget : ∀ i, (vs ++ Array.replicate (fn.ntmps - vs.size) undef).getD i undef = vs.getD i undef := by
    intro i
    simp only [Array.getD_eq_getD_getElem?, Array.getElem?_append]
    split
    · rfl
    · rename_i hi
      rw [Array.getElem?_replicate]
      have : vs[i]? = none := Array.getElem?_eq_none (by omega)
      rw [this]
      split <;> rfl
  have r0 : Rel (Ctx.of w S fn.ntmps) ⟨argT args, []⟩ { tmps := vs ++ Array.replicate (fn.ntmps - vs.size) undef, defers := [] } w S (fun _ => undef) := by
    refine ⟨by simp; omega, rfl, fun i => ?_, fun p b h => by simp at h, fun p b g h => by simp at h, fun p q b b' g h => by simp at h, fun p b g i h => by simp at h, hS, ExtX.refl _ w S, Nat.zero_le _, fun p g h => absurd h (Nat.not_lt_zero _), fun p e sz k cs h => absurd h (Nat.not_lt_zero _), fun p h => absurd h (Nat.not_lt_zero _)⟩
    rw [hget]
    show AVR _ (match args[i]? with | some x => .s x | none => .tup []) _
    cases ha : args[i]? with
    | none =>
      have : vs[i]? = none := Array.getElem?_eq_none (by rw [hlen]; exact List.getElem?_eq_none_iff.1 ha)
      simp only [Array.getD_eq_getD_getElem?, this, Option.getD_none]
      exact avr_undef
    | some x =>
      have hi : i < args.length := (List.getElem?_eq_some_iff.1 ha).1
      have hi' : i < vs.size := by omega
      have : vs[i]? = some vs[i] := Array.getElem?_eq_getElem hi'
      simp only [Array.getD_eq_getD_getElem?, this, Option.getD_some]
      exact SVR.mono (fun _ _ => GRep.of_rep) (hv.2 i x _ ha (by simp))
  intro b k cs Z hbk hz
  refine h w S _ _ _ _ r0 hok b k cs Z hbk fun e a w1 hq => hz e a w1 fun w2 hr => ?_
  replace hq := QR.atw hr hq
  obtain ⟨st, S1, H, r, he, xs, ys, m', hx, hp, hR⟩ := hq
  obtain ⟨u, hu, hk⟩ := results_run r hx
  obtain ⟨S2, k2, g2⟩ := hp.keeps r
  have hav := hk S2 ys g2
  have hfin : ∃ v x S', Ending.returned u = .returned v ∧ R x ∧ Ext w S w2 S' ∧ InH w2 S' ∧ AVR (Rep w2 S') x v := ⟨u, resOf ys, S2, rfl, hR, k2.rel.ex.toExt (fun _ h => h), k2.rel.sl, hav⟩
  rcases he with rfl | rfl
  · exact ⟨r.df, u, hu, u, rfl, hfin⟩
  · exact ⟨r.df, u, hu, u, rfl, hfin⟩

section
variable {P : Program} [Nice P] {H : Type} {enc : TypeId × Value → H} {W W' : World}
instance iEF : Env := EF
omit [Nice P] in
theorem law_leaves {f : FuncId} {fn : Func} {s : ChangeSpec} {apart fresh handsOn : Bool} {tb : TypeId} (hl : laidOutB P = true) (shs : List Sh) (hp : okParams P shs fn.params.toList = true) (hres : fn.resultTypes = #[tb]) (htb : P.underlying tb = some .bool)
    (hvars : s.vars = []) (hs : ∀ ds : List (DataW H), ds.length = fn.params.toList.length → s.fn H ds = { results := [.lit (.bool true)], args := ds })
    (hf : ∀ xs, FitsAll shs xs → LawA P f xs (· = .s (.one (.b true)))) (hG : GLR W (allS W))
    (base : Nat) (args : Array Value) (ds gs : List (DataW H)) (before : List MemPlace)
    (hval : ∀ (j : Nat) t v, fn.params[j]? = some t → args[j]? = some v → Value.okWide P W .any base t v) (hW : DataW.Whole enc P fn.params.toList s.vars apart W args.toList ds gs before) :
    LawK P f args W fun e W' => ∃ v, e = .returned v ∧ s.post enc P fn apart fresh handsOn false W args v W' := by
  have hlt := hW.lt
  have hW' := hW
  obtain ⟨p, q, hA, hV, hpq, _, _⟩ := hW'
  obtain ⟨xs, h1, h2⟩ := open_all hp hA (fun j t v e1 e2 => hval j t v (by simpa using e1) (by simpa using e2))
  refine (hf xs h1 W (allS W) args (allS_in W hG) h2).mono ?_
  rintro e W' ⟨v, x, S', rfl, rfl, hext, _, hv⟩
  have hv : v = .bool true := rep_b hv
  subst hv
  have hlen : ds.length = fn.params.toList.length := by
    have : ∀ {ts : List TypeId} {vs : List Value} {ds : List (DataW H)} {ps : List MemPlace}, DataW.TrodAll enc P W 0 (fun _ => true) true ts vs ds ps → ds.length = ts.length := by
      intro ts
      induction ts with
      | nil => intro vs ds ps h; cases vs <;> cases ds <;> simp_all [DataW.TrodAll]
      | cons t ts ih =>
        intro vs ds ps h
        cases vs <;> cases ds <;> simp only [DataW.TrodAll] at h
        obtain ⟨p, q, _, h2, _⟩ := h
        simp [ih h2]
    exact this hA
  rw [hvars] at hV
  have hgs : gs = [] ∧ q = [] := by
    cases gs with
    | nil => exact ⟨rfl, hV⟩
    | cons g gs => exact hV.elim
  obtain ⟨rfl, rfl⟩ := hgs
  refine ⟨_, rfl, ds, [], before, [], p, [], hW, ?_, ?_, ?_, hext.below.frame _, fun h => by cases h⟩
  · rw [List.append_nil, hs ds hlen, hres]
    exact ⟨[], [], ⟨1, by simp [DataW.trod, Value.cells, htb]⟩, rfl, rfl⟩
  · rw [List.append_nil, hs ds hlen]
    exact again_all hl hext.below hp hA (fun x hx => hlt x (by rw [hpq]; exact List.mem_append_left _ hx))
  · rw [List.append_nil, hs ds hlen, hvars]
    rfl
end
end Go.Proofs.Ytnphcnhejgpjgaa.Abs
end
section
namespace Go.Proofs.Ytnphcnhejgpjgaa.Abs
theorem wI_id {n : Int} (h1 : -9223372036854775808 ≤ n) (h2 : n ≤ 9223372036854775807) : wI n = n := by
  unfold wI IntKind.wrap
  simp [IntKind.bits, IntKind.signed]
  omega
theorem lt_fuel {n : Nat} (h : n ≤ 1000000000000000000) : n < fuel := by unfold fuel; omega
theorem idx_nat {α : Type} (xs : List α) (i : Nat) : idx xs (i : Int) = xs[i]? := by
  unfold idx
  rw [if_pos (Int.natCast_nonneg i), Int.toNat_natCast]
theorem idx_get {α : Type} {xs : List α} {j : Int} (h0 : 0 ≤ j) (h1 : j < xs.length) : ∃ x, idx xs j = some x ∧ xs[j.toNat]? = some x := by
  have h : j.toNat < xs.length := by omega
  exact ⟨xs[j.toNat], by unfold idx; rw [if_pos h0, List.getElem?_eq_getElem h], List.getElem?_eq_getElem h⟩
theorem idx_of {α : Type} {xs : List α} {j : Int} {x : α} (h0 : 0 ≤ j) (h : xs[j.toNat]? = some x) : idx xs j = some x := by
  unfold idx
  rw [if_pos h0, h]
theorem iterB_inv {σ β : Type} {f : σ → Option (LB σ β)} {P : σ → Prop} {μ : σ → Nat} {R : β → Prop}
    (h : ∀ s, P s → (∃ s', f s = some (.cont s') ∧ P s' ∧ μ s' < μ s) ∨ ∃ b, f s = some (.brk b) ∧ R b) : ∀ (n : Nat) (s : σ), P s → μ s < n → ∃ b, iterB f n s = some b ∧ R b
  | 0, s, _, hm => by omega
  | n + 1, s, hp, hm => by
    rcases h s hp with ⟨s', hf, hp', hlt⟩ | ⟨b, hf, hr⟩
    · obtain ⟨b, hb, hr⟩ := iterB_inv h n s' hp' (by omega)
      exact ⟨b, by rw [iterB, hf]; exact hb, hr⟩
    · exact ⟨b, by rw [iterB, hf], hr⟩
theorem iter_inv {σ β ρ : Type} {f : σ → Option (LR σ β ρ)} {P : σ → Prop} {μ : σ → Nat} {R : Sum ρ β → Prop}
    (h : ∀ s, P s → (∃ s', f s = some (.cont s') ∧ P s' ∧ μ s' < μ s) ∨ (∃ b, f s = some (.brk b) ∧ R (.inr b)) ∨ ∃ r, f s = some (.ret r) ∧ R (.inl r)) : ∀ (n : Nat) (s : σ), P s → μ s < n → ∃ b, iter f n s = some b ∧ R b
  | 0, s, _, hm => by omega
  | n + 1, s, hp, hm => by
    rcases h s hp with ⟨s', hf, hp', hlt⟩ | ⟨b, hf, hr⟩ | ⟨b, hf, hr⟩
    · obtain ⟨b, hb, hr⟩ := iter_inv h n s' hp' (by omega)
      exact ⟨b, by rw [iter, hf]; exact hb, hr⟩
    · exact ⟨.inr b, by rw [iter, hf], hr⟩
    · exact ⟨.inl b, by rw [iter, hf], hr⟩

/-- A loop over a row, told as a fold. -/
theorem iterB_fold {α σ β τ : Type} {f : τ → Option (LB τ β)} (st : σ → Nat → τ) (xs : List α) (g : σ → α → σ) (out : σ → β) (hl : xs.length < 1000000000000000000000000)
    (h1 : ∀ acc i x, xs[i]? = some x → f (st acc i) = some (.cont (st (g acc x) (i + 1)))) (h2 : ∀ acc, f (st acc xs.length) = some (.brk (out acc))) (a0 : σ) : iterB f fuel (st a0 0) = some (out (xs.foldl g a0)) := by
  have key : ∀ (k i : Nat) (acc : σ) (n : Nat), k + i = xs.length → k < n → iterB f n (st acc i) = some (out ((xs.drop i).foldl g acc)) := by
    intro k
    induction k with
    | zero =>
      intro i acc n hi hn
      obtain ⟨m, rfl⟩ : ∃ m, n = m + 1 := ⟨n - 1, by omega⟩
      have : i = xs.length := by omega
      subst this
      rw [iterB, h2, List.drop_length]
      rfl
    | succ k ih =>
      intro i acc n hi hn
      obtain ⟨m, rfl⟩ : ∃ m, n = m + 1 := ⟨n - 1, by omega⟩
      have hlt : i < xs.length := by omega
      rw [iterB, h1 acc i xs[i] (List.getElem?_eq_getElem hlt), List.drop_eq_getElem_cons hlt, List.foldl_cons]
      exact ih (i + 1) _ m (by omega) (by omega)
  have := key xs.length 0 a0 fuel (by omega) hl
  rwa [List.drop_zero] at this
theorem find_none {α : Type} {xs : List α} {p : α → Bool} (h : ∀ x ∈ xs, p x = false) : xs.find? p = none := List.find?_eq_none.2 fun x hx => by rw [h x hx]; decide
theorem scanR {α ρ : Type} (xs : List α) (p : α → Bool) (g : α → ρ) (f : Int → Option (LR Int Unit ρ)) (hl : xs.length ≤ 1000000000000000000)
    (h : ∀ (i : Nat) x, xs[i]? = some x → f (i : Int) = some (if p x then .ret (g x) else .cont ((i + 1 : Nat) : Int))) (hend : f (xs.length : Int) = some (.brk ())) :
    iter f fuel 0 = some (match xs.find? p with | some x => .inl (g x) | none => .inr ()) := by
  obtain ⟨v, hv, hr⟩ := iter_inv (f := f) (P := fun s => ∃ i : Nat, i ≤ xs.length ∧ s = (i : Int) ∧ xs.find? p = (xs.drop i).find? p) (μ := fun s => xs.length - s.toNat)
    (R := fun r => r = (match xs.find? p with | some x => Sum.inl (g x) | none => Sum.inr ())) (by
      rintro _ ⟨i, hi, rfl, hp⟩
      rcases Nat.lt_or_ge i xs.length with hlt | hge
      · have hx := List.getElem?_eq_getElem hlt
        have hf := h i _ hx
        have hd : xs.drop i = xs[i] :: xs.drop (i + 1) := List.drop_eq_getElem_cons hlt
        cases hpx : p xs[i] with
        | true =>
          rw [hpx, if_pos rfl] at hf
          refine .inr (.inr ⟨_, hf, ?_⟩)
          rw [hp, hd, List.find?_cons, hpx]
        | false =>
          rw [hpx, if_neg (by decide)] at hf
          refine .inl ⟨_, hf, ⟨i + 1, hlt, rfl, ?_⟩, by simp only [Int.toNat_natCast]; omega⟩
          rw [hp, hd, List.find?_cons, hpx]
      · have e : i = xs.length := by omega
        subst e
        refine .inr (.inl ⟨(), hend, ?_⟩)
        rw [hp, List.drop_length]; rfl) fuel 0 ⟨0, Nat.zero_le _, rfl, rfl⟩ (lt_fuel (by show xs.length - 0 ≤ _; omega))
  rw [hv, hr]
theorem allR {α ρ : Type} (xs : List α) (p : α → Bool) (no : ρ) (f : Int → Option (LR Int Unit ρ)) (hl : xs.length ≤ 1000000000000000000)
    (h : ∀ (i : Nat) x, xs[i]? = some x → f (i : Int) = some (if p x then .cont ((i + 1 : Nat) : Int) else .ret no)) (hend : f (xs.length : Int) = some (.brk ())) :
    iter f fuel 0 = some (if xs.all p then .inr () else .inl no) := by
  rw [scanR xs (fun x => !p x) (fun _ => no) f hl (fun i x hx => by
    rw [h i x hx]
    cases p x <;> rfl) hend]
  cases ha : xs.all p with
  | true =>
    rw [find_none fun x hx => by rw [List.all_eq_true.1 ha x hx]; rfl]; rfl
  | false =>
    obtain ⟨x, hx, hp⟩ := List.all_eq_false.1 ha
    cases hf : xs.find? (fun x => !p x) with
    | none => exact absurd (List.find?_eq_none.1 hf x hx) (by simpa using hp)
    | some y => rfl
theorem collB {α β : Type} (xs : List α) (g : α → List β) (f : Int × List β → Option (LB (Int × List β) (List β))) (k : Nat) (hg : ∀ x, (g x).length ≤ k) (hl : xs.length ≤ 1000000000000000000)
    (h : ∀ (i : Nat) x acc, xs[i]? = some x → acc.length ≤ i * k → f ((i : Int), acc) = some (.cont (((i + 1 : Nat) : Int), acc ++ g x))) (hend : ∀ acc, f ((xs.length : Int), acc) = some (.brk acc)) :
    iterB f fuel (0, []) = some (xs.flatMap g) := by
  obtain ⟨v, hv, hr⟩ := iterB_inv (f := f) (P := fun s => ∃ i : Nat, i ≤ xs.length ∧ s = ((i : Int), (xs.take i).flatMap g)) (μ := fun s => xs.length - s.1.toNat) (R := fun v => v = xs.flatMap g) (by
    rintro _ ⟨i, hi, rfl⟩
    rcases Nat.lt_or_ge i xs.length with hlt | hge
    · left
      have hlen : ((xs.take i).flatMap g).length ≤ i * k := by
        have key : ∀ l : List α, (l.flatMap g).length ≤ l.length * k := fun l => by
          induction l with
          | nil => simp
          | cons a l ih =>
            rw [List.flatMap_cons, List.length_append, List.length_cons, Nat.succ_mul]
            have := hg a
            omega
        have := key (xs.take i)
        rwa [List.length_take, Nat.min_eq_left hi] at this
      refine ⟨_, h i _ _ (List.getElem?_eq_getElem hlt) hlen, ⟨i + 1, hlt, ?_⟩, by simp only [Int.toNat_natCast]; omega⟩
      rw [List.take_succ_eq_append_getElem hlt, List.flatMap_append]; simp
    · right
      have e : i = xs.length := by omega
      subst e
      exact ⟨_, hend _, by rw [List.take_length]⟩) fuel (0, []) ⟨0, Nat.zero_le _, by simp⟩ (lt_fuel (by show xs.length - 0 ≤ _; omega))
  rw [hv, hr]
theorem anyB {α : Type} (xs : List α) (p : α → Bool) (f : Bool × Int → Option (LB (Bool × Int) Bool)) (hl : xs.length ≤ 1000000000000000000)
    (h : ∀ (i : Nat) x b, xs[i]? = some x → f (b, (i : Int)) = some (.cont (b || p x, ((i + 1 : Nat) : Int)))) (hend : ∀ b, f (b, (xs.length : Int)) = some (.brk b)) : iterB f fuel (false, 0) = some (xs.any p) := by
  obtain ⟨v, hv, hr⟩ := iterB_inv (f := f) (P := fun s => ∃ i : Nat, i ≤ xs.length ∧ s = ((xs.take i).any p, (i : Int))) (μ := fun s => xs.length - s.2.toNat) (R := fun x => x = xs.any p) (by
    rintro _ ⟨i, hi, rfl⟩
    rcases Nat.lt_or_ge i xs.length with hlt | hge
    · left
      refine ⟨_, h i _ _ (List.getElem?_eq_getElem hlt), ⟨i + 1, hlt, ?_⟩, by simp only [Int.toNat_natCast]; omega⟩
      rw [List.take_succ_eq_append_getElem hlt, List.any_append]; simp
    · right
      have e : i = xs.length := by omega
      subst e
      exact ⟨_, hend _, by rw [List.take_length]⟩) fuel (false, 0) ⟨0, Nat.zero_le _, by simp⟩ (lt_fuel (by show xs.length - 0 ≤ _; omega))
  rw [hv, hr]

/-! Numbers that rise -/
end Go.Proofs.Ytnphcnhejgpjgaa.Abs
end
section
namespace Go.Proofs.Ytnphcnhejgpjgaa.Abs
theorem wI_nat {n : Nat} (h : n ≤ 1000000000000000000) : wI (n : Int) = n := wI_id (by omega) (by omega)
theorem wI_succ {n : Nat} (h : n ≤ 1000000000000000000) : wI ((n : Int) + 1) = ((n + 1 : Nat) : Int) := by rw [wI_id (by omega) (by omega)]; simp
def clr (l : List GTimersTimer) (id : Int) : List GTimersTimer := l.filter fun x => !decide (x.ID = id)
def rclr (l : List GR13Timer) (id : Int) : List GR13Timer := l.filter fun x => !decide (x.ID = id)
theorem flat_if {α : Type} (p : α → Bool) (l : List α) : (l.flatMap fun x => if p x then [x] else []) = l.filter p := by
  induction l with
  | nil => rfl
  | cons a l ih => rw [List.flatMap_cons, ih, List.filter_cons]; split <;> rfl
theorem clear_m {a : GTimersTable} (id : Int) (hl : a.L.length ≤ 1000) : m22_timers_Clear a id = some ⟨a.Now, clr a.L id⟩ := by
  unfold m22_timers_Clear
  rw [collB a.L (fun x => if !decide (x.ID = id) then [x] else []) (m22_timers_Clear_s2 a id) 1 (fun x => by split <;> simp) (by omega) (fun i x acc hx ha => ?_) (fun acc => ?_)]
  · simp only [Option.bind_some, m22_timers_Clear_k1]
    rw [flat_if]
    rfl
  · have hi := (List.getElem?_eq_some_iff.1 hx).1
    unfold m22_timers_Clear_s2
    dsimp only
    rw [if_pos (decide_eq_true (by omega)), idx_nat, hx]
    simp only [Option.bind_some]
    rw [wI_succ (by omega)]
    by_cases hd : x.ID = id
    · simp [hd]
    · rw [if_pos (by simp [hd]), if_pos (by simp; omega), if_pos (by simp [hd])]
  · unfold m22_timers_Clear_s2
    dsimp only
    rw [if_neg (by simp)]
theorem rclear_m {a : GR13Table} (id : Int) (hl : a.L.length ≤ 1000) : m23_r13_Clear a id = some ⟨a.Now, rclr a.L id⟩ := by
  unfold m23_r13_Clear
  rw [collB a.L (fun x => if !decide (x.ID = id) then [x] else []) (m23_r13_Clear_s2 a id) 1 (fun x => by split <;> simp) (by omega) (fun i x acc hx ha => ?_) (fun acc => ?_)]
  · simp only [Option.bind_some, m23_r13_Clear_k1]
    rw [flat_if]
    rfl
  · have hi := (List.getElem?_eq_some_iff.1 hx).1
    unfold m23_r13_Clear_s2
    dsimp only
    rw [if_pos (decide_eq_true (by omega)), idx_nat, hx]
    simp only [Option.bind_some]
    rw [wI_succ (by omega)]
    by_cases hd : x.ID = id
    · simp [hd]
    · rw [if_pos (by simp [hd]), if_pos (by simp; omega), if_pos (by simp [hd])]
  · unfold m23_r13_Clear_s2
    dsimp only
    rw [if_neg (by simp)]
def tk (x : GR13Timer) : GTimersTimer := ⟨x.ID, x.At⟩
def rtk (x : GTimersTimer) : GR13Timer := ⟨x.ID, x.At⟩
theorem ours_m {a : GR13Table} (hl : a.L.length ≤ 1000) : m8_l13_ours a = some ⟨a.Now, a.L.map tk⟩ := by
  unfold m8_l13_ours
  rw [collB a.L (fun x => [tk x]) (m8_l13_ours_s2 a) 1 (fun x => by simp) (by omega) (fun i x acc hx ha => ?_) (fun acc => ?_)]
  · simp only [Option.bind_some, m8_l13_ours_k1]
    rw [← List.map_eq_flatMap]
  · have hi := (List.getElem?_eq_some_iff.1 hx).1
    unfold m8_l13_ours_s2
    dsimp only
    rw [if_pos (decide_eq_true (by omega)), idx_nat, hx]
    simp only [Option.bind_some]
    rw [wI_succ (by omega), if_pos (by simp; omega)]
    rfl
  · unfold m8_l13_ours_s2
    dsimp only
    rw [if_neg (by simp)]
theorem theirs_m {a : GTimersTable} (hl : a.L.length ≤ 1000) : m14_l13_theirs a = some ⟨a.Now, a.L.map rtk⟩ := by
  unfold m14_l13_theirs
  rw [collB a.L (fun x => [rtk x]) (m14_l13_theirs_s2 a) 1 (fun x => by simp) (by omega) (fun i x acc hx ha => ?_) (fun acc => ?_)]
  · simp only [Option.bind_some, m14_l13_theirs_k1]
    rw [← List.map_eq_flatMap]
  · have hi := (List.getElem?_eq_some_iff.1 hx).1
    unfold m14_l13_theirs_s2
    dsimp only
    rw [if_pos (decide_eq_true (by omega)), idx_nat, hx]
    simp only [Option.bind_some]
    rw [wI_succ (by omega), if_pos (by simp; omega)]
    rfl
  · unfold m14_l13_theirs_s2
    dsimp only
    rw [if_neg (by simp)]
theorem same_m {a : GR13Table} (hl : a.L.length ≤ 1000) : m13_r13_Same a a = some true := by
  unfold m13_r13_Same
  rw [if_neg (by simp), if_neg (by simp)]
  unfold m13_r13_Same_k1
  rw [allR a.L (fun _ => true) false (m13_r13_Same_s3 a a) (by omega) (fun i x hx => ?_) ?_]
  · simp [m13_r13_Same_k2]
  · unfold m13_r13_Same_s3
    rw [if_neg (by simp)]
  · have hi := (List.getElem?_eq_some_iff.1 hx).1
    unfold m13_r13_Same_s3
    rw [if_pos (decide_eq_true (by omega)), idx_nat, hx]
    simp [wI_succ (show i ≤ 1000000000000000000 by omega)]
theorem ints_m {l : List Int} (hl : l.length ≤ 1000) : m15_r10_Ints l l = some true := by
  unfold m15_r10_Ints
  rw [if_neg (by simp)]
  rw [allR l (fun _ => true) false (m15_r10_Ints_s2 l l) (by omega) (fun i x hx => ?_) ?_]
  · simp [m15_r10_Ints_k1]
  · unfold m15_r10_Ints_s2
    rw [if_neg (by simp)]
  · have hi := (List.getElem?_eq_some_iff.1 hx).1
    unfold m15_r10_Ints_s2
    rw [if_pos (decide_eq_true (by omega)), idx_nat, hx]
    simp [wI_succ (show i ≤ 1000000000000000000 by omega)]
theorem has_m {l : List Int} (n : Int) (hl : l.length ≤ 1000) : m25_l13_has l n = some (l.any fun x => decide (x = n)) := by
  unfold m25_l13_has
  rw [scanR l (fun x => decide (x = n)) (fun _ => true) (m25_l13_has_s2 l n) (by omega) (fun i x hx => ?_) ?_]
  · simp only [Option.bind_some]
    cases h : l.find? fun x => decide (x = n) with
    | none =>
      have : (l.any fun x => decide (x = n)) = false := by
        rw [List.any_eq_false]
        intro x hx
        simpa using List.find?_eq_none.1 h x hx
      simp [m25_l13_has_k1, this]
    | some y =>
      have : (l.any fun x => decide (x = n)) = true := by
        have h2 := List.find?_some h
        exact List.any_eq_true.2 ⟨y, List.mem_of_find?_eq_some h, by simpa using h2⟩
      rw [this]
  · unfold m25_l13_has_s2
    rw [if_neg (by simp)]
  · have hi := (List.getElem?_eq_some_iff.1 hx).1
    unfold m25_l13_has_s2
    rw [if_pos (decide_eq_true (by omega)), idx_nat, hx]
    simp only [Option.bind_some]
    rw [wI_succ (by omega)]
    split <;> rfl
/-- What timers may be. -/
structure Snd (now : Int) (l : List GTimersTimer) : Prop where
  n0 : 0 ≤ now
  n1 : now ≤ 1099511627776
  len : l.length ≤ 64
  asc : l.Pairwise fun x y => x.ID < y.ID
  each : ∀ x ∈ l, 0 ≤ x.ID ∧ now < x.At ∧ x.At ≤ 2199023255552
/-- .. of those behind one of that ID. -/
def Up (now last : Int) (l : List GTimersTimer) : Prop := (l.Pairwise fun x y => x.ID < y.ID) ∧ ∀ x ∈ l, last < x.ID ∧ now < x.At ∧ x.At ≤ 2199023255552
theorem up_cons {now last : Int} {x : GTimersTimer} {l : List GTimersTimer} : Up now last (x :: l) ↔ (last < x.ID ∧ now < x.At ∧ x.At ≤ 2199023255552) ∧ Up now x.ID l := by
  constructor
  · rintro ⟨h1, h2⟩
    rw [List.pairwise_cons] at h1
    exact ⟨h2 x (List.mem_cons_self ..), h1.2, fun y hy => ⟨h1.1 y hy, (h2 y (List.mem_cons_of_mem _ hy)).2⟩⟩
  · rintro ⟨h1, h2, h3⟩
    refine ⟨List.pairwise_cons.2 ⟨fun y hy => (h3 y hy).1, h2⟩, fun y hy => ?_⟩
    rcases List.mem_cons.1 hy with rfl | hy
    · exact h1
    · exact ⟨Int.lt_trans h1.1 (h3 y hy).1, (h3 y hy).2⟩
theorem up_nil {now last : Int} : Up now last [] := ⟨.nil, fun x h => by cases h⟩
theorem sane_m (a : GTimersTable) : ∃ b, m20_timers_Sane a = some b ∧ (b = true ↔ Snd a.Now a.L) := by
  unfold m20_timers_Sane
  by_cases h0 : a.Now < 0
  · rw [if_pos (decide_eq_true h0)]
    exact ⟨false, rfl, by simp, fun h => by have := h.n0; omega⟩
  rw [if_neg (by simpa using h0)]
  by_cases h1 : 1099511627776 < a.Now
  · rw [if_pos (decide_eq_true h1)]
    exact ⟨false, rfl, by simp, fun h => by have := h.n1; omega⟩
  rw [if_neg (by simpa using h1)]
  by_cases h2 : 64 < (a.L.length : Int)
  · rw [if_pos (decide_eq_true h2)]
    exact ⟨false, rfl, by simp, fun h => by have := h.len; omega⟩
  rw [if_neg (by simpa using h2)]
  unfold m20_timers_Sane_k1
  obtain ⟨v, hv, hr⟩ := iter_inv (f := m20_timers_Sane_s3 a) (P := fun s => ∃ i : Nat, i ≤ a.L.length ∧ s.2 = (i : Int) ∧ (Up a.Now (-1) a.L ↔ Up a.Now s.1 (a.L.drop i))) (μ := fun s => a.L.length - s.2.toNat)
    (R := fun r => (r = .inl false ∧ ¬ Up a.Now (-1) a.L) ∨ (r = .inr () ∧ Up a.Now (-1) a.L)) (by
      rintro ⟨last, j⟩ ⟨i, hi, hj, hu⟩
      obtain rfl : j = (i : Int) := hj
      dsimp only at hu
      unfold m20_timers_Sane_s3
      dsimp only
      rcases Nat.lt_or_ge i a.L.length with hlt | hge
      · have hx := List.getElem?_eq_getElem hlt
        have hd : a.L.drop i = a.L[i] :: a.L.drop (i + 1) := List.drop_eq_getElem_cons hlt
        rw [hd, up_cons] at hu
        rw [if_pos (decide_eq_true (by omega)), idx_nat, hx]
        simp only [Option.bind_some]
        by_cases c1 : a.L[i].ID ≤ last
        · rw [if_pos (decide_eq_true c1)]
          exact .inr (.inr ⟨_, rfl, .inl ⟨rfl, fun h => by have := (hu.1 h).1.1; omega⟩⟩)
        rw [if_neg (by simpa using c1)]
        by_cases c2 : a.L[i].At ≤ a.Now
        · rw [if_pos (decide_eq_true c2)]
          exact .inr (.inr ⟨_, rfl, .inl ⟨rfl, fun h => by have := (hu.1 h).1.2.1; omega⟩⟩)
        rw [if_neg (by simpa using c2)]
        by_cases c3 : 2199023255552 < a.L[i].At
        · rw [if_pos (decide_eq_true c3)]
          exact .inr (.inr ⟨_, rfl, .inl ⟨rfl, fun h => by have := (hu.1 h).1.2.2; omega⟩⟩)
        rw [if_neg (by simpa using c3)]
        unfold m20_timers_Sane_k5
        rw [wI_succ (by omega)]
        refine .inl ⟨_, rfl, ⟨i + 1, hlt, rfl, hu.trans ⟨fun h => h.2, fun h => ⟨⟨by omega, by omega, by omega⟩, h⟩⟩⟩, ?_⟩
        simp only [Int.toNat_natCast]
        omega
      · rw [if_neg (by simp; omega)]
        refine .inr (.inl ⟨_, rfl, .inr ⟨rfl, hu.2 ?_⟩⟩)
        rw [List.drop_eq_nil_iff.2 hge]
        exact up_nil) fuel (-1, 0) ⟨0, Nat.zero_le _, rfl, by simp⟩ (lt_fuel (by show a.L.length - _ ≤ _; omega))
  rw [hv]
  have key : Up a.Now (-1) a.L ↔ Snd a.Now a.L := ⟨fun h => ⟨by omega, by omega, by omega, h.1, fun x hx => ⟨by have := (h.2 x hx).1; omega, (h.2 x hx).2⟩⟩, fun h => ⟨h.asc, fun x hx => ⟨by have := (h.each x hx).1; omega, (h.each x hx).2⟩⟩⟩
  rcases hr with ⟨rfl, hn⟩ | ⟨rfl, hn⟩
  · exact ⟨false, rfl, by simp, fun h => absurd (key.2 h) hn⟩
  · exact ⟨true, rfl, fun _ => key.1 hn, fun _ => rfl⟩
theorem rsane_m (a : GR13Table) : ∃ b, m21_r13_Sane a = some b ∧ (b = true ↔ Snd a.Now (a.L.map tk)) := by
  unfold m21_r13_Sane
  by_cases h0 : a.Now < 0
  · rw [if_pos (decide_eq_true h0)]
    exact ⟨false, rfl, by simp, fun h => by have := h.n0; omega⟩
  rw [if_neg (by simpa using h0)]
  by_cases h1 : 1099511627776 < a.Now
  · rw [if_pos (decide_eq_true h1)]
    exact ⟨false, rfl, by simp, fun h => by have := h.n1; omega⟩
  rw [if_neg (by simpa using h1)]
  by_cases h2 : 64 < (a.L.length : Int)
  · rw [if_pos (decide_eq_true h2)]
    exact ⟨false, rfl, by simp, fun h => by have := h.len; simp at this; omega⟩
  rw [if_neg (by simpa using h2)]
  unfold m21_r13_Sane_k1
  obtain ⟨v, hv, hr⟩ := iter_inv (f := m21_r13_Sane_s3 a) (P := fun s => ∃ i : Nat, i ≤ a.L.length ∧ s = (i : Int) ∧ ∃ last : Int, (Up a.Now (-1) (a.L.map tk) ↔ Up a.Now last ((a.L.drop i).map tk)) ∧ ((i = 0 ∧ last = -1) ∨ (0 ≤ last ∧ ∃ y, a.L[i - 1]? = some y ∧ y.ID = last ∧ 0 < i))) (μ := fun s => a.L.length - s.toNat)
    (R := fun r => (r = .inl false ∧ ¬ Up a.Now (-1) (a.L.map tk)) ∨ (r = .inr () ∧ Up a.Now (-1) (a.L.map tk))) (by
      rintro _ ⟨i, hi, rfl, last, hu, hlast⟩
      unfold m21_r13_Sane_s3
      rcases Nat.lt_or_ge i a.L.length with hlt | hge
      · have hx := List.getElem?_eq_getElem hlt
        have hd : a.L.drop i = a.L[i] :: a.L.drop (i + 1) := List.drop_eq_getElem_cons hlt
        rw [hd, List.map_cons, up_cons] at hu
        rw [if_pos (decide_eq_true (by omega)), idx_nat, hx]
        simp only [Option.bind_some]
        have bad : ∀ (h : ¬ (last < a.L[i].ID ∧ a.Now < a.L[i].At ∧ a.L[i].At ≤ 2199023255552)), ¬ Up a.Now (-1) (a.L.map tk) := fun h k => h (hu.1 k).1
        have tail : ∀ (hl : last < a.L[i].ID) (h0 : 0 ≤ a.L[i].ID), ∃ r, (if (decide (a.L[i].At ≤ a.Now)) then (some (LR.ret false)) else (if (decide (2199023255552 < a.L[i].At)) then (some (.ret false)) else (some (.cont (wI ((i : Int) + 1)))))) = some r ∧
            ((∃ s', r = .cont s' ∧ (∃ i' : Nat, i' ≤ a.L.length ∧ s' = (i' : Int) ∧ ∃ last : Int, (Up a.Now (-1) (a.L.map tk) ↔ Up a.Now last ((a.L.drop i').map tk)) ∧ ((i' = 0 ∧ last = -1) ∨ (0 ≤ last ∧ ∃ y, a.L[i' - 1]? = some y ∧ y.ID = last ∧ 0 < i'))) ∧ a.L.length - s'.toNat < a.L.length - (i : Int).toNat) ∨ (r = (LR.ret false : LR Int Unit Bool) ∧ ¬ Up a.Now (-1) (a.L.map tk))) := by
          intro hl h0
          by_cases c2 : a.L[i].At ≤ a.Now
          · rw [if_pos (decide_eq_true c2)]
            exact ⟨_, rfl, .inr ⟨rfl, bad fun h => by omega⟩⟩
          rw [if_neg (by simpa using c2)]
          by_cases c3 : 2199023255552 < a.L[i].At
          · rw [if_pos (decide_eq_true c3)]
            exact ⟨_, rfl, .inr ⟨rfl, bad fun h => by omega⟩⟩
          rw [if_neg (by simpa using c3), wI_succ (by omega)]
          refine ⟨_, rfl, .inl ⟨_, rfl, ⟨i + 1, hlt, rfl, a.L[i].ID, hu.trans ⟨fun h => h.2, fun h => ⟨⟨hl, by show a.Now < a.L[i].At; omega, by show a.L[i].At ≤ _; omega⟩, h⟩⟩, .inr ⟨h0, a.L[i], by simp, rfl, by omega⟩⟩, ?_⟩⟩
          simp only [Int.toNat_natCast]
          omega
        by_cases c1 : a.L[i].ID < 0
        · rw [if_pos (decide_eq_true c1)]
          exact .inr (.inr ⟨_, rfl, .inl ⟨rfl, bad fun h => by rcases hlast with h' | h' <;> omega⟩⟩)
        rw [if_neg (by simpa using c1)]
        rcases hlast with ⟨h0, hl⟩ | ⟨hl0, y, hy, hyl, hpos⟩
        · rw [if_neg (by simp; omega)]
          obtain ⟨r, hr, h | h⟩ := tail (by omega) (by omega)
          · obtain ⟨s', rfl, h3, h4⟩ := h
            exact .inl ⟨s', hr, h3, h4⟩
          · obtain ⟨rfl, h3⟩ := h
            exact .inr (.inr ⟨_, hr, .inl ⟨rfl, h3⟩⟩)
        · rw [if_pos (by simp; omega)]
          have e : wI ((i : Int) - 1) = ((i - 1 : Nat) : Int) := by rw [wI_id (by omega) (by omega)]; omega
          rw [e, idx_nat, hy]
          simp only [Option.bind_some]
          by_cases c4 : a.L[i].ID ≤ y.ID
          · rw [if_pos (decide_eq_true c4)]
            exact .inr (.inr ⟨_, rfl, .inl ⟨rfl, bad fun h => by omega⟩⟩)
          rw [if_neg (by simpa using c4)]
          obtain ⟨r, hr, h | h⟩ := tail (by omega) (by omega)
          · obtain ⟨s', rfl, h3, h4⟩ := h
            exact .inl ⟨s', hr, h3, h4⟩
          · obtain ⟨rfl, h3⟩ := h
            exact .inr (.inr ⟨_, hr, .inl ⟨rfl, h3⟩⟩)
      · rw [if_neg (by simp; omega)]
        refine .inr (.inl ⟨_, rfl, .inr ⟨rfl, hu.2 ?_⟩⟩)
        rw [List.drop_eq_nil_iff.2 hge]
        exact up_nil) fuel 0 ⟨0, Nat.zero_le _, rfl, -1, by simp, .inl ⟨rfl, rfl⟩⟩ (lt_fuel (by show a.L.length - _ ≤ _; omega))
  rw [hv]
  have key : Up a.Now (-1) (a.L.map tk) ↔ Snd a.Now (a.L.map tk) := ⟨fun h => ⟨by omega, by omega, by simp; omega, h.1, fun x hx => ⟨by have := (h.2 x hx).1; omega, (h.2 x hx).2⟩⟩, fun h => ⟨h.asc, fun x hx => ⟨by have := (h.each x hx).1; omega, (h.each x hx).2⟩⟩⟩
  rcases hr with ⟨rfl, hn⟩ | ⟨rfl, hn⟩
  · exact ⟨false, rfl, by simp, fun h => absurd (key.2 h) hn⟩
  · exact ⟨true, rfl, fun _ => key.1 hn, fun _ => rfl⟩
end Go.Proofs.Ytnphcnhejgpjgaa.Abs
end
section
namespace Go.Proofs.Ytnphcnhejgpjgaa.Abs
open Classical in
noncomputable def leftP (now : Int) (l : List GTimersTimer) (id : Int) : Int × Bool := if Snd now l then (match l.find? fun x => decide (x.ID = id) with | some x => (x.At - now, true) | none => (0, false)) else (0, false)
theorem Snd.sub {now : Int} {l : List GTimersTimer} (h : Snd now l) {x : GTimersTimer} (hx : x ∈ l) : wI (x.At - now) = x.At - now := by
  have := h.each x hx
  have := h.n0
  exact wI_id (by omega) (by omega)
theorem left_m (a : GTimersTable) (id : Int) : m18_timers_Left a id = some (leftP a.Now a.L id) := by
  unfold m18_timers_Left leftP
  obtain ⟨b, hb, hs⟩ := sane_m a
  rw [hb]
  simp only [Option.bind_some]
  cases b with
  | false =>
    rw [if_pos (by rfl), if_neg fun h : Snd _ _ => by have := hs.2 h; cases this]
  | true =>
    have h := hs.1 rfl
    rw [if_pos h, if_neg (by simp)]
    have hl := h.len
    rw [scanR a.L (fun x => decide (x.ID = id)) (fun x => (wI (x.At - a.Now), true)) (m18_timers_Left_s3 a id) (by omega) (fun i x hx => ?_) ?_]
    · cases hf : a.L.find? fun x => decide (x.ID = id) with
      | none => rfl
      | some x =>
        simp only [Option.bind_some]
        rw [h.sub (List.mem_of_find?_eq_some hf)]
    · unfold m18_timers_Left_s3
      rw [if_neg (by simp)]
    · have hi := (List.getElem?_eq_some_iff.1 hx).1
      unfold m18_timers_Left_s3
      rw [if_pos (decide_eq_true (by omega)), idx_nat, hx]
      simp only [Option.bind_some]
      rw [wI_succ (by omega)]
      split <;> rfl
theorem tk_rtk (x : GTimersTimer) : tk (rtk x) = x := rfl
theorem rtk_tk (x : GR13Timer) : rtk (tk x) = x := rfl
theorem map_tr (l : List GTimersTimer) : (l.map rtk).map tk = l := by rw [List.map_map]; exact List.map_id l
theorem map_rt (l : List GR13Timer) : (l.map tk).map rtk = l := by rw [List.map_map]; exact List.map_id l
theorem rleft_m (now : Int) (l : List GTimersTimer) (id : Int) : m19_r13_Left ⟨now, l.map rtk⟩ id = some (leftP now l id) := by
  unfold m19_r13_Left leftP
  obtain ⟨b, hb, hs⟩ := rsane_m ⟨now, l.map rtk⟩
  simp only [map_tr] at hs
  cases b with
  | false =>
    rw [if_neg fun h => by have := hs.2 h; cases this]
    obtain ⟨v, hv, hr⟩ := iter_inv (f := m19_r13_Left_s2 ⟨now, l.map rtk⟩ id) (P := fun _ => True) (μ := fun _ => 0) (R := fun r => r = .inr ()) (by
      intro s _
      refine .inr (.inl ⟨(), ?_, rfl⟩)
      unfold m19_r13_Left_s2
      rw [hb]
      split <;> rfl) fuel 0 trivial (lt_fuel (by omega))
    rw [hv, hr]
    rfl
  | true =>
    have h := hs.1 rfl
    rw [if_pos h]
    have hl := h.len
    rw [scanR (l.map rtk) (fun x => decide (x.ID = id)) (fun x => (wI (x.At - now), true)) (m19_r13_Left_s2 ⟨now, l.map rtk⟩ id) (by simp; omega) (fun i x hx => ?_) ?_]
    · rw [List.find?_map]
      have e : ((fun x : GR13Timer => decide (x.ID = id)) ∘ rtk) = fun x => decide (x.ID = id) := rfl
      rw [e]
      cases hf : l.find? fun x => decide (x.ID = id) with
      | none => rfl
      | some x =>
        simp only [Option.bind_some, Option.map_some]
        rw [show wI ((rtk x).At - now) = x.At - now from h.sub (List.mem_of_find?_eq_some hf)]
    · unfold m19_r13_Left_s2
      rw [if_neg (by simp)]
    · have hi := (List.getElem?_eq_some_iff.1 hx).1
      unfold m19_r13_Left_s2
      rw [if_pos (decide_eq_true (by show (i : Int) < ((l.map rtk).length : Int); omega)), hb]
      simp only [Option.bind_some, if_pos]
      unfold m19_r13_Left_k3
      rw [idx_nat]
      have hx' : (l.map rtk)[i]? = some x := hx
      simp only [hx', Option.bind_some]
      rw [wI_succ (by simp at hi; omega)]
      split <;> rfl

/-! ### the next -/
theorem cmp_m (x y : Int) : ∃ c, m34_cmp_Compare x y = some c ∧ (c < 0 ↔ x < y) := by
  unfold m34_cmp_Compare m45_cmp_isNaN
  simp only [Option.bind_some]
  rw [if_neg (by simp), if_neg (by simp)]
  by_cases h : x < y
  · rw [if_pos (decide_eq_true h)]
    exact ⟨_, rfl, by omega⟩
  · rw [if_neg (by simpa using h)]
    split <;> exact ⟨_, rfl, by omega⟩
theorem byAt_m (x y : GTimersTimer) : ∃ c, m31_timers_byAts x y = some c ∧ (c < 0 ↔ x.At < y.At ∨ (x.At = y.At ∧ x.ID < y.ID)) := by
  unfold m31_timers_byAts
  by_cases h : x.At = y.At
  · rw [if_neg (by simp [h])]
    unfold m28_timers_byID
    obtain ⟨c, hc, hh⟩ := cmp_m x.ID y.ID
    rw [hc]
    exact ⟨c, rfl, by rw [hh]; omega⟩
  · rw [if_pos (by simp [h])]
    obtain ⟨c, hc, hh⟩ := cmp_m x.At y.At
    rw [hc]
    exact ⟨c, rfl, by rw [hh]; omega⟩
theorem min_m {l : List GTimersTimer} (hl : l.length ≤ 1000) (hne : l ≠ []) : ∃ x ∈ l, (∀ y ∈ l, x.At ≤ y.At) ∧ m30_slices_MinFuncs l = some x := by
  obtain ⟨x0, l', rfl⟩ := List.exists_cons_of_ne_nil hne
  unfold m30_slices_MinFuncs
  rw [if_neg (by simp; omega)]
  unfold m30_slices_MinFuncs_k1
  rw [show idx (x0 :: l') 0 = some x0 from rfl]
  simp only [Option.bind_some]
  obtain ⟨v, hv, hr⟩ := iterB_inv (f := m30_slices_MinFuncs_s4 (x0 :: l')) (P := fun s => ∃ i : Nat, i ≤ (x0 :: l').length ∧ s.1 = (i : Int) ∧ (⟨s.2.1, s.2.2⟩ : GTimersTimer) ∈ x0 :: l' ∧ ∀ j y, j < i → (x0 :: l')[j]? = some y → s.2.2 ≤ y.At) (μ := fun s => (x0 :: l').length - s.1.toNat)
    (R := fun r => (⟨r.1, r.2⟩ : GTimersTimer) ∈ x0 :: l' ∧ ∀ y ∈ x0 :: l', r.2 ≤ y.At) (by
      rintro ⟨k, m, t⟩ ⟨i, hi, hk, hm, hle⟩
      obtain rfl : k = (i : Int) := hk
      dsimp only at hm hle
      unfold m30_slices_MinFuncs_s4
      dsimp only
      rcases Nat.lt_or_ge i (x0 :: l').length with hlt | hge
      · left
        have hx := List.getElem?_eq_getElem hlt
        rw [if_pos (decide_eq_true (by omega)), idx_nat, hx]
        simp only [Option.bind_some]
        obtain ⟨c, hc, hh⟩ := byAt_m (x0 :: l')[i] ⟨m, t⟩
        rw [hc]
        simp only [Option.bind_some]
        rw [wI_succ (by omega)]
        by_cases hneg : c < 0
        · rw [if_pos (decide_eq_true hneg)]
          refine ⟨_, rfl, ⟨i + 1, hlt, rfl, List.getElem_mem hlt, fun j y hj hy => ?_⟩, by simp only [Int.toNat_natCast]; omega⟩
          dsimp only
          have h1 := hh.1 hneg
          rcases Nat.lt_or_ge j i with hji | hji
          · have := hle j y hji hy
            simp only at h1
            omega
          · obtain rfl : j = i := by omega
            rw [hx] at hy
            cases hy
            exact Int.le_refl _
        · rw [if_neg (by simpa using hneg)]
          refine ⟨_, rfl, ⟨i + 1, hlt, rfl, hm, fun j y hj hy => ?_⟩, by simp only [Int.toNat_natCast]; omega⟩
          dsimp only
          rcases Nat.lt_or_ge j i with hji | hji
          · exact hle j y hji hy
          · obtain rfl : j = i := by omega
            rw [hx] at hy
            cases hy
            have : ¬ _ := fun h => hneg (hh.2 h)
            simp only at this
            omega
      · right
        rw [if_neg (by simp only [decide_eq_true_eq]; omega)]
        refine ⟨_, rfl, hm, fun y hy => ?_⟩
        obtain ⟨j, hj⟩ := List.mem_iff_getElem?.1 hy
        exact hle j y (by have := (List.getElem?_eq_some_iff.1 hj).1; omega) hj) fuel (1, x0.ID, x0.At) ⟨1, by simp, rfl, List.mem_cons_self .., fun j y hj hy => by
          obtain rfl : j = 0 := by omega
          cases hy
          exact Int.le_refl _⟩ (lt_fuel (by show (x0 :: l').length - _ ≤ _; omega))
  rw [hv]
  exact ⟨⟨v.1, v.2⟩, hr.1, hr.2, rfl⟩
theorem next_m (a : GTimersTable) (h : Snd a.Now a.L) (hne : a.L ≠ []) : ∃ x ∈ a.L, (∀ y ∈ a.L, x.At ≤ y.At) ∧ m16_timers_Next a = some (x.At - a.Now, true) := by
  unfold m16_timers_Next
  obtain ⟨b, hb, hs⟩ := sane_m ⟨a.Now, a.L⟩
  obtain rfl := hs.2 h
  rw [hb]
  simp only [Option.bind_some]
  rw [if_neg (by simp), if_neg (by simp; exact hne)]
  unfold m16_timers_Next_k1
  obtain ⟨x, hx, hle, hm⟩ := min_m (by have := h.len; omega) hne
  rw [hm]
  simp only [Option.bind_some]
  rw [h.sub hx]
  exact ⟨x, hx, hle, rfl⟩
theorem next_no (a : GTimersTable) (h : ¬ Snd a.Now a.L ∨ a.L = []) : m16_timers_Next a = some (0, false) := by
  unfold m16_timers_Next
  obtain ⟨b, hb, hs⟩ := sane_m ⟨a.Now, a.L⟩
  rw [hb]
  simp only [Option.bind_some]
  cases b with
  | false => rfl
  | true =>
    rw [if_neg (by simp), if_pos]
    rcases h with h | h
    · exact absurd (hs.1 rfl) h
    · rw [h]; rfl
theorem rnext_m (now : Int) (l : List GTimersTimer) (h : Snd now l) {x : GTimersTimer} (hx : x ∈ l) (hle : ∀ y ∈ l, x.At ≤ y.At) : m17_r13_Next ⟨now, l.map rtk⟩ = some (x.At - now, true) := by
  have hll := h.len
  obtain ⟨x0, l', rfl⟩ := List.exists_cons_of_ne_nil (List.ne_nil_of_mem hx)
  unfold m17_r13_Next
  obtain ⟨b, hb, hs⟩ := rsane_m ⟨now, (x0 :: l').map rtk⟩
  simp only [map_tr] at hs
  obtain rfl := hs.2 h
  rw [hb]
  simp only [Option.bind_some]
  rw [if_neg (by simp), if_neg (by simp; omega)]
  unfold m17_r13_Next_k1
  rw [show idx ((⟨now, (x0 :: l').map rtk⟩ : GR13Table).L) 0 = some (rtk x0) from rfl]
  simp only [Option.bind_some]
  obtain ⟨v, hv, hr⟩ := iterB_inv (f := m17_r13_Next_s4 ⟨now, (x0 :: l').map rtk⟩) (P := fun s => ∃ i : Nat, i ≤ (x0 :: l').length ∧ s.2 = (i : Int) ∧ (∃ y ∈ x0 :: l', y.At = s.1) ∧ ∀ j y, j < i → (x0 :: l')[j]? = some y → s.1 ≤ y.At) (μ := fun s => (x0 :: l').length - s.2.toNat)
    (R := fun r => (∃ y ∈ x0 :: l', y.At = r) ∧ ∀ y ∈ x0 :: l', r ≤ y.At) (by
      rintro ⟨t, k⟩ ⟨i, hi, hk, hm, hle⟩
      obtain rfl : k = (i : Int) := hk
      dsimp only at hm hle
      unfold m17_r13_Next_s4
      dsimp only
      rcases Nat.lt_or_ge i (x0 :: l').length with hlt | hge
      · left
        have hx := List.getElem?_eq_getElem hlt
        have hx' : ((x0 :: l').map rtk)[i]? = some (rtk (x0 :: l')[i]) := by rw [List.getElem?_map, hx]; rfl
        rw [if_pos (decide_eq_true (by rw [List.length_map]; omega)), idx_nat, hx']
        simp only [Option.bind_some]
        rw [wI_succ (by omega)]
        refine ⟨_, rfl, ⟨i + 1, hlt, rfl, ?_, fun j y hj hy => ?_⟩, by simp only [Int.toNat_natCast]; omega⟩
        · dsimp only
          split
          · exact ⟨_, List.getElem_mem hlt, rfl⟩
          · exact hm
        · dsimp only
          have e : (rtk (x0 :: l')[i]).At = (x0 :: l')[i].At := rfl
          rw [e]
          rcases Nat.lt_or_ge j i with hji | hji
          · have := hle j y hji hy
            split <;> omega
          · obtain rfl : j = i := by omega
            rw [hx] at hy
            cases hy
            split <;> omega
      · right
        rw [if_neg (by simp only [decide_eq_true_eq, List.length_map]; omega)]
        refine ⟨_, rfl, hm, fun y hy => ?_⟩
        obtain ⟨j, hj⟩ := List.mem_iff_getElem?.1 hy
        exact hle j y (by have := (List.getElem?_eq_some_iff.1 hj).1; omega) hj) fuel ((rtk x0).At, 0) ⟨0, Nat.zero_le _, rfl, ⟨x0, List.mem_cons_self .., rfl⟩, fun j y hj => by omega⟩ (lt_fuel (by show (x0 :: l').length - _ ≤ _; omega))
  rw [hv]
  simp only [Option.bind_some, m17_r13_Next_k3]
  obtain ⟨⟨y, hy, rfl⟩, h2⟩ := hr
  have : y.At = x.At := Int.le_antisymm (h2 x hx) (hle y hy)
  rw [this]
  rw [show wI (x.At - now) = x.At - now from h.sub hx]
theorem rnext_no (now : Int) (l : List GTimersTimer) (h : ¬ Snd now l ∨ l = []) : m17_r13_Next ⟨now, l.map rtk⟩ = some (0, false) := by
  unfold m17_r13_Next
  obtain ⟨b, hb, hs⟩ := rsane_m ⟨now, l.map rtk⟩
  simp only [map_tr] at hs
  rw [hb]
  simp only [Option.bind_some]
  cases b with
  | false => rfl
  | true =>
    rw [if_neg (by simp), if_pos]
    rcases h with h | h
    · exact absurd (hs.1 rfl) h
    · rw [h]; rfl

/-! ### setting -/
def ins (n : GTimersTimer) : List GTimersTimer → List GTimersTimer
  | [] => [n]
  | u :: l => if n.ID < u.ID then n :: u :: l else u :: ins n l
theorem ins_perm (n : GTimersTimer) : ∀ l, (ins n l).Perm (n :: l)
  | [] => .refl _
  | u :: l => by
    unfold ins
    split
    · exact .refl _
    · exact ((ins_perm n l).cons u).trans (.swap n u l)
theorem ins_len (n : GTimersTimer) (l : List GTimersTimer) : (ins n l).length = l.length + 1 := by rw [(ins_perm n l).length_eq, List.length_cons]
theorem ins_mem {n x : GTimersTimer} {l : List GTimersTimer} : x ∈ ins n l ↔ x = n ∨ x ∈ l := by rw [(ins_perm n l).mem_iff, List.mem_cons]
theorem ins_asc {n : GTimersTimer} : ∀ {l : List GTimersTimer}, (l.Pairwise fun x y => x.ID < y.ID) → (∀ x ∈ l, x.ID ≠ n.ID) → (ins n l).Pairwise fun x y => x.ID < y.ID
  | [], _, _ => List.pairwise_singleton ..
  | u :: l, h, hn => by
    rw [List.pairwise_cons] at h
    have hu := hn u (List.mem_cons_self ..)
    unfold ins
    split
    · rename_i hlt
      refine List.pairwise_cons.2 ⟨fun y hy => ?_, List.pairwise_cons.2 h⟩
      rcases List.mem_cons.1 hy with rfl | hy
      · exact hlt
      · exact Int.lt_trans hlt (h.1 y hy)
    · refine List.pairwise_cons.2 ⟨fun y hy => ?_, ins_asc h.2 fun x hx => hn x (List.mem_cons_of_mem _ hx)⟩
      rcases ins_mem.1 hy with rfl | hy
      · omega
      · exact h.1 y hy
theorem nodup_of_asc {l : List GTimersTimer} (h : l.Pairwise fun x y => x.ID < y.ID) : (l.map (·.ID)).Nodup := by
  rw [List.nodup_iff_pairwise_ne, List.pairwise_map]
  exact h.imp fun h => by omega
theorem clr_asc {l : List GTimersTimer} (h : l.Pairwise fun x y => x.ID < y.ID) (id : Int) : (clr l id).Pairwise fun x y => x.ID < y.ID := h.filter _
theorem clr_mem {l : List GTimersTimer} {id : Int} {x : GTimersTimer} : x ∈ clr l id ↔ x ∈ l ∧ x.ID ≠ id := by unfold clr; rw [List.mem_filter]; simp
theorem clr_len (l : List GTimersTimer) (id : Int) : (clr l id).length ≤ l.length := List.length_filter_le _ _
theorem sort_ins {n : GTimersTimer} {l : List GTimersTimer} (h : l.Pairwise fun x y => x.ID < y.ID) (hn : ∀ x ∈ l, x.ID ≠ n.ID) : sortF28 (l ++ [n]) = ins n l ∧ ((l ++ [n]).map (·.ID)).Nodup := by
  have hp : (ins n l).Perm (l ++ [n]) := (ins_perm n l).trans (List.perm_append_comm (l₁ := [n]) (l₂ := l))
  have hnd : ((l ++ [n]).map (·.ID)).Nodup := ((hp.map (·.ID)).nodup_iff).1 (nodup_of_asc (ins_asc h hn))
  letI : Co.Env := Co.envT true Co.noBig
  haveI : Co.AtEnv := Co.envT_at _ _
  exact ⟨(sortF28_uniq hnd hp ((ins_asc h hn).imp fun h => by omega)).symm, hnd⟩

open Classical in
noncomputable def setP (now : Int) (l : List GTimersTimer) (id after : Int) : GTimersTable × Int :=
  if Snd now l ∧ 0 ≤ id ∧ 1 ≤ after ∧ after ≤ 1099511627776 then (if 64 ≤ (clr l id).length then (⟨0, []⟩, 8) else (⟨now, ins ⟨id, now + after⟩ (clr l id)⟩, 0)) else (⟨0, []⟩, 1)
theorem set_m (a : GTimersTable) (id after : Int) : m9_timers_Set a id after = some (setP a.Now a.L id after) := by
  unfold m9_timers_Set setP
  obtain ⟨b, hb, hs⟩ := sane_m ⟨a.Now, a.L⟩
  rw [hb]
  simp only [Option.bind_some]
  cases b with
  | false =>
    rw [if_pos (by rfl), if_neg fun h : Snd _ _ ∧ _ => by have := hs.2 h.1; cases this]
    try rfl
  | true =>
    have h := hs.1 rfl
    rw [if_neg (by simp)]
    by_cases h1 : id < 0
    · rw [if_pos (decide_eq_true h1), if_neg fun h => by omega]
    rw [if_neg (by simpa using h1)]
    by_cases h2 : after < 1
    · rw [if_pos (decide_eq_true h2), if_neg fun h => by omega]
    rw [if_neg (by simpa using h2)]
    by_cases h3 : 1099511627776 < after
    · rw [if_pos (decide_eq_true h3), if_neg fun h => by omega]
    rw [if_neg (by simpa using h3), if_pos ⟨h, by omega, by omega, by omega⟩]
    have hl := h.len
    have hn0 := h.n0
    have hn1 := h.n1
    dsimp only at hl hn0 hn1
    unfold m9_timers_Set_k1
    have hc := clr_len a.L id
    rw [clear_m id (by show a.L.length ≤ 1000; omega)]
    simp only [Option.bind_some]
    rw [show m26_slices_Cloneo (clr a.L id) = some (clr a.L id) by unfold m26_slices_Cloneo; rw [if_pos (by simp; omega)]; rfl]
    simp only [Option.bind_some]
    rw [if_pos (by simp; omega), show wI (a.Now + after) = a.Now + after from wI_id (by omega) (by omega)]
    by_cases h64 : 64 ≤ (clr a.L id).length
    · rw [if_pos (decide_eq_true (by simp; omega)), if_pos h64]
    · rw [if_neg (by simp; omega), if_neg h64]
      obtain ⟨e1, e2⟩ := sort_ins (n := ⟨id, a.Now + after⟩) (clr_asc h.asc id) (fun x hx => (clr_mem.1 hx).2)
      rw [show m27_slices_SortFunc_28 (clr a.L id ++ [⟨id, a.Now + after⟩]) = some (ins ⟨id, a.Now + after⟩ (clr a.L id)) by
        unfold m27_slices_SortFunc_28
        rw [if_pos ⟨by simp; omega, e2⟩, e1]]
      simp only [Option.bind_some]
      rw [if_pos (by rw [ins_len]; simp)]
def rins (n : GR13Timer) : List GR13Timer → List GR13Timer
  | [] => [n]
  | u :: l => if n.ID < u.ID then n :: u :: l else u :: rins n l
theorem rins_map (n : GTimersTimer) : ∀ l : List GTimersTimer, rins (rtk n) (l.map rtk) = (ins n l).map rtk
  | [] => rfl
  | u :: l => by
    unfold ins
    rw [List.map_cons, rins, rins_map n l]
    have : ((rtk n).ID < (rtk u).ID) = (n.ID < u.ID) := rfl
    simp only [this]
    split <;> rfl
theorem rclr_map (l : List GTimersTimer) (id : Int) : rclr (l.map rtk) id = (clr l id).map rtk := by
  unfold rclr clr
  rw [List.filter_map]
  rfl
theorem rset_m (now : Int) (l : List GTimersTimer) (id after : Int) : m10_r13_Set ⟨now, l.map rtk⟩ id after = some (⟨(setP now l id after).1.Now, (setP now l id after).1.L.map rtk⟩, (setP now l id after).2) := by
  unfold m10_r13_Set setP
  obtain ⟨b, hb, hs⟩ := rsane_m ⟨now, l.map rtk⟩
  simp only [map_tr] at hs
  rw [hb]
  simp only [Option.bind_some]
  cases b with
  | false =>
    rw [if_pos (by rfl), if_neg fun h : Snd _ _ ∧ _ => by have := hs.2 h.1; cases this]
    try rfl
  | true =>
    have h := hs.1 rfl
    rw [if_neg (by simp)]
    by_cases h1 : id < 0
    · rw [if_pos (decide_eq_true h1), if_neg fun h => by omega]
      rfl
    rw [if_neg (by simpa using h1)]
    by_cases h2 : after < 1
    · rw [if_pos (decide_eq_true h2), if_neg fun h => by omega]
      rfl
    rw [if_neg (by simpa using h2)]
    by_cases h3 : 1099511627776 < after
    · rw [if_pos (decide_eq_true h3), if_neg fun h => by omega]
      rfl
    rw [if_neg (by simpa using h3), if_pos ⟨h, by omega, by omega, by omega⟩]
    have hl := h.len
    have hn0 := h.n0
    have hn1 := h.n1
    unfold m10_r13_Set_k1
    have hc := clr_len l id
    rw [rclear_m id (by show (l.map rtk).length ≤ 1000; simp; omega)]
    simp only [Option.bind_some]
    rw [rclr_map]
    by_cases h64 : 64 ≤ (clr l id).length
    · rw [if_pos (decide_eq_true (by simp; omega)), if_pos h64]
      rfl
    · rw [if_neg (by simp; omega), if_neg h64]
      have hw : wI (now + after) = now + after := wI_id (by omega) (by omega)
      generalize hcl : clr l id = cl at h64 hc
      obtain ⟨v, hv, hr⟩ := iterB_inv (f := m10_r13_Set_s6 ⟨now, l.map rtk⟩ id after ⟨now, cl.map rtk⟩)
        (P := fun s => ∃ i : Nat, i ≤ cl.length ∧ s.2.1 = (i : Int) ∧ s.2.2.length ≤ (if s.1 then i + 1 else i) ∧ rins (rtk ⟨id, now + after⟩) (cl.map rtk) = s.2.2 ++ (if s.1 then (cl.drop i).map rtk else rins (rtk ⟨id, now + after⟩) ((cl.drop i).map rtk))) (μ := fun s => cl.length - s.2.1.toNat)
        (R := fun r => r.2.length ≤ 65 ∧ rins (rtk ⟨id, now + after⟩) (cl.map rtk) = if r.1 then r.2 else r.2 ++ [rtk ⟨id, now + after⟩]) (by
          rintro ⟨p, k, acc⟩ ⟨i, hi, hk, hacc, he⟩
          obtain rfl : k = (i : Int) := hk
          dsimp only at hacc he
          unfold m10_r13_Set_s6
          dsimp only
          rcases Nat.lt_or_ge i cl.length with hlt | hge
          · left
            have hx := List.getElem?_eq_getElem hlt
            have hx' : (cl.map rtk)[i]? = some (rtk cl[i]) := by rw [List.getElem?_map, hx]; rfl
            have hd : cl.drop i = cl[i] :: cl.drop (i + 1) := List.drop_eq_getElem_cons hlt
            rw [hd, List.map_cons] at he
            rw [if_pos (decide_eq_true (by rw [List.length_map]; omega)), idx_nat, hx']
            simp only [Option.bind_some]
            rw [hw]
            have kk : ∀ (q : Bool) (acc2 : List GR13Timer), acc2.length ≤ i + 1 → m10_r13_Set_k7 ⟨now, cl.map rtk⟩ (p, (i : Int), acc) (q, acc2) = some (.cont (q, ((i + 1 : Nat) : Int), acc2 ++ [rtk cl[i]])) := by
              intro q acc2 hq
              unfold m10_r13_Set_k7
              dsimp only
              rw [idx_nat, hx']
              simp only [Option.bind_some]
              rw [if_pos (by simp; omega), wI_succ (by omega)]
            have eid : (rtk cl[i]).ID = cl[i].ID := rfl
            have mk : ∀ (q : Bool) (acc2 : List GR13Timer), acc2.length ≤ (if q then i + 1 else i) → rins (rtk ⟨id, now + after⟩) (cl.map rtk) = acc2 ++ rtk cl[i] :: (if q then (cl.drop (i + 1)).map rtk else rins (rtk ⟨id, now + after⟩) ((cl.drop (i + 1)).map rtk)) →
                ∃ s', (some (LB.cont (q, ((i + 1 : Nat) : Int), acc2 ++ [rtk cl[i]])) : Option (LB (Bool × Int × List GR13Timer) (Bool × List GR13Timer))) = some (.cont s') ∧ (∃ i : Nat, i ≤ cl.length ∧ s'.2.1 = (i : Int) ∧ s'.2.2.length ≤ (if s'.1 then i + 1 else i) ∧ rins (rtk ⟨id, now + after⟩) (cl.map rtk) = s'.2.2 ++ (if s'.1 then (cl.drop i).map rtk else rins (rtk ⟨id, now + after⟩) ((cl.drop i).map rtk))) ∧ cl.length - s'.2.1.toNat < cl.length - (i : Int).toNat := by
              intro q acc2 hq he2
              refine ⟨_, rfl, ⟨i + 1, hlt, rfl, by cases q <;> simp at hq ⊢ <;> omega, by rw [he2]; simp⟩, ?_⟩
              simp only [Int.toNat_natCast]
              omega
            by_cases hlt2 : id < cl[i].ID
            · rw [if_pos (show decide (id < (rtk cl[i]).ID) = true from decide_eq_true hlt2)]
              cases p with
              | false =>
                have hacc' : acc.length ≤ i := by simpa using hacc
                rw [if_pos (by rfl), if_pos (by simp; omega)]
                rw [kk true (acc ++ [(⟨id, now + after⟩ : GR13Timer)]) (by simp; omega)]
                refine mk true _ (by simp; omega) ?_
                rw [if_neg (by simp), rins, if_pos (by rw [eid]; exact hlt2)] at he
                rw [he, if_pos rfl]
                simp [rtk]
              | true =>
                rw [if_neg (by simp), kk true acc (by simpa using hacc)]
                refine mk true acc hacc ?_
                rw [he, if_pos rfl, if_pos rfl]
            · rw [if_neg (show ¬ decide (id < (rtk cl[i]).ID) = true by rw [eid]; simpa using hlt2), kk p acc (by cases p <;> simp at hacc <;> omega)]
              refine mk p acc hacc ?_
              cases p with
              | false =>
                rw [if_neg (by simp), rins, if_neg (by rw [eid]; exact hlt2)] at he
                rw [he, if_neg (by simp)]
              | true => rw [he, if_pos rfl, if_pos rfl]
          · right
            rw [if_neg (by simp only [decide_eq_true_eq, List.length_map]; omega)]
            refine ⟨_, rfl, by dsimp only; cases p <;> simp at hacc <;> omega, ?_⟩
            rw [List.drop_eq_nil_iff.2 hge] at he
            rw [he]
            cases p <;> simp [rins]) fuel (false, 0, []) ⟨0, Nat.zero_le _, rfl, by simp, by simp⟩ (lt_fuel (by show cl.length - _ ≤ _; omega))
      rw [hv]
      simp only [Option.bind_some]
      unfold m10_r13_Set_k3
      obtain ⟨hr1, hr2⟩ := hr
      rw [rins_map] at hr2
      rw [hw, hr2]
      obtain ⟨p, acc⟩ := v
      dsimp only at hr1 hr2 ⊢
      cases p with
      | false =>
        rw [if_pos (by rfl), if_pos (by simp; omega)]
        rfl
      | true => rfl
end Go.Proofs.Ytnphcnhejgpjgaa.Abs
end
section
namespace Go.Proofs.Ytnphcnhejgpjgaa.Abs
abbrev lex (x y : GTimersTimer) : Prop := x.At < y.At ∨ x.At = y.At ∧ x.ID ≤ y.ID
theorem sortAt_perm (l : List GTimersTimer) : (sortAt l).Perm l := List.mergeSort_perm l _
theorem sortAt_sorted (l : List GTimersTimer) : (sortAt l).Pairwise lex :=
  (List.pairwise_mergeSort (le := fun x y : GTimersTimer => decide (x.At < y.At ∨ x.At = y.At ∧ x.ID ≤ y.ID)) (fun a b c h1 h2 => by simp at *; omega) (fun a b => by simp; omega) l).imp fun h => by simpa using h
theorem sortAt_filter (p : GTimersTimer → Bool) (l : List GTimersTimer) : (sortAt l).filter p = sortAt (l.filter p) :=
  sortAt_uniq ((sortAt_perm l).filter p) ((sortAt_sorted l).filter p)
theorem due_eq (l : List GTimersTimer) (now : Int) : dueIds l now = (sortAt (l.filter fun x => decide (x.At ≤ now))).map (·.ID) := by unfold dueIds; rw [sortAt_filter]
theorem due_mem {l : List GTimersTimer} {now id : Int} : id ∈ dueIds l now ↔ ∃ x ∈ l, x.At ≤ now ∧ x.ID = id := by
  rw [due_eq, List.mem_map]
  constructor
  · rintro ⟨x, hx, rfl⟩
    have := (sortAt_perm _).mem_iff.1 hx
    rw [List.mem_filter] at this
    exact ⟨x, this.1, by simpa using this.2, rfl⟩
  · rintro ⟨x, hx, h, rfl⟩
    exact ⟨x, (sortAt_perm _).mem_iff.2 (List.mem_filter.2 ⟨hx, by simpa using h⟩), rfl⟩
theorem due_len (l : List GTimersTimer) (now : Int) : (dueIds l now).length ≤ l.length := by
  rw [due_eq, List.length_map, (sortAt_perm _).length_eq]
  exact List.length_filter_le _ _
theorem due_none {l : List GTimersTimer} {now : Int} (h : ∀ x ∈ l, now < x.At) : dueIds l now = [] := by
  rw [List.eq_nil_iff_forall_not_mem]
  intro id hid
  obtain ⟨x, hx, h1, _⟩ := due_mem.1 hid
  have := h x hx
  omega
theorem inj_id {l : List GTimersTimer} (h : l.Pairwise fun x y => x.ID < y.ID) {x y : GTimersTimer} (hx : x ∈ l) (hy : y ∈ l) (e : x.ID = y.ID) : x = y := by
  letI : Co.Env := Co.envT true Co.noBig
  haveI : Co.AtEnv := Co.envT_at _ _
  exact inj_of_map (nodup_of_asc h) x hx y hy e
/-- The first that is due, and then the others. -/
theorem due_cons {l : List GTimersTimer} {now : Int} (h : l.Pairwise fun x y => x.ID < y.ID) {x : GTimersTimer} (hx : x ∈ l) (ha : x.At ≤ now) (hmin : ∀ y ∈ l, y.At ≤ now → lex x y) : dueIds l now = x.ID :: dueIds (clr l x.ID) now := by
  rw [due_eq, due_eq]
  have : x :: sortAt ((clr l x.ID).filter fun x => decide (x.At ≤ now)) = sortAt (l.filter fun x => decide (x.At ≤ now)) := by
    refine sortAt_uniq ?_ ?_
    · refine ((sortAt_perm _).cons x).trans ?_
      have hnd : (l.filter fun x => decide (x.At ≤ now)).Nodup := by
        exact List.Pairwise.filter _ (h.imp fun h e => by subst e; omega)
      have hnd2 : (x :: (clr l x.ID).filter fun x => decide (x.At ≤ now)).Nodup := by
        refine List.nodup_cons.2 ⟨fun hm => ?_, ?_⟩
        · exact (clr_mem.1 (List.mem_filter.1 hm).1).2 rfl
        · exact List.Pairwise.filter _ ((clr_asc h x.ID).imp fun h e => by subst e; omega)
      exact ((List.perm_ext_iff_of_nodup hnd2 hnd).2 fun y => by
        rw [List.mem_cons, List.mem_filter, List.mem_filter, clr_mem]
        constructor
        · rintro (rfl | h1)
          · exact ⟨hx, by simpa using ha⟩
          · exact ⟨h1.1.1, h1.2⟩
        · rintro ⟨h1, h2⟩
          by_cases e : y.ID = x.ID
          · exact .inl (inj_id h h1 hx e)
          · exact .inr ⟨⟨h1, e⟩, h2⟩)
    · refine List.pairwise_cons.2 ⟨fun y hy => ?_, sortAt_sorted _⟩
      have := (sortAt_perm _).mem_iff.1 hy
      rw [List.mem_filter, clr_mem] at this
      exact hmin y this.1.1 (by simpa using this.2)
  rw [← this, List.map_cons]
theorem due_split (l : List GTimersTimer) {a b : Int} (hab : a ≤ b) : dueIds l a ++ dueIds (l.filter fun x => decide (a < x.At)) b = dueIds l b := by
  unfold dueIds
  rw [← sortAt_filter, List.filter_filter, ← List.map_append]
  congr 1
  have hs := sortAt_sorted l
  generalize sortAt l = s at hs
  induction s with
  | nil => rfl
  | cons x s ih =>
    rw [List.pairwise_cons] at hs
    have hi := ih hs.2
    simp only [List.filter_cons]
    by_cases h1 : x.At ≤ a
    · have h2 : x.At ≤ b := by omega
      have h3 : ¬ a < x.At := by omega
      simp only [h1, h2, h3, decide_true, decide_false, Bool.and_false, if_true, List.cons_append]
      simp only [Bool.false_eq_true, if_false]
      rw [hi]
    · have h3 : a < x.At := by omega
      have hnone : s.filter (fun x => decide (x.At ≤ a)) = [] := List.filter_eq_nil_iff.2 fun y hy => by
        have := hs.1 y hy
        simp only [decide_eq_true_eq]
        rcases this with h | h <;> omega
      simp only [h1, h3, decide_true, decide_false, Bool.and_true, Bool.false_eq_true, if_false]
      rw [hnone] at hi ⊢
      rw [List.nil_append] at hi ⊢
      rw [hi]

/-! ### the program's -/
theorem tkGo_m : ∀ (ids : List Int) (next : GTimersTable) (gone : List Int), next.L.length ≤ 1000 → gone.length + ids.length ≤ 1000 → tkGo ids next gone = some (⟨next.Now, next.L.filter fun x => !ids.contains x.ID⟩, gone ++ ids)
  | [], next, gone, _, _ => by
    rw [tkGo, List.append_nil]
    have : (next.L.filter fun x => !([] : List Int).contains x.ID) = next.L := List.filter_eq_self.2 fun x _ => by simp
    rw [this]
  | id :: ids, next, gone, h1, h2 => by
    rw [tkGo, clear_m id h1]
    simp only [Option.bind_some]
    rw [if_pos (by simp at h2 ⊢; omega), tkGo_m ids _ _ (Nat.le_trans (clr_len _ _) h1) (by simp at h2 ⊢; omega)]
    simp only [List.append_assoc, List.singleton_append]
    congr 3
    unfold clr
    rw [List.filter_filter]
    congr 1
    funext x
    by_cases e : x.ID = id
    · simp [e]
    · simp [e]
open Classical in
noncomputable def tickP (now : Int) (l : List GTimersTimer) (n : Int) : GTimersTable × List Int × Int :=
  if Snd now l ∧ 0 ≤ n then (if 1099511627776 - now < n then (⟨0, []⟩, [], 11) else (⟨now + n, l.filter fun x => decide (now + n < x.At)⟩, dueIds l (now + n), 0)) else (⟨0, []⟩, [], 1)
theorem due_left {l : List GTimersTimer} (h : l.Pairwise fun x y => x.ID < y.ID) (now : Int) : (l.filter fun x => !(dueIds l now).contains x.ID) = l.filter fun x => decide (now < x.At) := by
  refine List.filter_congr fun x hx => ?_
  by_cases hd : x.At ≤ now
  · have : x.ID ∈ dueIds l now := due_mem.2 ⟨x, hx, hd, rfl⟩
    have hn : ¬ now < x.At := by omega
    simp [this, hn]
  · have : x.ID ∉ dueIds l now := fun hm => by
      obtain ⟨y, hy, h1, h2⟩ := due_mem.1 hm
      rw [inj_id h hy hx h2] at h1
      exact hd h1
    have hn : now < x.At := by omega
    simp [this, hn]
theorem tick_m (a : GTimersTable) (n : Int) : m11_timers_Tick a n = some (tickP a.Now a.L n) := by
  unfold m11_timers_Tick tickP
  obtain ⟨b, hb, hs⟩ := sane_m a
  rw [hb]
  simp only [Option.bind_some]
  cases b with
  | false => rw [if_pos (by rfl), if_neg fun h : Snd _ _ ∧ _ => by have := hs.2 h.1; cases this]
  | true =>
    have h := hs.1 rfl
    have hl := h.len
    have hn0 := h.n0
    have hn1 := h.n1
    rw [if_neg (by simp)]
    by_cases h1 : n < 0
    · rw [if_pos (decide_eq_true h1), if_neg fun h => by omega]
    rw [if_neg (by simpa using h1), show wI (1099511627776 - a.Now) = 1099511627776 - a.Now from wI_id (by omega) (by omega)]
    have hpos : Snd a.Now a.L ∧ 0 ≤ n := ⟨h, by omega⟩
    by_cases h2 : 1099511627776 - a.Now < n
    · rw [if_pos (decide_eq_true h2), if_pos hpos, if_pos h2]
    rw [if_neg (by simpa using h2), if_pos hpos, if_neg h2, if_pos (by simp; omega), show wI (a.Now + n) = a.Now + n from wI_id (by omega) (by omega)]
    have hd := due_len a.L (a.Now + n)
    rw [tkGo_m _ _ _ (by show a.L.length ≤ 1000; omega) (by simp; omega)]
    simp only [Option.bind_some, List.nil_append]
    rw [due_left h.asc]
theorem Snd.tick {now : Int} {l : List GTimersTimer} (h : Snd now l) {n : Int} (h0 : 0 ≤ n) (h1 : ¬ 1099511627776 - now < n) : Snd (now + n) (l.filter fun x => decide (now + n < x.At)) := by
  have := h.n0
  have := h.n1
  refine ⟨by omega, by omega, Nat.le_trans (List.length_filter_le _ _) h.len, h.asc.filter _, fun x hx => ?_⟩
  rw [List.mem_filter] at hx
  exact ⟨(h.each x hx.1).1, by simpa using hx.2, (h.each x hx.1).2.2⟩
theorem Snd.clr {now : Int} {l : List GTimersTimer} (h : Snd now l) (id : Int) : Snd now (clr l id) :=
  ⟨h.n0, h.n1, Nat.le_trans (clr_len _ _) h.len, clr_asc h.asc id, fun x hx => h.each x (clr_mem.1 hx).1⟩
theorem Snd.set {now : Int} {l : List GTimersTimer} (h : Snd now l) {id after : Int} (h0 : 0 ≤ id) (h1 : 1 ≤ after) (h2 : after ≤ 1099511627776) (h3 : ¬ 64 ≤ (Go.Proofs.Ytnphcnhejgpjgaa.Abs.clr l id).length) : Snd now (ins ⟨id, now + after⟩ (Go.Proofs.Ytnphcnhejgpjgaa.Abs.clr l id)) := by
  have := h.n1
  refine ⟨h.n0, h.n1, by rw [ins_len]; omega, ins_asc (clr_asc h.asc id) fun x hx => (clr_mem.1 hx).2, fun x hx => ?_⟩
  rcases ins_mem.1 hx with rfl | hx
  · exact ⟨h0, by show now < now + after; omega, by show now + after ≤ _; omega⟩
  · exact h.each x (clr_mem.1 hx).1
theorem snd_nil : Snd 0 [] := ⟨by decide, by decide, by decide, .nil, fun x h => by cases h⟩

/-! ### the document's -/
theorem rtick_m (now : Int) (l : List GTimersTimer) (n : Int) : m12_r13_Tick ⟨now, l.map rtk⟩ n = some (⟨(tickP now l n).1.Now, (tickP now l n).1.L.map rtk⟩, (tickP now l n).2.1, (tickP now l n).2.2) := by
  unfold m12_r13_Tick tickP
  obtain ⟨b, hb, hs⟩ := rsane_m ⟨now, l.map rtk⟩
  simp only [map_tr] at hs
  rw [hb]
  simp only [Option.bind_some]
  cases b with
  | false =>
    rw [if_pos (by rfl), if_neg fun h : Snd _ _ ∧ _ => by have := hs.2 h.1; cases this]
    rfl
  | true =>
    have h := hs.1 rfl
    have hl := h.len
    have hn0 := h.n0
    have hn1 := h.n1
    rw [if_neg (by simp)]
    by_cases h1 : n < 0
    · rw [if_pos (decide_eq_true h1), if_neg fun h => by omega]
      rfl
    rw [if_neg (by simpa using h1), if_pos ⟨h, by omega⟩]
    unfold m12_r13_Tick_k1
    dsimp only
    rw [show wI (1099511627776 - now) = 1099511627776 - now from wI_id (by omega) (by omega)]
    by_cases h2 : 1099511627776 - now < n
    · rw [if_pos (decide_eq_true h2), if_pos h2]
      rfl
    rw [if_neg (by simpa using h2), if_neg h2, show wI (now + n) = now + n from wI_id (by omega) (by omega)]
    generalize now + n = N
    -- the search
    have best : ∀ (l' : List GTimersTimer) (gone : List Int), l'.length ≤ 64 → ∃ j, iterB (m12_r13_Tick_s9 (N, l'.map rtk, gone)) fuel (-1, 0) = some j ∧
        ((j = -1 ∧ ∀ x ∈ l', N < x.At) ∨ ∃ (i : Nat) (x : GTimersTimer), j = (i : Int) ∧ l'[i]? = some x ∧ x.At ≤ N ∧ ∀ k y, l'[k]? = some y → y.At ≤ N → x.At < y.At ∨ (x.At = y.At ∧ i ≤ k)) := by
      intro l' gone hl'
      obtain ⟨v, hv, hr⟩ := iterB_inv (f := m12_r13_Tick_s9 (N, l'.map rtk, gone)) (P := fun s => ∃ q : Nat, q ≤ l'.length ∧ s.2 = (q : Int) ∧
          ((s.1 = -1 ∧ ∀ k y, k < q → l'[k]? = some y → N < y.At) ∨ ∃ (i : Nat) (x : GTimersTimer), i < q ∧ s.1 = (i : Int) ∧ l'[i]? = some x ∧ x.At ≤ N ∧ ∀ k y, k < q → l'[k]? = some y → y.At ≤ N → x.At < y.At ∨ (x.At = y.At ∧ i ≤ k))) (μ := fun s => l'.length - s.2.toNat)
        (R := fun j => (j = -1 ∧ ∀ x ∈ l', N < x.At) ∨ ∃ (i : Nat) (x : GTimersTimer), j = (i : Int) ∧ l'[i]? = some x ∧ x.At ≤ N ∧ ∀ k y, l'[k]? = some y → y.At ≤ N → x.At < y.At ∨ (x.At = y.At ∧ i ≤ k)) (by
          rintro ⟨bst, qq⟩ ⟨q, hq, hqq, hP⟩
          obtain rfl : qq = (q : Int) := hqq
          dsimp only at hP
          unfold m12_r13_Tick_s9
          dsimp only
          rcases Nat.lt_or_ge q l'.length with hlt | hge
          · left
            have hx := List.getElem?_eq_getElem hlt
            have hx' : (l'.map rtk)[q]? = some (rtk l'[q]) := by rw [List.getElem?_map, hx]; rfl
            rw [if_pos (decide_eq_true (by rw [List.length_map]; omega)), idx_nat, hx']
            simp only [Option.bind_some]
            rw [wI_succ (by omega)]
            have ea : (rtk l'[q]).At = l'[q].At := rfl
            have fin : ∀ j : Int, ((j = -1 ∧ ∀ k y, k < q + 1 → l'[k]? = some y → N < y.At) ∨ ∃ (i : Nat) (x : GTimersTimer), i < q + 1 ∧ j = (i : Int) ∧ l'[i]? = some x ∧ x.At ≤ N ∧ ∀ k y, k < q + 1 → l'[k]? = some y → y.At ≤ N → x.At < y.At ∨ (x.At = y.At ∧ i ≤ k)) →
                ∃ s', (some (LB.cont (j, ((q + 1 : Nat) : Int))) : Option (LB (Int × Int) Int)) = some (.cont s') ∧ (∃ q : Nat, q ≤ l'.length ∧ s'.2 = (q : Int) ∧
          ((s'.1 = -1 ∧ ∀ k y, k < q → l'[k]? = some y → N < y.At) ∨ ∃ (i : Nat) (x : GTimersTimer), i < q ∧ s'.1 = (i : Int) ∧ l'[i]? = some x ∧ x.At ≤ N ∧ ∀ k y, k < q → l'[k]? = some y → y.At ≤ N → x.At < y.At ∨ (x.At = y.At ∧ i ≤ k))) ∧ l'.length - s'.2.toNat < l'.length - (q : Int).toNat := by
              intro j hj
              refine ⟨_, rfl, ⟨q + 1, hlt, rfl, hj⟩, ?_⟩
              simp only [Int.toNat_natCast]
              omega
            by_cases c1 : l'[q].At ≤ N
            · rw [if_pos (by rw [ea]; exact decide_eq_true c1)]
              rcases hP with ⟨rfl, hnone⟩ | ⟨i, x, hiq, rfl, hix, hxN, hbest⟩
              · rw [if_pos (by rfl)]
                refine fin _ (.inr ⟨q, l'[q], Nat.lt_succ_self _, rfl, hx, c1, fun k y hk hy hyN => ?_⟩)
                rcases Nat.lt_or_ge k q with hkq | hkq
                · have := hnone k y hkq hy
                  omega
                · obtain rfl : k = q := by omega
                  rw [hx] at hy
                  cases hy
                  exact .inr ⟨rfl, Nat.le_refl _⟩
              · have hix' : (l'.map rtk)[i]? = some (rtk x) := by rw [List.getElem?_map, hix]; rfl
                rw [if_neg (by simp), idx_nat, hix']
                simp only [Option.bind_some]
                have ex : (rtk x).At = x.At := rfl
                rw [ea, ex]
                by_cases c2 : l'[q].At < x.At
                · rw [if_pos (decide_eq_true c2)]
                  refine fin _ (.inr ⟨q, l'[q], Nat.lt_succ_self _, rfl, hx, c1, fun k y hk hy hyN => ?_⟩)
                  rcases Nat.lt_or_ge k q with hkq | hkq
                  · have := hbest k y hkq hy hyN
                    left
                    omega
                  · obtain rfl : k = q := by omega
                    rw [hx] at hy
                    cases hy
                    exact .inr ⟨rfl, Nat.le_refl _⟩
                · rw [if_neg (by simpa using c2)]
                  refine fin _ (.inr ⟨i, x, by omega, rfl, hix, hxN, fun k y hk hy hyN => ?_⟩)
                  rcases Nat.lt_or_ge k q with hkq | hkq
                  · exact hbest k y hkq hy hyN
                  · obtain rfl : k = q := by omega
                    rw [hx] at hy
                    cases hy
                    omega
            · rw [if_neg (by rw [ea]; simpa using c1)]
              refine fin _ ?_
              rcases hP with ⟨rfl, hnone⟩ | ⟨i, x, hiq, rfl, hix, hxN, hbest⟩
              · refine .inl ⟨rfl, fun k y hk hy => ?_⟩
                rcases Nat.lt_or_ge k q with hkq | hkq
                · exact hnone k y hkq hy
                · obtain rfl : k = q := by omega
                  rw [hx] at hy
                  cases hy
                  omega
              · refine .inr ⟨i, x, by omega, rfl, hix, hxN, fun k y hk hy hyN => ?_⟩
                rcases Nat.lt_or_ge k q with hkq | hkq
                · exact hbest k y hkq hy hyN
                · obtain rfl : k = q := by omega
                  rw [hx] at hy
                  cases hy
                  omega
          · right
            rw [if_neg (by simp only [decide_eq_true_eq, List.length_map]; omega)]
            refine ⟨_, rfl, ?_⟩
            rcases hP with ⟨rfl, hnone⟩ | ⟨i, x, hiq, rfl, hix, hxN, hbest⟩
            · refine .inl ⟨rfl, fun y hy => ?_⟩
              obtain ⟨k, hk⟩ := List.mem_iff_getElem?.1 hy
              exact hnone k y (by have := (List.getElem?_eq_some_iff.1 hk).1; omega) hk
            · exact .inr ⟨i, x, rfl, hix, hxN, fun k y hy hyN => hbest k y (by have := (List.getElem?_eq_some_iff.1 hy).1; omega) hy hyN⟩) fuel (-1, 0) ⟨0, Nat.zero_le _, rfl, .inl ⟨rfl, fun k y hk => by omega⟩⟩ (lt_fuel (by show l'.length - _ ≤ _; omega))
      exact ⟨v, hv, hr⟩
    obtain ⟨v, hv, hr⟩ := iter_inv (f := m12_r13_Tick_s3) (P := fun s => ∃ (l' : List GTimersTimer) (gone : List Int), s = (N, l'.map rtk, gone) ∧ (l'.Pairwise fun x y => x.ID < y.ID) ∧ gone.length + l'.length ≤ 64 ∧ (l'.filter fun x => decide (N < x.At)) = (l.filter fun x => decide (N < x.At)) ∧ gone ++ dueIds l' N = dueIds l N) (μ := fun s => s.2.1.length)
      (R := fun r => r = .inl (⟨N, (l.filter fun x => decide (N < x.At)).map rtk⟩, dueIds l N, 0)) (by
        rintro _ ⟨l', gone, rfl, hasc, hlen, hfil, hdue⟩
        unfold m12_r13_Tick_s3
        dsimp only
        rw [if_pos (decide_eq_true (by omega))]
        obtain ⟨j, hj, hb⟩ := best l' gone (by omega)
        rw [hj]
        simp only [Option.bind_some]
        unfold m12_r13_Tick_k4
        dsimp only
        rcases hb with ⟨rfl, hnone⟩ | ⟨i, x, rfl, hix, hxN, hbest⟩
        · rw [if_pos (by rfl)]
          refine .inr (.inr ⟨_, rfl, ?_⟩)
          rw [due_none hnone, List.append_nil] at hdue
          rw [← hfil, ← hdue]
          have : (l'.filter fun x => decide (N < x.At)) = l' := List.filter_eq_self.2 fun x hx => by simpa using hnone x hx
          rw [this]
        · have hix' : (l'.map rtk)[i]? = some (rtk x) := by rw [List.getElem?_map, hix]; rfl
          have hil := (List.getElem?_eq_some_iff.1 hix).1
          rw [if_neg (by simp), idx_nat, hix']
          simp only [Option.bind_some]
          rw [if_pos (by simp; omega), rclear_m _ (by show (l'.map rtk).length ≤ 1000; simp; omega)]
          simp only [Option.bind_some]
          have exi : (rtk x).ID = x.ID := rfl
          rw [exi, rclr_map]
          have hxm : x ∈ l' := List.mem_of_getElem? hix
          have hlt : (clr l' x.ID).length < l'.length := by
            unfold clr
            refine List.length_filter_lt_length_iff_exists.2 ⟨x, hxm, by simp⟩
          refine .inl ⟨_, rfl, ⟨clr l' x.ID, gone ++ [x.ID], rfl, clr_asc hasc _, by simp; omega, ?_, ?_⟩, by simpa using hlt⟩
          · rw [← hfil]
            unfold clr
            rw [List.filter_filter]
            refine List.filter_congr fun y hy => ?_
            by_cases e : y.ID = x.ID
            · have := inj_id hasc hy hxm e
              subst this
              have hn : ¬ N < y.At := by omega
              simp [hn]
            · simp [e]
          · rw [← hdue, due_cons hasc hxm hxN (fun y hy hyN => ?_)]
            · simp
            · obtain ⟨k, hk⟩ := List.mem_iff_getElem?.1 hy
              rcases hbest k y hk hyN with h' | ⟨h1, h2⟩
              · exact .inl h'
              · refine .inr ⟨h1, ?_⟩
                rcases Nat.eq_or_lt_of_le h2 with rfl | hlt
                · rw [hix] at hk; cases hk; exact Int.le_refl _
                · have hkl := (List.getElem?_eq_some_iff.1 hk).1
                  have := List.pairwise_iff_getElem.1 hasc i k hil hkl hlt
                  rw [List.getElem?_eq_getElem hil] at hix
                  rw [List.getElem?_eq_getElem hkl] at hk
                  cases hix
                  cases hk
                  exact Int.le_of_lt this) fuel (N, l.map rtk, []) ⟨l, [], rfl, h.asc, by simpa using hl, rfl, rfl⟩ (lt_fuel (by show (l.map rtk).length ≤ _; simp; omega))
    rw [hv, hr]
    rfl
end Go.Proofs.Ytnphcnhejgpjgaa.Abs
end
