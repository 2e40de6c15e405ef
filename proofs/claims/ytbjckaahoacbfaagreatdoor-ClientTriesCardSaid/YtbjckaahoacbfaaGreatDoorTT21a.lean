/-
 t
-/
import Derived.Test.YtbjckaahoacbfaaGreatDoorTAbsC
import Derived.Test.YtbjckaahoacbfaaGreatDoorProg
set_option linter.unusedVariables false
set_option linter.unusedSimpArgs false
namespace Go.Proofs.YtbjckaahoacbfaaGreatDoor.Abs
open Go.RowKit Go.Proofs
set_option maxRecDepth 100000
structure B9 where
 Lo : List UInt8
 Hi : List UInt8
 Open : Bool
def X4 (x : B9) : List Lf := [.sl x.Lo.length (x.Lo.flatMap eU8), .sl x.Hi.length (x.Hi.flatMap eU8), .b x.Open]
structure Wl where
 What : Int
 A : Int
 B : Int
 N : Int
 Key : List UInt8
 Rng : B9
def O6 (x : Wl) : List Lf := [.i .i64 x.What, .i .i64 x.A, .i .i64 x.B, .i .i64 x.N, .sl x.Key.length (x.Key.flatMap eU8), .sl x.Rng.Lo.length (x.Rng.Lo.flatMap eU8), .sl x.Rng.Hi.length (x.Rng.Hi.flatMap eU8), .b x.Rng.Open]
structure Iy where
 RO : Bool
 Ops : List Wl
def Zv (x : Iy) : List Lf := [.b x.RO, .sl x.Ops.length (x.Ops.flatMap O6)]
structure Rt where
 Token : Int
 Prog : Iy
def Aas (x : Rt) : List Lf := [.i .i64 x.Token, .b x.Prog.RO, .sl x.Prog.Ops.length (x.Prog.Ops.flatMap O6)]
structure Db where
 Key : List UInt8
 Val : List UInt8
def Dx (x : Db) : List Lf := [.sl x.Key.length (x.Key.flatMap eU8), .sl x.Val.length (x.Val.flatMap eU8)]
structure Hx where
 Kind : Int
 Seq : Int
 Code : Int
 N : Int
 Found : Bool
 Val : List UInt8
 List : List Db
def Yd (x : Hx) : List Lf := [.i .i64 x.Kind, .i .i64 x.Seq, .i .i64 x.Code, .i .i64 x.N, .b x.Found, .sl x.Val.length (x.Val.flatMap eU8), .sl x.List.length (x.List.flatMap Dx)]
structure Ja where
 What : Int
 N : Int
 Task : Rt
 Reply : Hx
 Bytes : List UInt8
def Nf (x : Ja) : List Lf := [.i .i64 x.What, .i .i64 x.N, .i .i64 x.Task.Token, .b x.Task.Prog.RO, .sl x.Task.Prog.Ops.length (x.Task.Prog.Ops.flatMap O6), .i .i64 x.Reply.Kind, .i .i64 x.Reply.Seq, .i .i64 x.Reply.Code, .i .i64 x.Reply.N, .b x.Reply.Found, .sl x.Reply.Val.length (x.Reply.Val.flatMap eU8), .sl x.Reply.List.length (x.Reply.List.flatMap Dx), .sl x.Bytes.length (x.Bytes.flatMap eU8)]
structure Dk where
 Wait : Int
 Most : Int
 Tries : Int
def Aca (x : Dk) : List Lf := [.i .i64 x.Wait, .i .i64 x.Most, .i .i64 x.Tries]
structure Cr where
 Who : Int
 Plan : Dk
 Attempts : Int
 Budget : Int
def Xl (x : Cr) : List Lf := [.i .i64 x.Who, .i .i64 x.Plan.Wait, .i .i64 x.Plan.Most, .i .i64 x.Plan.Tries, .i .i64 x.Attempts, .i .i64 x.Budget]
structure B7 where
 What : Int
 A : Int
 B : Int
 N : Int
 Key : List UInt8
 Rng : B9
def Cg (x : B7) : List Lf := [.i .i64 x.What, .i .i64 x.A, .i .i64 x.B, .i .i64 x.N, .sl x.Key.length (x.Key.flatMap eU8), .sl x.Rng.Lo.length (x.Rng.Lo.flatMap eU8), .sl x.Rng.Hi.length (x.Rng.Hi.flatMap eU8), .b x.Rng.Open]
structure Cp where
 RO : Bool
 Ops : List B7
def Ad1 (x : Cp) : List Lf := [.b x.RO, .sl x.Ops.length (x.Ops.flatMap Cg)]
structure As where
 Token : Int
 Prog : Cp
def Ay (x : As) : List Lf := [.i .i64 x.Token, .b x.Prog.RO, .sl x.Prog.Ops.length (x.Prog.Ops.flatMap Cg)]
structure E5 where
 R0 : Int
 R1 : Int
 R2 : Int
 R3 : Int
 R4 : Int
 R5 : Int
 R6 : Int
 R7 : Int
def Y5 (x : E5) : List Lf := [.i .i64 x.R0, .i .i64 x.R1, .i .i64 x.R2, .i .i64 x.R3, .i .i64 x.R4, .i .i64 x.R5, .i .i64 x.R6, .i .i64 x.R7]
structure A7 where
 PC : Int
 Regs : E5
 Stopped : Bool
def Abt (x : A7) : List Lf := [.i .i64 x.PC, .i .i64 x.Regs.R0, .i .i64 x.Regs.R1, .i .i64 x.Regs.R2, .i .i64 x.Regs.R3, .i .i64 x.Regs.R4, .i .i64 x.Regs.R5, .i .i64 x.Regs.R6, .i .i64 x.Regs.R7, .b x.Stopped]
structure B6 where
 Kind : Int
 Seq : Int
 Token : Int
 Attempt : Int
 RO : Bool
 Key : List UInt8
 Val : List UInt8
 Rng : B9
def Ajr (x : B6) : List Lf := [.i .i64 x.Kind, .i .i64 x.Seq, .i .i64 x.Token, .i .i64 x.Attempt, .b x.RO, .sl x.Key.length (x.Key.flatMap eU8), .sl x.Val.length (x.Val.flatMap eU8), .sl x.Rng.Lo.length (x.Rng.Lo.flatMap eU8), .sl x.Rng.Hi.length (x.Rng.Hi.flatMap eU8), .b x.Rng.Open]
structure Bo where
 Buf : List UInt8
 Dead : Int
def Xh (x : Bo) : List Lf := [.sl x.Buf.length (x.Buf.flatMap eU8), .i .i64 x.Dead]
structure A9 where
 Token : Int
 Code : Int
 Attempt : Int
 Ts : Int
 Regs : E5
def A5 (x : A9) : List Lf := [.i .i64 x.Token, .i .i64 x.Code, .i .i64 x.Attempt, .i .i64 x.Ts, .i .i64 x.Regs.R0, .i .i64 x.Regs.R1, .i .i64 x.Regs.R2, .i .i64 x.Regs.R3, .i .i64 x.Regs.R4, .i .i64 x.Regs.R5, .i .i64 x.Regs.R6, .i .i64 x.Regs.R7]
structure A6 where
 Token : Int
 Attempt : Int
 Regs : E5
def A8 (x : A6) : List Lf := [.i .i64 x.Token, .i .i64 x.Attempt, .i .i64 x.Regs.R0, .i .i64 x.Regs.R1, .i .i64 x.Regs.R2, .i .i64 x.Regs.R3, .i .i64 x.Regs.R4, .i .i64 x.Regs.R5, .i .i64 x.Regs.R6, .i .i64 x.Regs.R7]
structure Ai where
 Cfg : Cr
 Tasks : List As
 Phase : Int
 Epoch : Int
 Seq : Int
 Attempt : Int
 Sent : Int
 Left : Int
 Resets : Int
 Risk : Bool
 St : A7
 Req : B6
 In : Bo
 Out : List UInt8
 Done : List A9
 Tried : List A6
def Xk (x : Ai) : List Lf := [.i .i64 x.Cfg.Who, .i .i64 x.Cfg.Plan.Wait, .i .i64 x.Cfg.Plan.Most, .i .i64 x.Cfg.Plan.Tries, .i .i64 x.Cfg.Attempts, .i .i64 x.Cfg.Budget, .sl x.Tasks.length (x.Tasks.flatMap Ay), .i .i64 x.Phase, .i .i64 x.Epoch, .i .i64 x.Seq, .i .i64 x.Attempt, .i .i64 x.Sent, .i .i64 x.Left, .i .i64 x.Resets, .b x.Risk, .i .i64 x.St.PC, .i .i64 x.St.Regs.R0, .i .i64 x.St.Regs.R1, .i .i64 x.St.Regs.R2, .i .i64 x.St.Regs.R3, .i .i64 x.St.Regs.R4, .i .i64 x.St.Regs.R5, .i .i64 x.St.Regs.R6, .i .i64 x.St.Regs.R7, .b x.St.Stopped, .i .i64 x.Req.Kind, .i .i64 x.Req.Seq, .i .i64 x.Req.Token, .i .i64 x.Req.Attempt, .b x.Req.RO, .sl x.Req.Key.length (x.Req.Key.flatMap eU8), .sl x.Req.Val.length (x.Req.Val.flatMap eU8), .sl x.Req.Rng.Lo.length (x.Req.Rng.Lo.flatMap eU8), .sl x.Req.Rng.Hi.length (x.Req.Rng.Hi.flatMap eU8), .b x.Req.Rng.Open, .sl x.In.Buf.length (x.In.Buf.flatMap eU8), .i .i64 x.In.Dead, .sl x.Out.length (x.Out.flatMap eU8), .sl x.Done.length (x.Done.flatMap A5), .sl x.Tried.length (x.Tried.flatMap A8)]
structure K0 where
 R0 : Bool
 R1 : Bool
 R2 : Bool
def Abc (x : K0) : List Lf := [.b x.R0, .b x.R1, .b x.R2]
structure K6 where
 size_ : Int
 sum_ : BitVec 32
def Ab3 (x : K6) : List Lf := [.i .i64 x.size_, .i .u32 (x.sum_.toNat : Int)]
structure Gj where
 head_ : K6
 payload_ : List UInt8
def Z9 (x : Gj) : List Lf := [.i .i64 x.head_.size_, .i .u32 (x.head_.sum_.toNat : Int), .sl x.payload_.length (x.payload_.flatMap eU8)]
structure G1 where
 token_ : Bool
 attempt_ : Bool
 ro_ : Bool
 key_ : Bool
 val_ : Bool
 rng_ : Bool
def Un (x : G1) : List Lf := [.b x.token_, .b x.attempt_, .b x.ro_, .b x.key_, .b x.val_, .b x.rng_]
def Aqn : List G1 := [⟨false, false, false, false, false, false⟩, ⟨true, true, false, false, false, false⟩, ⟨true, true, true, false, false, false⟩, ⟨false, false, false, true, false, false⟩, ⟨false, false, false, true, true, false⟩, ⟨false, false, false, true, false, false⟩, ⟨false, false, false, false, false, true⟩, ⟨false, false, false, false, false, false⟩, ⟨false, false, false, false, false, false⟩, ⟨true, true, false, false, false, false⟩, ⟨true, false, false, false, false, false⟩, ⟨false, false, false, false, false, false⟩]
structure Bf where
 Kind : Int
 Seq : Int
 Code : Int
 N : Int
 Found : Bool
 Val : List UInt8
 List : List Db
def Ad8 (x : Bf) : List Lf := [.i .i64 x.Kind, .i .i64 x.Seq, .i .i64 x.Code, .i .i64 x.N, .b x.Found, .sl x.Val.length (x.Val.flatMap eU8), .sl x.List.length (x.List.flatMap Dx)]
def Ie (a : E5) (j : Int) (v : Int) : Option E5 :=
 if j = 0 then some ⟨v, a.R1, a.R2, a.R3, a.R4, a.R5, a.R6, a.R7⟩ else if j = 1 then some ⟨a.R0, v, a.R2, a.R3, a.R4, a.R5, a.R6, a.R7⟩ else if j = 2 then some ⟨a.R0, a.R1, v, a.R3, a.R4, a.R5, a.R6, a.R7⟩ else if j = 3 then some ⟨a.R0, a.R1, a.R2, v, a.R4, a.R5, a.R6, a.R7⟩ else if j = 4 then some ⟨a.R0, a.R1, a.R2, a.R3, v, a.R5, a.R6, a.R7⟩ else if j = 5 then some ⟨a.R0, a.R1, a.R2, a.R3, a.R4, v, a.R6, a.R7⟩ else if j = 6 then some ⟨a.R0, a.R1, a.R2, a.R3, a.R4, a.R5, v, a.R7⟩ else if j = 7 then some ⟨a.R0, a.R1, a.R2, a.R3, a.R4, a.R5, a.R6, v⟩ else none
class EL (α : Type) where
 el : α → List Lf
instance : EL B9 := ⟨X4⟩
instance : EL Wl := ⟨O6⟩
instance : EL Iy := ⟨Zv⟩
instance : EL Rt := ⟨Aas⟩
instance : EL Db := ⟨Dx⟩
instance : EL Hx := ⟨Yd⟩
instance : EL Ja := ⟨Nf⟩
instance : EL Dk := ⟨Aca⟩
instance : EL Cr := ⟨Xl⟩
instance : EL B7 := ⟨Cg⟩
instance : EL Cp := ⟨Ad1⟩
instance : EL As := ⟨Ay⟩
instance : EL E5 := ⟨Y5⟩
instance : EL A7 := ⟨Abt⟩
instance : EL B6 := ⟨Ajr⟩
instance : EL Bo := ⟨Xh⟩
instance : EL A9 := ⟨A5⟩
instance : EL A6 := ⟨A8⟩
instance : EL Ai := ⟨Xk⟩
instance : EL K0 := ⟨Abc⟩
instance : EL K6 := ⟨Ab3⟩
instance : EL Gj := ⟨Z9⟩
instance : EL G1 := ⟨Un⟩
instance : EL Bf := ⟨Ad8⟩
abbrev Bt : B9 := (B9.mk ([] : List UInt8) ([] : List UInt8) false)
abbrev No : As := (As.mk 0 (Cp.mk false ([] : List B7)))
abbrev Gh : A7 := (A7.mk 0 (E5.mk 0 0 0 0 0 0 0 0) false)
abbrev N1 : B6 := (B6.mk 0 0 0 0 false ([] : List UInt8) ([] : List UInt8) (B9.mk ([] : List UInt8) ([] : List UInt8) false))
abbrev Lx : A9 := (A9.mk 0 0 0 0 (E5.mk 0 0 0 0 0 0 0 0))
abbrev Mj : A6 := (A6.mk 0 0 (E5.mk 0 0 0 0 0 0 0 0))
abbrev Cy : Ai := (Ai.mk (Cr.mk 0 (Dk.mk 0 0 0) 0 0) ([] : List As) 0 0 0 0 0 0 0 false (A7.mk 0 (E5.mk 0 0 0 0 0 0 0 0) false) (B6.mk 0 0 0 0 false ([] : List UInt8) ([] : List UInt8) (B9.mk ([] : List UInt8) ([] : List UInt8) false)) (Bo.mk ([] : List UInt8) 0) ([] : List UInt8) ([] : List A9) ([] : List A6))
abbrev X6 : Bf := (Bf.mk 0 0 0 0 false ([] : List UInt8) ([] : List Db))
abbrev Znl : Lf := .raw (.slice none 0 0)
abbrev Ii6 (n : Int) : Lf := .i .i64 n
theorem SJ {α : Type} {a b : α} (h : some a = some b) : a = b := Option.some.inj h
abbrev Nfu : Lf := .raw .nilFunc
abbrev Zba : List Lf := [Ii6 0, Ii6 0, Ii6 0, Ii6 0, Ii6 0, Ii6 0, Znl, Ii6 0, Ii6 0, Ii6 0, Ii6 0, Ii6 0, Ii6 0, Ii6 0, .b false, Ii6 0, Ii6 0, Ii6 0, Ii6 0, Ii6 0, Ii6 0, Ii6 0, Ii6 0, Ii6 0, .b false, Ii6 0, Ii6 0, Ii6 0, Ii6 0, .b false, Znl, Znl, Znl, Znl, .b false, Znl, Ii6 0, Znl, Znl, Znl]
abbrev Zbb : List Lf := [Ii6 0, Ii6 0, Ii6 0, Ii6 0, Ii6 0, Ii6 0, Ii6 0, Ii6 0, Ii6 0, .b false]
abbrev Zbc : List Lf := [Ii6 0, Ii6 0, Ii6 0, Ii6 0, .b false, Znl, Znl, Znl, Znl, .b false]
abbrev Zbd : List Lf := [Ii6 0, Ii6 0, Ii6 0, Ii6 0, .b false, Znl, Znl]
theorem Nbl {n m : Nat} (h : Nat.ble n m = true) : n ≤ m := Nat.le_of_ble_eq_true h
theorem Auu : ZI Tryz.prog 28 ([Ii6 0, Ii6 0, Ii6 0, Ii6 0, Ii6 0, Ii6 0]) := Nr (by kernel_rfl)
theorem Av2 : ZI Tryz.prog 26 ([Ii6 0, Ii6 0, Ii6 0]) := Nr (by kernel_rfl)
theorem Av7 : PI Tryz.prog 26 [(0, 1), (1, 1), (2, 1)] := Ql Tryz.underlying26 (by kernel_rfl) (by kernel_rfl)
theorem Auy : PI Tryz.prog 28 [(0, 1), (1, 3), (4, 1), (5, 1)] := Ql Tryz.underlying28 (by kernel_rfl) (by kernel_rfl)
theorem Au7 : (Tryz.prog.info? 28).map (·.size) = some 6 := by kernel_rfl
theorem Aqo : TI Tryz.prog 28 true 6 := ⟨⟨_, Tryz.underlying28, rfl⟩, by kernel_rfl⟩
theorem Atr : FnI Tryz.prog 10 := ⟨⟨_, Tryz.func10, by kernel_rfl, by kernel_rfl⟩⟩
theorem Nw : ZI Tryz.prog 44 (Zba) := Nr (by kernel_rfl)
theorem Ae7 : FI Tryz.prog 28 0 0 := ⟨⟨_, _, 1, Tryz.underlying28, rfl, rfl, by kernel_rfl, by decide⟩⟩
theorem ti3 : TI Tryz.prog 3 false 1 := ⟨⟨_, Tryz.underlying3, rfl⟩, by kernel_rfl⟩
theorem Ae3 : FnI Tryz.prog 36 := ⟨⟨_, Tryz.func36, by kernel_rfl, by kernel_rfl⟩⟩
theorem Wn : FI Tryz.prog 28 1 1 := ⟨⟨_, _, 3, Tryz.underlying28, rfl, rfl, by kernel_rfl, by decide⟩⟩
theorem Akl : TI Tryz.prog 26 true 3 := ⟨⟨_, Tryz.underlying26, rfl⟩, by kernel_rfl⟩
theorem Ac8 : FI Tryz.prog 26 0 0 := ⟨⟨_, _, 1, Tryz.underlying26, rfl, rfl, by kernel_rfl, by decide⟩⟩
theorem Ag1 : FI Tryz.prog 26 1 1 := ⟨⟨_, _, 1, Tryz.underlying26, rfl, rfl, by kernel_rfl, by decide⟩⟩
theorem Aam : FI Tryz.prog 26 2 2 := ⟨⟨_, _, 1, Tryz.underlying26, rfl, rfl, by kernel_rfl, by decide⟩⟩
theorem Atv : FnI Tryz.prog 58 := ⟨⟨_, Tryz.func58, by kernel_rfl, by kernel_rfl⟩⟩
theorem Ahq : FI Tryz.prog 28 2 4 := ⟨⟨_, _, 1, Tryz.underlying28, rfl, rfl, by kernel_rfl, by decide⟩⟩
theorem Alj : FI Tryz.prog 28 3 5 := ⟨⟨_, _, 1, Tryz.underlying28, rfl, rfl, by kernel_rfl, by decide⟩⟩
theorem Auh : FnI Tryz.prog 25 := ⟨⟨_, Tryz.func25, by kernel_rfl, by kernel_rfl⟩⟩
theorem Adn : PI Tryz.prog 44 [(0, 6), (6, 1), (7, 1), (8, 1), (9, 1), (10, 1), (11, 1), (12, 1), (13, 1), (14, 1), (15, 10), (25, 10), (35, 2), (37, 1), (38, 1), (39, 1)] := Ql Tryz.underlying44 (by kernel_rfl) (by kernel_rfl)
theorem E7 : (Tryz.prog.info? 44).map (·.size) = some 40 := by kernel_rfl
theorem B8 : TI Tryz.prog 44 true 40 := ⟨⟨_, Tryz.underlying44, rfl⟩, by kernel_rfl⟩
theorem fn9 : FnI Tryz.prog 9 := ⟨⟨_, Tryz.func9, by kernel_rfl, by kernel_rfl⟩⟩
theorem Q8 : FI Tryz.prog 44 0 0 := ⟨⟨_, _, 6, Tryz.underlying44, rfl, rfl, by kernel_rfl, by decide⟩⟩
theorem Hf : FI Tryz.prog 44 2 7 := ⟨⟨_, _, 1, Tryz.underlying44, rfl, rfl, by kernel_rfl, by decide⟩⟩
theorem Aax : FI Tryz.prog 44 3 8 := ⟨⟨_, _, 1, Tryz.underlying44, rfl, rfl, by kernel_rfl, by decide⟩⟩
theorem Xu : FI Tryz.prog 44 4 9 := ⟨⟨_, _, 1, Tryz.underlying44, rfl, rfl, by kernel_rfl, by decide⟩⟩
theorem Oe : FI Tryz.prog 44 5 10 := ⟨⟨_, _, 1, Tryz.underlying44, rfl, rfl, by kernel_rfl, by decide⟩⟩
theorem Z4 : FI Tryz.prog 44 6 11 := ⟨⟨_, _, 1, Tryz.underlying44, rfl, rfl, by kernel_rfl, by decide⟩⟩
theorem Q0 : FI Tryz.prog 44 7 12 := ⟨⟨_, _, 1, Tryz.underlying44, rfl, rfl, by kernel_rfl, by decide⟩⟩
theorem Acx : FI Tryz.prog 44 8 13 := ⟨⟨_, _, 1, Tryz.underlying44, rfl, rfl, by kernel_rfl, by decide⟩⟩
theorem Awg : FnI Tryz.prog 29 := ⟨⟨_, Tryz.func29, by kernel_rfl, by kernel_rfl⟩⟩
theorem Mz : FI Tryz.prog 44 1 6 := ⟨⟨_, _, 1, Tryz.underlying44, rfl, rfl, by kernel_rfl, by decide⟩⟩
theorem Zk : TI Tryz.prog 29 false 1 := ⟨⟨_, Tryz.underlying29, rfl⟩, by kernel_rfl⟩
theorem Vl : SI Tryz.prog 29 94 3 := ⟨Tryz.underlying29, by kernel_rfl, by decide⟩
theorem Alr : TI Tryz.prog 94 true 3 := ⟨⟨_, Tryz.underlying94, rfl⟩, by kernel_rfl⟩
theorem An2 : ZI Tryz.prog 94 ([Ii6 0, .b false, Znl]) := Nr (by kernel_rfl)
theorem Aq0 : (Tryz.prog.info? 94).map (·.size) = some 3 := by kernel_rfl
theorem Sf : FI Tryz.prog 94 0 0 := ⟨⟨_, _, 1, Tryz.underlying94, rfl, rfl, by kernel_rfl, by decide⟩⟩
theorem Adc : FI Tryz.prog 94 1 1 := ⟨⟨_, _, 2, Tryz.underlying94, rfl, rfl, by kernel_rfl, by decide⟩⟩
theorem Am3 : TI Tryz.prog 92 true 2 := ⟨⟨_, Tryz.underlying92, rfl⟩, by kernel_rfl⟩
theorem Sl : FI Tryz.prog 92 1 1 := ⟨⟨_, _, 1, Tryz.underlying92, rfl, rfl, by kernel_rfl, by decide⟩⟩
theorem Aim : TI Tryz.prog 90 false 1 := ⟨⟨_, Tryz.underlying90, rfl⟩, by kernel_rfl⟩
theorem Aj2 : SI Tryz.prog 90 89 8 := ⟨Tryz.underlying90, by kernel_rfl, by decide⟩
theorem Akz : TI Tryz.prog 89 true 8 := ⟨⟨_, Tryz.underlying89, rfl⟩, by kernel_rfl⟩
theorem Apo : ZI Tryz.prog 89 ([Ii6 0, Ii6 0, Ii6 0, Ii6 0, Znl, Znl, Znl, .b false]) := Nr (by kernel_rfl)
theorem As2 : (Tryz.prog.info? 89).map (·.size) = some 8 := by kernel_rfl
theorem Aky : FI Tryz.prog 92 0 0 := ⟨⟨_, _, 1, Tryz.underlying92, rfl, rfl, by kernel_rfl, by decide⟩⟩
theorem ti4 : TI Tryz.prog 4 false 1 := ⟨⟨_, Tryz.underlying4, rfl⟩, by kernel_rfl⟩
theorem V5 : FI Tryz.prog 89 0 0 := ⟨⟨_, _, 1, Tryz.underlying89, rfl, rfl, by kernel_rfl, by decide⟩⟩
theorem Afn : FnI Tryz.prog 120 := ⟨⟨_, Tryz.func120, by kernel_rfl, by kernel_rfl⟩⟩
theorem U4 : FI Tryz.prog 89 1 1 := ⟨⟨_, _, 1, Tryz.underlying89, rfl, rfl, by kernel_rfl, by decide⟩⟩
theorem Xv : FI Tryz.prog 89 2 2 := ⟨⟨_, _, 1, Tryz.underlying89, rfl, rfl, by kernel_rfl, by decide⟩⟩
theorem Aav : FI Tryz.prog 89 3 3 := ⟨⟨_, _, 1, Tryz.underlying89, rfl, rfl, by kernel_rfl, by decide⟩⟩
theorem Zh : ZI Tryz.prog 201 ([.b false, .b false, .b false]) := Nr (by kernel_rfl)
theorem Acu : AI Tryz.prog 201 3 4 1 := ⟨Tryz.underlying201, by kernel_rfl, by decide, by decide⟩
theorem Ah6 : (Tryz.prog.info? 201).map (·.size) = some 3 := by kernel_rfl
theorem Agc : TI Tryz.prog 201 true 3 := ⟨⟨_, Tryz.underlying201, rfl⟩, by kernel_rfl⟩
theorem Aph : FnI Tryz.prog 121 := ⟨⟨_, Tryz.func121, by kernel_rfl, by kernel_rfl⟩⟩
theorem Lm : Tryz.prog.follows .mixedOrders = true := by kernel_rfl
theorem Aa2 : FI Tryz.prog 89 4 4 := ⟨⟨_, _, 1, Tryz.underlying89, rfl, rfl, by kernel_rfl, by decide⟩⟩
theorem L5 : TI Tryz.prog 33 false 1 := ⟨⟨_, Tryz.underlying33, rfl⟩, by kernel_rfl⟩
theorem Li : SI Tryz.prog 33 5 1 := ⟨Tryz.underlying33, by kernel_rfl, by decide⟩
theorem Ah4 : FI Tryz.prog 89 5 5 := ⟨⟨_, _, 3, Tryz.underlying89, rfl, rfl, by kernel_rfl, by decide⟩⟩
theorem Ain : TI Tryz.prog 35 true 3 := ⟨⟨_, Tryz.underlying35, rfl⟩, by kernel_rfl⟩
theorem Tz : FI Tryz.prog 35 0 0 := ⟨⟨_, _, 1, Tryz.underlying35, rfl, rfl, by kernel_rfl, by decide⟩⟩
theorem Qx : FI Tryz.prog 35 1 1 := ⟨⟨_, _, 1, Tryz.underlying35, rfl, rfl, by kernel_rfl, by decide⟩⟩
theorem X9 : FI Tryz.prog 35 2 2 := ⟨⟨_, _, 1, Tryz.underlying35, rfl, rfl, by kernel_rfl, by decide⟩⟩
theorem Asc : FnI Tryz.prog 122 := ⟨⟨_, Tryz.func122, by kernel_rfl, by kernel_rfl⟩⟩
theorem Aoe : EqD Tryz.prog 201 [1, 1, 1] := ⟨by kernel_rfl, by kernel_rfl, by kernel_rfl, by kernel_rfl⟩
theorem Ara : FnI Tryz.prog 123 := ⟨⟨_, Tryz.func123, by kernel_rfl, by kernel_rfl⟩⟩
theorem Asx : FnI Tryz.prog 133 := ⟨⟨_, Tryz.func133, by kernel_rfl, by kernel_rfl⟩⟩
theorem ti5 : TI Tryz.prog 5 false 1 := ⟨⟨_, Tryz.underlying5, rfl⟩, by kernel_rfl⟩
theorem Asa : XI Tryz.prog 142 Extern.BytealgCompare.compare := ⟨⟨Tryz.f142, Tryz.func142, by kernel_rfl, by kernel_rfl, by kernel_rfl, by kernel_rfl⟩⟩
theorem Arn : FnI Tryz.prog 141 := ⟨⟨_, Tryz.func141, by kernel_rfl, by kernel_rfl⟩⟩
theorem Arj : FnI Tryz.prog 139 := ⟨⟨_, Tryz.func139, by kernel_rfl, by kernel_rfl⟩⟩
theorem Asr : FnI Tryz.prog 134 := ⟨⟨_, Tryz.func134, by kernel_rfl, by kernel_rfl⟩⟩
theorem Arr : FnI Tryz.prog 124 := ⟨⟨_, Tryz.func124, by kernel_rfl, by kernel_rfl⟩⟩
theorem Asw : FnI Tryz.prog 107 := ⟨⟨_, Tryz.func107, by kernel_rfl, by kernel_rfl⟩⟩
theorem Arf : FnI Tryz.prog 82 := ⟨⟨_, Tryz.func82, by kernel_rfl, by kernel_rfl⟩⟩
theorem Auj : FnI Tryz.prog 53 := ⟨⟨_, Tryz.func53, by kernel_rfl, by kernel_rfl⟩⟩
theorem Atw : FnI Tryz.prog 54 := ⟨⟨_, Tryz.func54, by kernel_rfl, by kernel_rfl⟩⟩
theorem Avk : FnI Tryz.prog 30 := ⟨⟨_, Tryz.func30, by kernel_rfl, by kernel_rfl⟩⟩
theorem Au6 : FnI Tryz.prog 31 := ⟨⟨_, Tryz.func31, by kernel_rfl, by kernel_rfl⟩⟩
theorem Ai1 : FnI Tryz.prog 32 := ⟨⟨_, Tryz.func32, by kernel_rfl, by kernel_rfl⟩⟩
theorem V3 : FI Tryz.prog 44 12 35 := ⟨⟨_, _, 2, Tryz.underlying44, rfl, rfl, by kernel_rfl, by decide⟩⟩
theorem Ah9 : TI Tryz.prog 40 true 2 := ⟨⟨_, Tryz.underlying40, rfl⟩, by kernel_rfl⟩
theorem Ah3 : FI Tryz.prog 40 1 1 := ⟨⟨_, _, 1, Tryz.underlying40, rfl, rfl, by kernel_rfl, by decide⟩⟩
theorem Aba : TI Tryz.prog 38 false 1 := ⟨⟨_, Tryz.underlying38, rfl⟩, by kernel_rfl⟩
theorem Auq : FnI Tryz.prog 65 := ⟨⟨_, Tryz.func65, by kernel_rfl, by kernel_rfl⟩⟩
theorem Adr : FI Tryz.prog 40 0 0 := ⟨⟨_, _, 1, Tryz.underlying40, rfl, rfl, by kernel_rfl, by decide⟩⟩
theorem W7 : ZI Tryz.prog 121 ([Ii6 0, .i .u32 0, Znl]) := Nr (by kernel_rfl)
theorem zi3 : ZI Tryz.prog 3 ([Ii6 0]) := Nr (by kernel_rfl)
theorem sz3 : (Tryz.prog.info? 3).map (·.size) = some 1 := by kernel_rfl
theorem Atf : ZI Tryz.prog 193 ([Nfu, Ii6 0]) := Nr (by kernel_rfl)
theorem As9 : PI Tryz.prog 193 [(0, 1), (1, 1)] := Ql Tryz.underlying193 (by kernel_rfl) (by kernel_rfl)
theorem Arb : FnI Tryz.prog 92 := ⟨⟨_, Tryz.func92, by kernel_rfl, by kernel_rfl⟩⟩
theorem Aej : PI Tryz.prog 121 [(0, 2), (2, 1)] := Ql Tryz.underlying121 (by kernel_rfl) (by kernel_rfl)
theorem Y6 : (Tryz.prog.info? 121).map (·.size) = some 3 := by kernel_rfl
theorem Abe : FI Tryz.prog 193 1 1 := ⟨⟨_, _, 1, Tryz.underlying193, rfl, rfl, by kernel_rfl, by decide⟩⟩
theorem Ajp : FnI Tryz.prog 108 := ⟨⟨_, Tryz.func108, by kernel_rfl, by kernel_rfl⟩⟩
theorem At0 : (Tryz.prog.info? 38).map (·.size) = some 1 := by kernel_rfl
theorem Ans : FnI Tryz.prog 94 := ⟨⟨_, Tryz.func94, by kernel_rfl, by kernel_rfl⟩⟩
theorem Ab5 : FI Tryz.prog 193 0 0 := ⟨⟨_, _, 1, Tryz.underlying193, rfl, rfl, by kernel_rfl, by decide⟩⟩
theorem Amh : TI Tryz.prog 191 false 1 := ⟨⟨_, Tryz.underlying191, rfl⟩, by kernel_rfl⟩
theorem Ao9 : FnI Tryz.prog 112 := ⟨⟨_, Tryz.func112, by kernel_rfl, by kernel_rfl⟩⟩
theorem Apy : FnI Tryz.prog 114 := ⟨⟨_, Tryz.func114, by kernel_rfl, by kernel_rfl⟩⟩
theorem Aqc : FnI Tryz.prog 113 := ⟨⟨_, Tryz.func113, by kernel_rfl, by kernel_rfl⟩⟩
theorem Ah8 : FnI Tryz.prog 93 := ⟨⟨_, Tryz.func93, by kernel_rfl, by kernel_rfl⟩⟩
theorem Pu : FI Tryz.prog 121 0 0 := ⟨⟨_, _, 2, Tryz.underlying121, rfl, rfl, by kernel_rfl, by decide⟩⟩
theorem Ue : FI Tryz.prog 119 0 0 := ⟨⟨_, _, 1, Tryz.underlying119, rfl, rfl, by kernel_rfl, by decide⟩⟩
theorem Abq : TI Tryz.prog 121 true 3 := ⟨⟨_, Tryz.underlying121, rfl⟩, by kernel_rfl⟩
theorem Ach : FI Tryz.prog 119 1 1 := ⟨⟨_, _, 1, Tryz.underlying119, rfl, rfl, by kernel_rfl, by decide⟩⟩
theorem Aql : (Tryz.prog.info? 117).map (·.size) = some 1 := by kernel_rfl
theorem Y0 : FI Tryz.prog 121 1 2 := ⟨⟨_, _, 1, Tryz.underlying121, rfl, rfl, by kernel_rfl, by decide⟩⟩
theorem Aow : (Tryz.prog.info? 33).map (·.size) = some 1 := by kernel_rfl
theorem Amy : TI Tryz.prog 117 false 1 := ⟨⟨_, Tryz.underlying117, rfl⟩, by kernel_rfl⟩
theorem ei5 : EI Tryz.prog 5 1 1 [.i .u8 0] := Xa (by kernel_rfl) (by decide)
theorem sz5 : (Tryz.prog.info? 5).map (·.size) = some 1 := by kernel_rfl
theorem An9 : EI Tryz.prog 33 1 24 [Znl] := Xa (by kernel_rfl) (by decide)
theorem Ady : SI Tryz.prog 124 33 1 := ⟨Tryz.underlying124, by kernel_rfl, by decide⟩
theorem Au9 : FnI Tryz.prog 75 := ⟨⟨_, Tryz.func75, by kernel_rfl, by kernel_rfl⟩⟩
theorem Arw : NI Tryz.prog 33 := ⟨.inl ⟨_, Tryz.underlying33⟩⟩
theorem Aqx : FnI Tryz.prog 44 := ⟨⟨_, Tryz.func44, by kernel_rfl, by kernel_rfl⟩⟩
theorem Aa9 : FnI Tryz.prog 40 := ⟨⟨_, Tryz.func40, by kernel_rfl, by kernel_rfl⟩⟩
theorem Amw : ZI Tryz.prog 188 (List.replicate 256 (.i .u32 0)) := Nr (by kernel_rfl)
theorem Ar1 : FnI Tryz.prog 126 := ⟨⟨_, Tryz.func126, by kernel_rfl, by kernel_rfl⟩⟩
theorem Apg : AI Tryz.prog 188 256 117 1 := ⟨Tryz.underlying188, by kernel_rfl, by decide, by decide⟩
theorem Aqe : TI Tryz.prog 188 true 256 := ⟨⟨_, Tryz.underlying188, rfl⟩, by kernel_rfl⟩
theorem Aoi : (Tryz.prog.info? 188).map (·.size) = some 256 := by kernel_rfl
theorem Asu : FnI Tryz.prog 111 := ⟨⟨_, Tryz.func111, by kernel_rfl, by kernel_rfl⟩⟩
theorem Aty : FnI Tryz.prog 90 := ⟨⟨_, Tryz.func90, by kernel_rfl, by kernel_rfl⟩⟩
theorem Avd : FnI Tryz.prog 91 := ⟨⟨_, Tryz.func91, by kernel_rfl, by kernel_rfl⟩⟩
theorem Aua : FnI Tryz.prog 74 := ⟨⟨_, Tryz.func74, by kernel_rfl, by kernel_rfl⟩⟩
theorem Avh : FnI Tryz.prog 84 := ⟨⟨_, Tryz.func84, by kernel_rfl, by kernel_rfl⟩⟩
theorem Aun : FnI Tryz.prog 85 := ⟨⟨_, Tryz.func85, by kernel_rfl, by kernel_rfl⟩⟩
theorem At7 : FnI Tryz.prog 66 := ⟨⟨_, Tryz.func66, by kernel_rfl, by kernel_rfl⟩⟩
theorem Ass : FnI Tryz.prog 34 := ⟨⟨_, Tryz.func34, by kernel_rfl, by kernel_rfl⟩⟩
theorem Rf : FI Tryz.prog 44 13 37 := ⟨⟨_, _, 1, Tryz.underlying44, rfl, rfl, by kernel_rfl, by decide⟩⟩
theorem Jp : FI Tryz.prog 44 11 25 := ⟨⟨_, _, 10, Tryz.underlying44, rfl, rfl, by kernel_rfl, by decide⟩⟩
theorem Aex : TI Tryz.prog 37 true 10 := ⟨⟨_, Tryz.underlying37, rfl⟩, by kernel_rfl⟩
theorem P8 : FI Tryz.prog 37 0 0 := ⟨⟨_, _, 1, Tryz.underlying37, rfl, rfl, by kernel_rfl, by decide⟩⟩
theorem Akc : ZI Tryz.prog 142 ([.b false, .b false, .b false, .b false, .b false, .b false]) := Nr (by kernel_rfl)
theorem Aq2 : FnI Tryz.prog 60 := ⟨⟨_, Tryz.func60, by kernel_rfl, by kernel_rfl⟩⟩
theorem Arv : PI Tryz.prog 142 [(0, 1), (1, 1), (2, 1), (3, 1), (4, 1), (5, 1)] := Ql Tryz.underlying142 (by kernel_rfl) (by kernel_rfl)
theorem Aik : (Tryz.prog.info? 142).map (·.size) = some 6 := by kernel_rfl
theorem Alq : TI Tryz.prog 142 true 6 := ⟨⟨_, Tryz.underlying142, rfl⟩, by kernel_rfl⟩
theorem Aly : (0, Aqn.flatMap Un) ∈ GL := List.mem_cons.2 (.inl rfl)
theorem Ars : AI Tryz.prog 165 12 142 6 := ⟨Tryz.underlying165, by kernel_rfl, by decide, by decide⟩
theorem Atu : FnI Tryz.prog 59 := ⟨⟨_, Tryz.func59, by kernel_rfl, by kernel_rfl⟩⟩
theorem Qq : FI Tryz.prog 37 1 1 := ⟨⟨_, _, 1, Tryz.underlying37, rfl, rfl, by kernel_rfl, by decide⟩⟩
theorem Alm : FnI Tryz.prog 61 := ⟨⟨_, Tryz.func61, by kernel_rfl, by kernel_rfl⟩⟩
theorem Agv : FI Tryz.prog 142 0 0 := ⟨⟨_, _, 1, Tryz.underlying142, rfl, rfl, by kernel_rfl, by decide⟩⟩
theorem Akt : FI Tryz.prog 37 2 2 := ⟨⟨_, _, 1, Tryz.underlying37, rfl, rfl, by kernel_rfl, by decide⟩⟩
theorem At9 : FnI Tryz.prog 62 := ⟨⟨_, Tryz.func62, by kernel_rfl, by kernel_rfl⟩⟩
theorem Ag4 : FI Tryz.prog 142 1 1 := ⟨⟨_, _, 1, Tryz.underlying142, rfl, rfl, by kernel_rfl, by decide⟩⟩
theorem Ak3 : FI Tryz.prog 37 3 3 := ⟨⟨_, _, 1, Tryz.underlying37, rfl, rfl, by kernel_rfl, by decide⟩⟩
theorem Agq : FI Tryz.prog 142 2 2 := ⟨⟨_, _, 1, Tryz.underlying142, rfl, rfl, by kernel_rfl, by decide⟩⟩
theorem Abp : FI Tryz.prog 142 3 3 := ⟨⟨_, _, 1, Tryz.underlying142, rfl, rfl, by kernel_rfl, by decide⟩⟩
theorem Ag5 : FI Tryz.prog 37 5 5 := ⟨⟨_, _, 1, Tryz.underlying37, rfl, rfl, by kernel_rfl, by decide⟩⟩
theorem Alk : FnI Tryz.prog 63 := ⟨⟨_, Tryz.func63, by kernel_rfl, by kernel_rfl⟩⟩
theorem Abg : FI Tryz.prog 142 4 4 := ⟨⟨_, _, 1, Tryz.underlying142, rfl, rfl, by kernel_rfl, by decide⟩⟩
theorem Agj : FI Tryz.prog 37 6 6 := ⟨⟨_, _, 1, Tryz.underlying37, rfl, rfl, by kernel_rfl, by decide⟩⟩
theorem Abu : FI Tryz.prog 142 5 5 := ⟨⟨_, _, 1, Tryz.underlying142, rfl, rfl, by kernel_rfl, by decide⟩⟩
theorem Aaz : FI Tryz.prog 37 7 7 := ⟨⟨_, _, 3, Tryz.underlying37, rfl, rfl, by kernel_rfl, by decide⟩⟩
theorem Auw : FnI Tryz.prog 64 := ⟨⟨_, Tryz.func64, by kernel_rfl, by kernel_rfl⟩⟩
theorem Alb : FI Tryz.prog 37 4 4 := ⟨⟨_, _, 1, Tryz.underlying37, rfl, rfl, by kernel_rfl, by decide⟩⟩
theorem At8 : FnI Tryz.prog 33 := ⟨⟨_, Tryz.func33, by kernel_rfl, by kernel_rfl⟩⟩
theorem An8 : FnI Tryz.prog 12 := ⟨⟨_, Tryz.func12, by kernel_rfl, by kernel_rfl⟩⟩
theorem Zf : ZI Tryz.prog 37 (Zbc) := Nr (by kernel_rfl)
theorem Aeq : PI Tryz.prog 37 [(0, 1), (1, 1), (2, 1), (3, 1), (4, 1), (5, 1), (6, 1), (7, 3)] := Ql Tryz.underlying37 (by kernel_rfl) (by kernel_rfl)
theorem Aqs : ZI Tryz.prog 61 ([Ii6 0, Ii6 0, Ii6 0, Ii6 0, Ii6 0, Ii6 0, Ii6 0, Ii6 0, Ii6 0, Ii6 0, Ii6 0, Ii6 0]) := Nr (by kernel_rfl)
theorem Ath : PI Tryz.prog 61 [(0, 1), (1, 1), (2, 1), (3, 1), (4, 8)] := Ql Tryz.underlying61 (by kernel_rfl) (by kernel_rfl)
theorem Nv : FI Tryz.prog 44 14 38 := ⟨⟨_, _, 1, Tryz.underlying44, rfl, rfl, by kernel_rfl, by decide⟩⟩
theorem Aep : TI Tryz.prog 41 false 1 := ⟨⟨_, Tryz.underlying41, rfl⟩, by kernel_rfl⟩
theorem Auk : TI Tryz.prog 61 true 12 := ⟨⟨_, Tryz.underlying61, rfl⟩, by kernel_rfl⟩
theorem Arp : EI Tryz.prog 61 12 96 [Ii6 0, Ii6 0, Ii6 0, Ii6 0, Ii6 0, Ii6 0, Ii6 0, Ii6 0, Ii6 0, Ii6 0, Ii6 0, Ii6 0] := Xa (by kernel_rfl) (by decide)
theorem Awa : EI Tryz.prog 41 1 24 [Znl] := Xa (by kernel_rfl) (by decide)
theorem Ajk : SI Tryz.prog 204 41 1 := ⟨Tryz.underlying204, by kernel_rfl, by decide⟩
theorem Zm : SI Tryz.prog 41 61 12 := ⟨Tryz.underlying41, by kernel_rfl, by decide⟩
theorem Ark : FnI Tryz.prog 125 := ⟨⟨_, Tryz.func125, by kernel_rfl, by kernel_rfl⟩⟩
theorem Au1 : NI Tryz.prog 41 := ⟨.inl ⟨_, Tryz.underlying41⟩⟩
theorem Ar8 : FnI Tryz.prog 109 := ⟨⟨_, Tryz.func109, by kernel_rfl, by kernel_rfl⟩⟩
theorem Av5 : (Tryz.prog.info? 41).map (·.size) = some 1 := by kernel_rfl
theorem Asz : FnI Tryz.prog 86 := ⟨⟨_, Tryz.func86, by kernel_rfl, by kernel_rfl⟩⟩
theorem Ye : FI Tryz.prog 44 9 14 := ⟨⟨_, _, 1, Tryz.underlying44, rfl, rfl, by kernel_rfl, by decide⟩⟩
theorem P4 : FI Tryz.prog 44 10 15 := ⟨⟨_, _, 10, Tryz.underlying44, rfl, rfl, by kernel_rfl, by decide⟩⟩
theorem W5 : FI Tryz.prog 32 2 9 := ⟨⟨_, _, 1, Tryz.underlying32, rfl, rfl, by kernel_rfl, by decide⟩⟩
theorem Avm : FnI Tryz.prog 87 := ⟨⟨_, Tryz.func87, by kernel_rfl, by kernel_rfl⟩⟩
theorem Atm : (Tryz.prog.info? 29).map (·.size) = some 1 := by kernel_rfl
theorem Aml : FnI Tryz.prog 68 := ⟨⟨_, Tryz.func68, by kernel_rfl, by kernel_rfl⟩⟩
theorem Auc : FnI Tryz.prog 67 := ⟨⟨_, Tryz.func67, by kernel_rfl, by kernel_rfl⟩⟩
theorem Aie : (Tryz.prog.info? 37).map (·.size) = some 10 := by kernel_rfl
theorem zi4 : ZI Tryz.prog 4 ([.b false]) := Nr (by kernel_rfl)
theorem Avy : FnI Tryz.prog 88 := ⟨⟨_, Tryz.func88, by kernel_rfl, by kernel_rfl⟩⟩
theorem Ar6 : FnI Tryz.prog 110 := ⟨⟨_, Tryz.func110, by kernel_rfl, by kernel_rfl⟩⟩
theorem sz4 : (Tryz.prog.info? 4).map (·.size) = some 1 := by kernel_rfl
theorem Aqz : FnI Tryz.prog 69 := ⟨⟨_, Tryz.func69, by kernel_rfl, by kernel_rfl⟩⟩
theorem Arg : FnI Tryz.prog 42 := ⟨⟨_, Tryz.func42, by kernel_rfl, by kernel_rfl⟩⟩
theorem Al3 : FnI Tryz.prog 41 := ⟨⟨_, Tryz.func41, by kernel_rfl, by kernel_rfl⟩⟩
theorem Avt : FnI Tryz.prog 89 := ⟨⟨_, Tryz.func89, by kernel_rfl, by kernel_rfl⟩⟩
theorem As1 : ZI Tryz.prog 119 ([Ii6 0, .i .u32 0]) := Nr (by kernel_rfl)
theorem Atl : PI Tryz.prog 119 [(0, 1), (1, 1)] := Ql Tryz.underlying119 (by kernel_rfl) (by kernel_rfl)
theorem Ave : FnI Tryz.prog 43 := ⟨⟨_, Tryz.func43, by kernel_rfl, by kernel_rfl⟩⟩
theorem Aum : FnI Tryz.prog 17 := ⟨⟨_, Tryz.func17, by kernel_rfl, by kernel_rfl⟩⟩
theorem Aur : FnI Tryz.prog 70 := ⟨⟨_, Tryz.func70, by kernel_rfl, by kernel_rfl⟩⟩
theorem Anw : FnI Tryz.prog 35 := ⟨⟨_, Tryz.func35, by kernel_rfl, by kernel_rfl⟩⟩
theorem Aui : FnI Tryz.prog 14 := ⟨⟨_, Tryz.func14, by kernel_rfl, by kernel_rfl⟩⟩
theorem Auf : PI Tryz.prog 89 [(0, 1), (1, 1), (2, 1), (3, 1), (4, 1), (5, 3)] := Ql Tryz.underlying89 (by kernel_rfl) (by kernel_rfl)
theorem Asm : EI Tryz.prog 89 8 112 [Ii6 0, Ii6 0, Ii6 0, Ii6 0, Znl, Znl, Znl, .b false] := Xa (by kernel_rfl) (by decide)
theorem Aq1 : ZI Tryz.prog 92 ([.b false, Znl]) := Nr (by kernel_rfl)
theorem Auv : PI Tryz.prog 92 [(0, 1), (1, 1)] := Ql Tryz.underlying92 (by kernel_rfl) (by kernel_rfl)
theorem Aub : PI Tryz.prog 94 [(0, 1), (1, 2)] := Ql Tryz.underlying94 (by kernel_rfl) (by kernel_rfl)
theorem Apx : EI Tryz.prog 94 3 40 [Ii6 0, .b false, Znl] := Xa (by kernel_rfl) (by decide)
theorem Avw : EI Tryz.prog 29 1 24 [Znl] := Xa (by kernel_rfl) (by decide)
theorem Aix : SI Tryz.prog 163 29 1 := ⟨Tryz.underlying163, by kernel_rfl, by decide⟩
theorem Avp : FnI Tryz.prog 83 := ⟨⟨_, Tryz.func83, by kernel_rfl, by kernel_rfl⟩⟩
theorem Aul : NI Tryz.prog 29 := ⟨.inl ⟨_, Tryz.underlying29⟩⟩
theorem Av9 : FnI Tryz.prog 55 := ⟨⟨_, Tryz.func55, by kernel_rfl, by kernel_rfl⟩⟩
theorem As6 : FnI Tryz.prog 72 := ⟨⟨_, Tryz.func72, by kernel_rfl, by kernel_rfl⟩⟩
theorem Agp : ZI Tryz.prog 32 (Zbb) := Nr (by kernel_rfl)
theorem Aps : PI Tryz.prog 32 [(0, 1), (1, 8), (9, 1)] := Ql Tryz.underlying32 (by kernel_rfl) (by kernel_rfl)
theorem Xf : (Tryz.prog.info? 32).map (·.size) = some 10 := by kernel_rfl
theorem Auo : FnI Tryz.prog 71 := ⟨⟨_, Tryz.func71, by kernel_rfl, by kernel_rfl⟩⟩
theorem Ary : FnI Tryz.prog 56 := ⟨⟨_, Tryz.func56, by kernel_rfl, by kernel_rfl⟩⟩
theorem At6 : FnI Tryz.prog 21 := ⟨⟨_, Tryz.func21, by kernel_rfl, by kernel_rfl⟩⟩
theorem Awc : ZI Tryz.prog 55 (Zbd) := Nr (by kernel_rfl)
theorem Avx : PI Tryz.prog 55 [(0, 1), (1, 1), (2, 1), (3, 1), (4, 1), (5, 1), (6, 1)] := Ql Tryz.underlying55 (by kernel_rfl) (by kernel_rfl)
theorem Apf : FI Tryz.prog 55 2 2 := ⟨⟨_, _, 1, Tryz.underlying55, rfl, rfl, by kernel_rfl, by decide⟩⟩
theorem Aqh : FI Tryz.prog 55 3 3 := ⟨⟨_, _, 1, Tryz.underlying55, rfl, rfl, by kernel_rfl, by decide⟩⟩
theorem Ap1 : FI Tryz.prog 55 4 4 := ⟨⟨_, _, 1, Tryz.underlying55, rfl, rfl, by kernel_rfl, by decide⟩⟩
theorem Ak6 : FI Tryz.prog 55 5 5 := ⟨⟨_, _, 1, Tryz.underlying55, rfl, rfl, by kernel_rfl, by decide⟩⟩
theorem Zu : FI Tryz.prog 55 6 6 := ⟨⟨_, _, 1, Tryz.underlying55, rfl, rfl, by kernel_rfl, by decide⟩⟩
theorem Ae1 : TI Tryz.prog 53 false 1 := ⟨⟨_, Tryz.underlying53, rfl⟩, by kernel_rfl⟩
theorem Aks : ZI Tryz.prog 68 (Zbd) := Nr (by kernel_rfl)
theorem Aqv : PI Tryz.prog 68 [(0, 1), (1, 1), (2, 1), (3, 1), (4, 1), (5, 1), (6, 1)] := Ql Tryz.underlying68 (by kernel_rfl) (by kernel_rfl)
theorem An5 : (Tryz.prog.info? 68).map (·.size) = some 7 := by kernel_rfl
theorem Acf : TI Tryz.prog 68 true 7 := ⟨⟨_, Tryz.underlying68, rfl⟩, by kernel_rfl⟩
theorem U2 : FI Tryz.prog 68 6 6 := ⟨⟨_, _, 1, Tryz.underlying68, rfl, rfl, by kernel_rfl, by decide⟩⟩
theorem Ads : SI Tryz.prog 53 116 2 := ⟨Tryz.underlying53, by kernel_rfl, by decide⟩
theorem Amx : TI Tryz.prog 116 true 2 := ⟨⟨_, Tryz.underlying116, rfl⟩, by kernel_rfl⟩
theorem Ail : ZI Tryz.prog 116 ([Znl, Znl]) := Nr (by kernel_rfl)
theorem Ant : (Tryz.prog.info? 116).map (·.size) = some 2 := by kernel_rfl
theorem Ab8 : FI Tryz.prog 116 0 0 := ⟨⟨_, _, 1, Tryz.underlying116, rfl, rfl, by kernel_rfl, by decide⟩⟩
theorem Yg : FI Tryz.prog 116 1 1 := ⟨⟨_, _, 1, Tryz.underlying116, rfl, rfl, by kernel_rfl, by decide⟩⟩
theorem P9 : FI Tryz.prog 68 0 0 := ⟨⟨_, _, 1, Tryz.underlying68, rfl, rfl, by kernel_rfl, by decide⟩⟩
theorem Sg : FI Tryz.prog 68 1 1 := ⟨⟨_, _, 1, Tryz.underlying68, rfl, rfl, by kernel_rfl, by decide⟩⟩
theorem Q7 : FI Tryz.prog 68 2 2 := ⟨⟨_, _, 1, Tryz.underlying68, rfl, rfl, by kernel_rfl, by decide⟩⟩
theorem Rc : FI Tryz.prog 68 3 3 := ⟨⟨_, _, 1, Tryz.underlying68, rfl, rfl, by kernel_rfl, by decide⟩⟩
theorem Aa4 : FI Tryz.prog 68 4 4 := ⟨⟨_, _, 1, Tryz.underlying68, rfl, rfl, by kernel_rfl, by decide⟩⟩
theorem Z7 : FI Tryz.prog 68 5 5 := ⟨⟨_, _, 1, Tryz.underlying68, rfl, rfl, by kernel_rfl, by decide⟩⟩
theorem Atx : FnI Tryz.prog 39 := ⟨⟨_, Tryz.func39, by kernel_rfl, by kernel_rfl⟩⟩
theorem Avq : FnI Tryz.prog 16 := ⟨⟨_, Tryz.func16, by kernel_rfl, by kernel_rfl⟩⟩
theorem At5 : FnI Tryz.prog 22 := ⟨⟨_, Tryz.func22, by kernel_rfl, by kernel_rfl⟩⟩
theorem Ao8 : FnI Tryz.prog 37 := ⟨⟨_, Tryz.func37, by kernel_rfl, by kernel_rfl⟩⟩
theorem An7 : ZI Tryz.prog 40 ([Znl, Ii6 0]) := Nr (by kernel_rfl)
theorem Aqt : PI Tryz.prog 40 [(0, 1), (1, 1)] := Ql Tryz.underlying40 (by kernel_rfl) (by kernel_rfl)
theorem Am5 : (Tryz.prog.info? 40).map (·.size) = some 2 := by kernel_rfl
theorem Ar9 : NI Tryz.prog 124 := ⟨.inl ⟨_, Tryz.underlying124⟩⟩
theorem Avb : FnI Tryz.prog 76 := ⟨⟨_, Tryz.func76, by kernel_rfl, by kernel_rfl⟩⟩
theorem Awh : FnI Tryz.prog 77 := ⟨⟨_, Tryz.func77, by kernel_rfl, by kernel_rfl⟩⟩
theorem Av3 : FnI Tryz.prog 45 := ⟨⟨_, Tryz.func45, by kernel_rfl, by kernel_rfl⟩⟩
theorem Auz : FnI Tryz.prog 95 := ⟨⟨_, Tryz.func95, by kernel_rfl, by kernel_rfl⟩⟩
theorem Are : FnI Tryz.prog 96 := ⟨⟨_, Tryz.func96, by kernel_rfl, by kernel_rfl⟩⟩
theorem Ato : PI Tryz.prog 116 [(0, 1), (1, 1)] := Ql Tryz.underlying116 (by kernel_rfl) (by kernel_rfl)
theorem Ape : EI Tryz.prog 116 2 48 [Znl, Znl] := Xa (by kernel_rfl) (by decide)
theorem Avc : NI Tryz.prog 53 := ⟨.inl ⟨_, Tryz.underlying53⟩⟩
theorem Au2 : FnI Tryz.prog 97 := ⟨⟨_, Tryz.func97, by kernel_rfl, by kernel_rfl⟩⟩
theorem Awd : (Tryz.prog.info? 53).map (·.size) = some 1 := by kernel_rfl
theorem Avv : FnI Tryz.prog 98 := ⟨⟨_, Tryz.func98, by kernel_rfl, by kernel_rfl⟩⟩
theorem Avf : FnI Tryz.prog 78 := ⟨⟨_, Tryz.func78, by kernel_rfl, by kernel_rfl⟩⟩
theorem Asb : FnI Tryz.prog 106 := ⟨⟨_, Tryz.func106, by kernel_rfl, by kernel_rfl⟩⟩
theorem At2 : FnI Tryz.prog 80 := ⟨⟨_, Tryz.func80, by kernel_rfl, by kernel_rfl⟩⟩
theorem Ao0 : FnI Tryz.prog 47 := ⟨⟨_, Tryz.func47, by kernel_rfl, by kernel_rfl⟩⟩
theorem Rx : ZI Tryz.prog 184 ([Nfu, Nfu, Nfu, Nfu, Nfu, Nfu, Nfu, Nfu, Nfu, Nfu]) := Nr (by kernel_rfl)
theorem Sx : AI Tryz.prog 184 10 159 1 := ⟨Tryz.underlying184, by kernel_rfl, by decide, by decide⟩
theorem Zq : (Tryz.prog.info? 184).map (·.size) = some 10 := by kernel_rfl
theorem Acc : TI Tryz.prog 159 false 1 := ⟨⟨_, Tryz.underlying159, rfl⟩, by kernel_rfl⟩
theorem Aki : FnI Tryz.prog 79 := ⟨⟨_, Tryz.func79, by kernel_rfl, by kernel_rfl⟩⟩
theorem Av8 : FnI Tryz.prog 99 := ⟨⟨_, Tryz.func99, by kernel_rfl, by kernel_rfl⟩⟩
theorem Awj : (Tryz.prog.info? 61).map (·.size) = some 12 := by kernel_rfl
theorem O3 : FI Tryz.prog 32 1 1 := ⟨⟨_, _, 8, Tryz.underlying32, rfl, rfl, by kernel_rfl, by decide⟩⟩
theorem Aqu : TI Tryz.prog 30 true 8 := ⟨⟨_, Tryz.underlying30, rfl⟩, by kernel_rfl⟩
theorem Ake : FI Tryz.prog 61 4 4 := ⟨⟨_, _, 8, Tryz.underlying61, rfl, rfl, by kernel_rfl, by decide⟩⟩
theorem Avg : (Tryz.prog.info? 30).map (·.size) = some 8 := by kernel_rfl
theorem Akw : FI Tryz.prog 61 0 0 := ⟨⟨_, _, 1, Tryz.underlying61, rfl, rfl, by kernel_rfl, by decide⟩⟩
theorem Aan : FnI Tryz.prog 119 := ⟨⟨_, Tryz.func119, by kernel_rfl, by kernel_rfl⟩⟩
theorem Arx : FnI Tryz.prog 129 := ⟨⟨_, Tryz.func129, by kernel_rfl, by kernel_rfl⟩⟩
theorem Agk : FnI Tryz.prog 117 := ⟨⟨_, Tryz.func117, by kernel_rfl, by kernel_rfl⟩⟩
theorem Aop : FnI Tryz.prog 115 := ⟨⟨_, Tryz.func115, by kernel_rfl, by kernel_rfl⟩⟩
theorem Si : TI Tryz.prog 32 true 10 := ⟨⟨_, Tryz.underlying32, rfl⟩, by kernel_rfl⟩
theorem Ov : FI Tryz.prog 32 0 0 := ⟨⟨_, _, 1, Tryz.underlying32, rfl, rfl, by kernel_rfl, by decide⟩⟩
theorem Apr : FnI Tryz.prog 130 := ⟨⟨_, Tryz.func130, by kernel_rfl, by kernel_rfl⟩⟩
theorem Ae0 : AI Tryz.prog 30 8 3 1 := ⟨Tryz.underlying30, by kernel_rfl, by decide, by decide⟩
theorem Ar7 : FnI Tryz.prog 140 := ⟨⟨_, Tryz.func140, by kernel_rfl, by kernel_rfl⟩⟩
theorem Aq7 : FnI Tryz.prog 135 := ⟨⟨_, Tryz.func135, by kernel_rfl, by kernel_rfl⟩⟩
theorem Akk : ∀ {a b : E5} {j : Int} {v : Int}, Ie a j v = some b → ∀ pre post : List Lf, Jk (pre ++ (Y5 a ++ post)) (pre.length + j.toNat) [Ii6 v] = pre ++ (Y5 b ++ post) := by
 intro a b j v h pre post
 rw [Ahz]
 unfold Ie at h
 split at h
 ·rename_i hj; subst hj; cases h; rfl
 split at h
 ·rename_i hj; subst hj; cases h; rfl
 split at h
 ·rename_i hj; subst hj; cases h; rfl
 split at h
 ·rename_i hj; subst hj; cases h; rfl
 split at h
 ·rename_i hj; subst hj; cases h; rfl
 split at h
 ·rename_i hj; subst hj; cases h; rfl
 split at h
 ·rename_i hj; subst hj; cases h; rfl
 split at h
 ·rename_i hj; subst hj; cases h; rfl
 cases h
theorem Apa : FnI Tryz.prog 138 := ⟨⟨_, Tryz.func138, by kernel_rfl, by kernel_rfl⟩⟩
theorem Atc : FnI Tryz.prog 136 := ⟨⟨_, Tryz.func136, by kernel_rfl, by kernel_rfl⟩⟩
theorem Asi : FnI Tryz.prog 127 := ⟨⟨_, Tryz.func127, by kernel_rfl, by kernel_rfl⟩⟩
theorem Ask : ZI Tryz.prog 64 ([Ii6 0, Ii6 0, Ii6 0, Ii6 0, Ii6 0, Ii6 0, Ii6 0, Ii6 0, Ii6 0, Ii6 0]) := Nr (by kernel_rfl)
theorem Au8 : PI Tryz.prog 64 [(0, 1), (1, 1), (2, 8)] := Ql Tryz.underlying64 (by kernel_rfl) (by kernel_rfl)
theorem Aus : (Tryz.prog.info? 64).map (·.size) = some 10 := by kernel_rfl
theorem O5 : FI Tryz.prog 44 15 39 := ⟨⟨_, _, 1, Tryz.underlying44, rfl, rfl, by kernel_rfl, by decide⟩⟩
theorem Ae6 : TI Tryz.prog 42 false 1 := ⟨⟨_, Tryz.underlying42, rfl⟩, by kernel_rfl⟩
theorem Aug : TI Tryz.prog 64 true 10 := ⟨⟨_, Tryz.underlying64, rfl⟩, by kernel_rfl⟩
theorem Atg : EI Tryz.prog 64 10 80 [Ii6 0, Ii6 0, Ii6 0, Ii6 0, Ii6 0, Ii6 0, Ii6 0, Ii6 0, Ii6 0, Ii6 0] := Xa (by kernel_rfl) (by decide)
theorem Avr : EI Tryz.prog 42 1 24 [Znl] := Xa (by kernel_rfl) (by decide)
theorem Ajo : SI Tryz.prog 216 42 1 := ⟨Tryz.underlying216, by kernel_rfl, by decide⟩
theorem Acn : SI Tryz.prog 42 64 10 := ⟨Tryz.underlying42, by kernel_rfl, by decide⟩
theorem Asp : FnI Tryz.prog 137 := ⟨⟨_, Tryz.func137, by kernel_rfl, by kernel_rfl⟩⟩
theorem Avn : NI Tryz.prog 42 := ⟨.inl ⟨_, Tryz.underlying42⟩⟩
theorem Atj : FnI Tryz.prog 128 := ⟨⟨_, Tryz.func128, by kernel_rfl, by kernel_rfl⟩⟩
theorem Au3 : (Tryz.prog.info? 42).map (·.size) = some 1 := by kernel_rfl
theorem Aqg : FnI Tryz.prog 116 := ⟨⟨_, Tryz.func116, by kernel_rfl, by kernel_rfl⟩⟩
theorem Ast : FnI Tryz.prog 100 := ⟨⟨_, Tryz.func100, by kernel_rfl, by kernel_rfl⟩⟩
theorem Ap2 : FnI Tryz.prog 131 := ⟨⟨_, Tryz.func131, by kernel_rfl, by kernel_rfl⟩⟩
theorem Ash : FnI Tryz.prog 132 := ⟨⟨_, Tryz.func132, by kernel_rfl, by kernel_rfl⟩⟩
theorem Ar0 : FnI Tryz.prog 118 := ⟨⟨_, Tryz.func118, by kernel_rfl, by kernel_rfl⟩⟩
theorem Aq8 : FnI Tryz.prog 101 := ⟨⟨_, Tryz.func101, by kernel_rfl, by kernel_rfl⟩⟩
theorem As8 : FnI Tryz.prog 102 := ⟨⟨_, Tryz.func102, by kernel_rfl, by kernel_rfl⟩⟩
theorem Aq6 : FnI Tryz.prog 103 := ⟨⟨_, Tryz.func103, by kernel_rfl, by kernel_rfl⟩⟩
theorem Arm : FnI Tryz.prog 104 := ⟨⟨_, Tryz.func104, by kernel_rfl, by kernel_rfl⟩⟩
theorem Arc : FnI Tryz.prog 105 := ⟨⟨_, Tryz.func105, by kernel_rfl, by kernel_rfl⟩⟩
theorem Ava : FnI Tryz.prog 46 := ⟨⟨_, Tryz.func46, by kernel_rfl, by kernel_rfl⟩⟩
theorem Ata : FnI Tryz.prog 18 := ⟨⟨_, Tryz.func18, by kernel_rfl, by kernel_rfl⟩⟩
theorem Ak4 : FI Tryz.prog 61 1 1 := ⟨⟨_, _, 1, Tryz.underlying61, rfl, rfl, by kernel_rfl, by decide⟩⟩
theorem Afm : FI Tryz.prog 61 3 3 := ⟨⟨_, _, 1, Tryz.underlying61, rfl, rfl, by kernel_rfl, by decide⟩⟩
theorem fn7 : FnI Tryz.prog 7 := ⟨⟨_, Tryz.func7, by kernel_rfl, by kernel_rfl⟩⟩
theorem Alo : SI Tryz.prog 22 57 13 := ⟨Tryz.underlying22, by kernel_rfl, by decide⟩
theorem Adj : FI Tryz.prog 57 2 2 := ⟨⟨_, _, 3, Tryz.underlying57, rfl, rfl, by kernel_rfl, by decide⟩⟩
theorem Akp : FI Tryz.prog 52 1 1 := ⟨⟨_, _, 2, Tryz.underlying52, rfl, rfl, by kernel_rfl, by decide⟩⟩
theorem Atz : TI Tryz.prog 50 true 2 := ⟨⟨_, Tryz.underlying50, rfl⟩, by kernel_rfl⟩
theorem Xw : FI Tryz.prog 50 1 1 := ⟨⟨_, _, 1, Tryz.underlying50, rfl, rfl, by kernel_rfl, by decide⟩⟩
theorem An6 : TI Tryz.prog 48 false 1 := ⟨⟨_, Tryz.underlying48, rfl⟩, by kernel_rfl⟩
theorem An3 : SI Tryz.prog 48 135 8 := ⟨Tryz.underlying48, by kernel_rfl, by decide⟩
theorem Ag7 : FI Tryz.prog 135 4 4 := ⟨⟨_, _, 1, Tryz.underlying135, rfl, rfl, by kernel_rfl, by decide⟩⟩
theorem Afq : FI Tryz.prog 135 5 5 := ⟨⟨_, _, 3, Tryz.underlying135, rfl, rfl, by kernel_rfl, by decide⟩⟩
theorem Avz : FnI Tryz.prog 57 := ⟨⟨_, Tryz.func57, by kernel_rfl, by kernel_rfl⟩⟩
theorem Au0 : FnI Tryz.prog 23 := ⟨⟨_, Tryz.func23, by kernel_rfl, by kernel_rfl⟩⟩
theorem Ak9 : FI Tryz.prog 57 3 5 := ⟨⟨_, _, 7, Tryz.underlying57, rfl, rfl, by kernel_rfl, by decide⟩⟩
theorem At1 : TI Tryz.prog 55 true 7 := ⟨⟨_, Tryz.underlying55, rfl⟩, by kernel_rfl⟩
theorem Av1 : FnI Tryz.prog 24 := ⟨⟨_, Tryz.func24, by kernel_rfl, by kernel_rfl⟩⟩
theorem Akm : FI Tryz.prog 57 4 12 := ⟨⟨_, _, 1, Tryz.underlying57, rfl, rfl, by kernel_rfl, by decide⟩⟩
theorem fn8 : FnI Tryz.prog 8 := ⟨⟨_, Tryz.func8, by kernel_rfl, by kernel_rfl⟩⟩
theorem Aud : TI Tryz.prog 57 true 13 := ⟨⟨_, Tryz.underlying57, rfl⟩, by kernel_rfl⟩
theorem Avs : ZI Tryz.prog 57 ([Ii6 0, Ii6 0, Ii6 0, .b false, Znl, Ii6 0, Ii6 0, Ii6 0, Ii6 0, .b false, Znl, Znl, Znl]) := Nr (by kernel_rfl)
theorem Avl : (Tryz.prog.info? 57).map (·.size) = some 13 := by kernel_rfl
theorem Ak1 : FI Tryz.prog 52 0 0 := ⟨⟨_, _, 1, Tryz.underlying52, rfl, rfl, by kernel_rfl, by decide⟩⟩
theorem Xr : FI Tryz.prog 57 0 0 := ⟨⟨_, _, 1, Tryz.underlying57, rfl, rfl, by kernel_rfl, by decide⟩⟩
theorem Api : FI Tryz.prog 50 0 0 := ⟨⟨_, _, 1, Tryz.underlying50, rfl, rfl, by kernel_rfl, by decide⟩⟩
theorem At4 : (Tryz.prog.info? 92).map (·.size) = some 2 := by kernel_rfl
theorem Ar2 : TI Tryz.prog 135 true 8 := ⟨⟨_, Tryz.underlying135, rfl⟩, by kernel_rfl⟩
theorem As0 : ZI Tryz.prog 135 ([Ii6 0, Ii6 0, Ii6 0, Ii6 0, Znl, Znl, Znl, .b false]) := Nr (by kernel_rfl)
theorem As3 : (Tryz.prog.info? 135).map (·.size) = some 8 := by kernel_rfl
theorem Al5 : FI Tryz.prog 135 0 0 := ⟨⟨_, _, 1, Tryz.underlying135, rfl, rfl, by kernel_rfl, by decide⟩⟩
theorem Al1 : FI Tryz.prog 135 1 1 := ⟨⟨_, _, 1, Tryz.underlying135, rfl, rfl, by kernel_rfl, by decide⟩⟩
theorem Anz : FI Tryz.prog 135 2 2 := ⟨⟨_, _, 1, Tryz.underlying135, rfl, rfl, by kernel_rfl, by decide⟩⟩
theorem Am4 : FI Tryz.prog 135 3 3 := ⟨⟨_, _, 1, Tryz.underlying135, rfl, rfl, by kernel_rfl, by decide⟩⟩
theorem Awk : NI Tryz.prog 90 := ⟨.inl ⟨_, Tryz.underlying90⟩⟩
theorem Avu : (Tryz.prog.info? 90).map (·.size) = some 1 := by kernel_rfl
theorem Av4 : FnI Tryz.prog 26 := ⟨⟨_, Tryz.func26, by kernel_rfl, by kernel_rfl⟩⟩
theorem Au5 : FnI Tryz.prog 27 := ⟨⟨_, Tryz.func27, by kernel_rfl, by kernel_rfl⟩⟩
theorem Aqf : FI Tryz.prog 57 1 1 := ⟨⟨_, _, 1, Tryz.underlying57, rfl, rfl, by kernel_rfl, by decide⟩⟩
theorem Awi : FnI Tryz.prog 73 := ⟨⟨_, Tryz.func73, by kernel_rfl, by kernel_rfl⟩⟩
theorem Aux : FnI Tryz.prog 38 := ⟨⟨_, Tryz.func38, by kernel_rfl, by kernel_rfl⟩⟩
theorem Awb : FnI Tryz.prog 15 := ⟨⟨_, Tryz.func15, by kernel_rfl, by kernel_rfl⟩⟩
theorem Avi : FnI Tryz.prog 28 := ⟨⟨_, Tryz.func28, by kernel_rfl, by kernel_rfl⟩⟩
theorem Av6 : FnI Tryz.prog 11 := ⟨⟨_, Tryz.func11, by kernel_rfl, by kernel_rfl⟩⟩
theorem Aht : FI Tryz.prog 64 0 0 := ⟨⟨_, _, 1, Tryz.underlying64, rfl, rfl, by kernel_rfl, by decide⟩⟩
theorem Afs : FI Tryz.prog 64 1 1 := ⟨⟨_, _, 1, Tryz.underlying64, rfl, rfl, by kernel_rfl, by decide⟩⟩
theorem Aoj : FI Tryz.prog 61 2 2 := ⟨⟨_, _, 1, Tryz.underlying61, rfl, rfl, by kernel_rfl, by decide⟩⟩
theorem Aog : FI Tryz.prog 64 2 2 := ⟨⟨_, _, 8, Tryz.underlying64, rfl, rfl, by kernel_rfl, by decide⟩⟩
theorem Avo : EqD Tryz.prog 30 [0, 0, 0, 0, 0, 0, 0, 0] := ⟨by kernel_rfl, by kernel_rfl, by kernel_rfl, by kernel_rfl⟩
def Nn  : Option Cr :=
 some (Cr.mk 3 (Dk.mk 4 30 4) 3 2)
theorem Sm  {r : Cr} (h : Nn = some r) : Bp Tryz.prog 10 [] (· = .s (.agg (EL.el r))) := by
 unfold Nn at h
 refine A2 Tryz.func10 rfl (nt := 3) rfl (Nbl rfl) ?_
 intro w0 S0
 refine Aq (Ab (B1 rfl Auu (Ar (Aq (Ab (sv rfl (Bj Av2 Av7 (Ap rfl (Ap rfl (Ap rfl Ba))) (.cons _ _ _ _ _ _ _ rfl rfl (Nbl rfl) (.cons _ _ _ _ _ _ _ rfl rfl (Nbl rfl) (.cons _ _ _ _ _ _ _ rfl rfl (Nbl rfl) (.nil _))))) (sv rfl (Bj Auu Auy (Ap rfl (Ap rfl (Ap rfl (Ap rfl Ba)))) (.cons _ _ _ _ _ _ _ rfl rfl (Nbl rfl) (.cons _ _ _ _ _ _ _ rfl rfl (Nbl rfl) (.cons _ _ _ _ _ _ _ rfl rfl (Nbl rfl) (.cons _ _ _ _ _ _ _ rfl rfl (Nbl rfl) (.nil _)))))) (Ax Au7 rfl rfl rfl rfl (Nbl rfl) (Bu [.box [Ii6 3, Ii6 4, Ii6 30, Ii6 4, Ii6 3, Ii6 2]] rfl (Ar (Bk ?_)))))))))))
 obtain rfl := SJ h
 refine ⟨Or.inr rfl, _, _, _, (Ad (Bd.agg _ _ _ _ _ Aqo rfl (.lp _ _ _ rfl) (Nbl rfl)) Af), (Aj rfl), ?_⟩
 rfl
def Bz (a0 : Int) (a1 : Int) (a2 : Int) : Option Bool :=
 if (decide (a1 ≤ a0)) then (some (decide (a0 ≤ a2))) else (some false)
theorem Ck {a0 : Int} {a1 : Int} {a2 : Int} {r : Bool} (h : Bz a0 a1 a2 = some r) : Bp Tryz.prog 36 [.one (Ii6 a0), .one (Ii6 a1), .one (Ii6 a2)] (· = .s (.one (.b r))) := by
 unfold Bz at h
 refine A2 Tryz.func36 rfl (nt := 15) rfl (Nbl rfl) ?_
 intro w0 S0
 refine Aq (Ab (sv rfl (Ak rfl) (Ar (Aq (Ab (sv rfl (Ag rfl) (sv rfl (Ag rfl) (sv rfl (Lp rfl rfl) (sv rfl (Ag rfl) (Bq 10 rfl (fun hc => ?_) (fun hc => ?_)))))))))))
 ·replace h := B2 hc h
  clear hc
  refine son rfl rfl rfl (sv rfl (Ag rfl) (son rfl rfl rfl (sv rfl (Ag rfl) (son rfl rfl rfl (sv rfl (F3 rfl rfl) (sv rfl (Av rfl rfl) (sv rfl (Ak rfl) (Ar (Bk ?_)))))))))
  obtain rfl := SJ h
  refine ⟨Or.inr rfl, _, _, _, (Ad (Bd.tmp _ _ rfl) Af), (Aj rfl), ?_⟩
  rfl
 ·replace h := B3 hc h
  clear hc
  refine Aw rfl rfl rfl rfl (Aw rfl rfl rfl rfl (Aw rfl rfl rfl rfl (sv rfl (An rfl rfl) (sv rfl (Ak rfl) (Ar (Bk ?_))))))
  obtain rfl := SJ h
  refine ⟨Or.inr rfl, _, _, _, (Ad (Bd.tmp _ _ rfl) Af), (Aj rfl), ?_⟩
  rfl
def J8 (a0 : Dk) : Option Bool :=
 if (decide (1 ≤ a0.Wait)) then (if (decide (a0.Wait ≤ 1048576)) then (if (decide (a0.Wait ≤ a0.Most)) then (if (decide (a0.Most ≤ 1073741824)) then (if (decide (0 ≤ a0.Tries)) then (some (decide (a0.Tries ≤ 100))) else (some false)) else (some false)) else (some false)) else (some false)) else (some false)
theorem P7 {a0 : Dk} {r : Bool} (h : J8 a0 = some r) : Bp Tryz.prog 58 [.agg (EL.el a0)] (· = .s (.one (.b r))) := by
 unfold J8 at h
 refine A2 Tryz.func58 rfl (nt := 33) rfl (Nbl rfl) ?_
 intro w0 S0
 refine Aq (Ab (Jj rfl rfl (sv rfl (Ak rfl) (Ar (Aq (Ab (sv rfl (Aa Ac8 rfl) (sv rfl (Ae ti3 rfl (.lp _ _ _ rfl) rfl) (sv rfl (Lp rfl rfl) (sv rfl (Ag rfl) (Bq 6 rfl (fun hc => ?_) (fun hc => ?_))))))))))))
 ·replace h := B2 hc h
  clear hc
  refine son rfl rfl rfl (sv rfl (Aa Ac8 rfl) (son rfl rfl rfl (sv rfl (Ae ti3 rfl (.lp _ _ _ rfl) rfl) (son rfl rfl rfl (sv rfl (F3 rfl rfl) (sv rfl (Av rfl rfl) (sv rfl (Ag rfl) (Bq 11 rfl (fun hc => ?_) (fun hc => ?_)))))))))
  ·replace h := B2 hc h
   clear hc
   refine son rfl rfl rfl (sv rfl (Aa Ag1 rfl) (son rfl rfl rfl (sv rfl (Ae ti3 rfl (.lp _ _ _ rfl) rfl) (son rfl rfl rfl (sv rfl (Aa Ac8 rfl) (son rfl rfl rfl (sv rfl (Ae ti3 rfl (.lp _ _ _ rfl) rfl) (son rfl rfl rfl (sv rfl (Lp rfl rfl) (sv rfl (Av rfl rfl) (sv rfl (Ag rfl) (Bq 18 rfl (fun hc => ?_) (fun hc => ?_)))))))))))))
   ·replace h := B2 hc h
    clear hc
    refine son rfl rfl rfl (sv rfl (Aa Ag1 rfl) (son rfl rfl rfl (sv rfl (Ae ti3 rfl (.lp _ _ _ rfl) rfl) (son rfl rfl rfl (sv rfl (F3 rfl rfl) (sv rfl (Av rfl rfl) (sv rfl (Ag rfl) (Bq 23 rfl (fun hc => ?_) (fun hc => ?_)))))))))
    ·replace h := B2 hc h
     clear hc
     refine son rfl rfl rfl (sv rfl (Aa Aam rfl) (son rfl rfl rfl (sv rfl (Ae ti3 rfl (.lp _ _ _ rfl) rfl) (son rfl rfl rfl (sv rfl (Lp rfl rfl) (sv rfl (Av rfl rfl) (sv rfl (Ag rfl) (Bq 28 rfl (fun hc => ?_) (fun hc => ?_)))))))))
     ·replace h := B2 hc h
      clear hc
      refine son rfl rfl rfl (sv rfl (Aa Aam rfl) (son rfl rfl rfl (sv rfl (Ae ti3 rfl (.lp _ _ _ rfl) rfl) (son rfl rfl rfl (sv rfl (F3 rfl rfl) (sv rfl (Av rfl rfl) (sv rfl (Ak rfl) (Ar (Bk ?_)))))))))
      obtain rfl := SJ h
      refine ⟨Or.inr rfl, _, _, _, (Ad (Bd.tmp _ _ rfl) Af), (Aj rfl), ?_⟩
      rfl
     ·replace h := B3 hc h
      clear hc
      refine Aw rfl rfl rfl rfl (Aw rfl rfl rfl rfl (Aw rfl rfl rfl rfl (sv rfl (An rfl rfl) (sv rfl (Ak rfl) (Ar (Bk ?_))))))
      obtain rfl := SJ h
      refine ⟨Or.inr rfl, _, _, _, (Ad (Bd.tmp _ _ rfl) Af), (Aj rfl), ?_⟩
      rfl
    ·replace h := B3 hc h
     clear hc
     refine Aw rfl rfl rfl rfl (Aw rfl rfl rfl rfl (Aw rfl rfl rfl rfl (sv rfl (An rfl rfl) (sv rfl (Ag rfl) (Aw rfl rfl rfl rfl (Aw rfl rfl rfl rfl (Aw rfl rfl rfl rfl (sv rfl (An rfl rfl) (sv rfl (Ak rfl) (Ar (Bk ?_)))))))))))
     obtain rfl := SJ h
     refine ⟨Or.inr rfl, _, _, _, (Ad (Bd.tmp _ _ rfl) Af), (Aj rfl), ?_⟩
     rfl
   ·replace h := B3 hc h
    clear hc
    refine Aw rfl rfl rfl rfl (Aw rfl rfl rfl rfl (Aw rfl rfl rfl rfl (sv rfl (An rfl rfl) (sv rfl (Ag rfl) (Aw rfl rfl rfl rfl (Aw rfl rfl rfl rfl (Aw rfl rfl rfl rfl (sv rfl (An rfl rfl) (sv rfl (Ag rfl) (Aw rfl rfl rfl rfl (Aw rfl rfl rfl rfl (Aw rfl rfl rfl rfl (sv rfl (An rfl rfl) (sv rfl (Ak rfl) (Ar (Bk ?_))))))))))))))))
    obtain rfl := SJ h
    refine ⟨Or.inr rfl, _, _, _, (Ad (Bd.tmp _ _ rfl) Af), (Aj rfl), ?_⟩
    rfl
  ·replace h := B3 hc h
   clear hc
   refine Aw rfl rfl rfl rfl (Aw rfl rfl rfl rfl (Aw rfl rfl rfl rfl (Aw rfl rfl rfl rfl (Aw rfl rfl rfl rfl (sv rfl (An rfl rfl) (sv rfl (Ag rfl) (Aw rfl rfl rfl rfl (Aw rfl rfl rfl rfl (Aw rfl rfl rfl rfl (sv rfl (An rfl rfl) (sv rfl (Ag rfl) (Aw rfl rfl rfl rfl (Aw rfl rfl rfl rfl (Aw rfl rfl rfl rfl (sv rfl (An rfl rfl) (sv rfl (Ag rfl) (Aw rfl rfl rfl rfl (Aw rfl rfl rfl rfl (Aw rfl rfl rfl rfl (sv rfl (An rfl rfl) (sv rfl (Ak rfl) (Ar (Bk ?_)))))))))))))))))))))))
   obtain rfl := SJ h
   refine ⟨Or.inr rfl, _, _, _, (Ad (Bd.tmp _ _ rfl) Af), (Aj rfl), ?_⟩
   rfl
 ·replace h := B3 hc h
  clear hc
  refine Aw rfl rfl rfl rfl (Aw rfl rfl rfl rfl (Aw rfl rfl rfl rfl (sv rfl (An rfl rfl) (sv rfl (Ag rfl) (Aw rfl rfl rfl rfl (Aw rfl rfl rfl rfl (Aw rfl rfl rfl rfl (Aw rfl rfl rfl rfl (Aw rfl rfl rfl rfl (sv rfl (An rfl rfl) (sv rfl (Ag rfl) (Aw rfl rfl rfl rfl (Aw rfl rfl rfl rfl (Aw rfl rfl rfl rfl (sv rfl (An rfl rfl) (sv rfl (Ag rfl) (Aw rfl rfl rfl rfl (Aw rfl rfl rfl rfl (Aw rfl rfl rfl rfl (sv rfl (An rfl rfl) (sv rfl (Ag rfl) (Aw rfl rfl rfl rfl (Aw rfl rfl rfl rfl (Aw rfl rfl rfl rfl (sv rfl (An rfl rfl) (sv rfl (Ak rfl) (Ar (Bk ?_))))))))))))))))))))))))))))
  obtain rfl := SJ h
  refine ⟨Or.inr rfl, _, _, _, (Ad (Bd.tmp _ _ rfl) Af), (Aj rfl), ?_⟩
  rfl
def G4 (a0 : Cr) : Option Bool :=
 (Bz a0.Who 0 1048576).bind fun v1 => if v1 then ((J8 a0.Plan).bind fun v2 => if v2 then (if (decide (0 < a0.Plan.Tries)) then ((Bz a0.Attempts 1 1000).bind fun v3 => if v3 then ((Bz a0.Budget 0 1000).bind fun v4 => some v4) else (some false)) else (some false)) else (some false)) else (some false)
theorem Mn {a0 : Cr} {r : Bool} (h : G4 a0 = some r) : Bp Tryz.prog 25 [.agg (EL.el a0)] (· = .s (.one (.b r))) := by
 unfold G4 at h
 refine A2 Tryz.func25 rfl (nt := 27) rfl (Nbl rfl) ?_
 intro w0 S0
 refine Aq (Ab (Jj rfl rfl (sv rfl (Ak rfl) (Ar (Aq (Ab (sv rfl (Aa Ae7 rfl) (sv rfl (Ae ti3 rfl (.lp _ _ _ rfl) rfl) ?_))))))))
 obtain ⟨v1, hv1, h⟩ := Am h
 refine A3 rfl Ae3 (Ac rfl (Ac rfl (Ac rfl Al))) (Aj rfl) (Ck hv1) (sv rfl (Ag rfl) (Bq 6 rfl (fun hc => ?_) (fun hc => ?_)))
 ·replace h := B2 hc h
  clear hc
  refine son rfl rfl rfl (sv rfl (Aa Wn rfl) (son rfl rfl rfl (sv rfl (Ao Akl rfl (.lp _ _ _ rfl) (Nbl rfl)) (son rfl rfl rfl ?_))))
  obtain ⟨v2, hv2, h⟩ := Am h
  refine A3 rfl Atv (Ac rfl Al) (Aj rfl) (P7 hv2) (sv rfl (Av rfl rfl) (sv rfl (Ag rfl) (Bq 11 rfl (fun hc => ?_) (fun hc => ?_))))
  ·replace h := B2 hc h
   clear hc
   refine son rfl rfl rfl (sv rfl (Aa Wn rfl) (son rfl rfl rfl (sv rfl (Aa Aam rfl) (son rfl rfl rfl (sv rfl (Ae ti3 rfl (.lp _ _ _ rfl) rfl) (son rfl rfl rfl (sv rfl (Di rfl rfl) (sv rfl (Av rfl rfl) (sv rfl (Ag rfl) (Bq 17 rfl (fun hc => ?_) (fun hc => ?_)))))))))))
   ·replace h := B2 hc h
    clear hc
    refine son rfl rfl rfl (sv rfl (Aa Ahq rfl) (son rfl rfl rfl (sv rfl (Ae ti3 rfl (.lp _ _ _ rfl) rfl) (son rfl rfl rfl ?_))))
    obtain ⟨v3, hv3, h⟩ := Am h
    refine A3 rfl Ae3 (Ac rfl (Ac rfl (Ac rfl Al))) (Aj rfl) (Ck hv3) (sv rfl (Av rfl rfl) (sv rfl (Ag rfl) (Bq 22 rfl (fun hc => ?_) (fun hc => ?_))))
    ·replace h := B2 hc h
     clear hc
     refine son rfl rfl rfl (sv rfl (Aa Alj rfl) (son rfl rfl rfl (sv rfl (Ae ti3 rfl (.lp _ _ _ rfl) rfl) (son rfl rfl rfl ?_))))
     obtain ⟨v4, hv4, h⟩ := Am h
     refine A3 rfl Ae3 (Ac rfl (Ac rfl (Ac rfl Al))) (Aj rfl) (Ck hv4) (sv rfl (Av rfl rfl) (sv rfl (Ak rfl) (Ar (Bk ?_))))
     obtain rfl := SJ h
     refine ⟨Or.inr rfl, _, _, _, (Ad (Bd.tmp _ _ rfl) Af), (Aj rfl), ?_⟩
     rfl
    ·replace h := B3 hc h
     clear hc
     refine Aw rfl rfl rfl rfl (Aw rfl rfl rfl rfl (Aw rfl rfl rfl rfl (sv rfl (An rfl rfl) (sv rfl (Ak rfl) (Ar (Bk ?_))))))
     obtain rfl := SJ h
     refine ⟨Or.inr rfl, _, _, _, (Ad (Bd.tmp _ _ rfl) Af), (Aj rfl), ?_⟩
     rfl
   ·replace h := B3 hc h
    clear hc
    refine Aw rfl rfl rfl rfl (Aw rfl rfl rfl rfl (Aw rfl rfl rfl rfl (sv rfl (An rfl rfl) (sv rfl (Ag rfl) (Aw rfl rfl rfl rfl (Aw rfl rfl rfl rfl (Aw rfl rfl rfl rfl (sv rfl (An rfl rfl) (sv rfl (Ak rfl) (Ar (Bk ?_)))))))))))
    obtain rfl := SJ h
    refine ⟨Or.inr rfl, _, _, _, (Ad (Bd.tmp _ _ rfl) Af), (Aj rfl), ?_⟩
    rfl
  ·replace h := B3 hc h
   clear hc
   refine Aw rfl rfl rfl rfl (Aw rfl rfl rfl rfl (Aw rfl rfl rfl rfl (Aw rfl rfl rfl rfl (sv rfl (An rfl rfl) (sv rfl (Ag rfl) (Aw rfl rfl rfl rfl (Aw rfl rfl rfl rfl (Aw rfl rfl rfl rfl (sv rfl (An rfl rfl) (sv rfl (Ag rfl) (Aw rfl rfl rfl rfl (Aw rfl rfl rfl rfl (Aw rfl rfl rfl rfl (sv rfl (An rfl rfl) (sv rfl (Ak rfl) (Ar (Bk ?_)))))))))))))))))
   obtain rfl := SJ h
   refine ⟨Or.inr rfl, _, _, _, (Ad (Bd.tmp _ _ rfl) Af), (Aj rfl), ?_⟩
   rfl
 ·replace h := B3 hc h
  clear hc
  refine Aw rfl rfl rfl rfl (Aw rfl rfl rfl rfl (Aw rfl rfl rfl rfl (sv rfl (An rfl rfl) (sv rfl (Ag rfl) (Aw rfl rfl rfl rfl (Aw rfl rfl rfl rfl (Aw rfl rfl rfl rfl (Aw rfl rfl rfl rfl (sv rfl (An rfl rfl) (sv rfl (Ag rfl) (Aw rfl rfl rfl rfl (Aw rfl rfl rfl rfl (Aw rfl rfl rfl rfl (sv rfl (An rfl rfl) (sv rfl (Ag rfl) (Aw rfl rfl rfl rfl (Aw rfl rfl rfl rfl (Aw rfl rfl rfl rfl (sv rfl (An rfl rfl) (sv rfl (Ak rfl) (Ar (Bk ?_))))))))))))))))))))))
  obtain rfl := SJ h
  refine ⟨Or.inr rfl, _, _, _, (Ad (Bd.tmp _ _ rfl) Af), (Aj rfl), ?_⟩
  rfl
def La (a0 : Cr) : Option (Ai × Int) :=
 (G4 a0).bind fun v1 => if (!v1) then (some (Cy, 1)) else (some ((Ai.mk a0 ([] : List As) 1 1 0 0 0 0 0 false Gh N1 (Bo.mk ([] : List UInt8) 0) ([] : List UInt8) ([] : List A9) ([] : List A6)), 0))
theorem Qu {a0 : Cr} {r : Ai × Int} (h : La a0 = some r) : Bp Tryz.prog 9 [.agg (EL.el a0)] (· = .tup [.agg (EL.el r.1), .one (Ii6 r.2)]) := by
 unfold La at h
 refine A2 Tryz.func9 rfl (nt := 10) rfl (Nbl rfl) ?_
 intro w0 S0
 refine Aq (Ab (Jj rfl rfl (B1 rfl Nw (sv rfl (Ak rfl) (Ar (Aq (Aq (Ab (sv rfl (Ao Aqo rfl (.lp _ _ _ rfl) (Nbl rfl)) ?_)))))))))
 obtain ⟨v1, hv1, h⟩ := Am h
 refine A3 rfl Auh (Ac rfl Al) (Aj rfl) (Mn hv1) (sv rfl (Ca rfl) (Ar (ccI h rfl (fun h => ?_) (fun h => ?_))))
 ·refine Aq (Ab (sv rfl (Bj Nw Adn Ba (.nil _)) (Ax E7 rfl rfl rfl rfl (Nbl rfl) (Bu [.box (EL.el a0), .box Zba] rfl (sv rfl (Ak rfl) (Ar (Bk (Au ?_))))))))
  obtain rfl := SJ h
  refine ⟨Or.inr rfl, _, _, _, (Ad (Bd.agg _ _ _ _ _ B8 rfl (.lp _ _ _ rfl) (Nbl rfl)) (Ad (Bd.tmp _ _ rfl) Af)), (Nt rfl), ?_⟩
  rfl
 ·refine Bl (Ah (Aq (Ab (sv rfl (Ao Aqo rfl (.lp _ _ _ rfl) (Nbl rfl)) (sv rfl (Bj Nw Adn (Ap rfl (Ap rfl (Ap rfl Ba))) (.cons _ _ _ _ _ _ _ rfl rfl (Nbl rfl) (.cons _ _ _ _ _ _ _ rfl rfl (Nbl rfl) (.cons _ _ _ _ _ _ _ rfl rfl (Nbl rfl) (.nil _))))) (Ax E7 rfl rfl rfl rfl (Nbl rfl) (Bu [.box (EL.el a0), .box [Ii6 a0.Who, Ii6 a0.Plan.Wait, Ii6 a0.Plan.Most, Ii6 a0.Plan.Tries, Ii6 a0.Attempts, Ii6 a0.Budget, Znl, Ii6 1, Ii6 1, Ii6 0, Ii6 0, Ii6 0, Ii6 0, Ii6 0, .b false, Ii6 0, Ii6 0, Ii6 0, Ii6 0, Ii6 0, Ii6 0, Ii6 0, Ii6 0, Ii6 0, .b false, Ii6 0, Ii6 0, Ii6 0, Ii6 0, .b false, Znl, Znl, Znl, Znl, .b false, Znl, Ii6 0, Znl, Znl, Znl]] rfl (sv rfl (Ak rfl) (Ar (Bk ?_))))))))))
  obtain rfl := SJ h
  refine ⟨Or.inr rfl, _, _, _, (Ad (Bd.agg _ _ _ _ _ B8 rfl (.lp _ _ _ rfl) (Nbl rfl)) (Ad (Bd.tmp _ _ rfl) Af)), (Nt rfl), ?_⟩
  rfl
def Ga (a0 : Ai) : Option Bool :=
 (Bz a0.Phase 0 11).bind fun v1 => if v1 then ((Bz a0.Epoch 1 65535).bind fun v2 => if v2 then ((Bz a0.Seq 0 4294967296).bind fun v3 => if v3 then ((Bz a0.Attempt 0 a0.Cfg.Attempts).bind fun v4 => if v4 then (if (decide (0 ≤ a0.Sent)) then (if (decide (0 ≤ a0.Left)) then ((Bz a0.Resets 0 1001).bind fun v5 => some v5) else (some false)) else (some false)) else (some false)) else (some false)) else (some false)) else (some false)
theorem Pm {a0 : Ai} {r : Bool} (h : Ga a0 = some r) : Bp Tryz.prog 29 [.agg (EL.el a0)] (· = .s (.one (.b r))) := by
 unfold Ga at h
 refine A2 Tryz.func29 rfl (nt := 39) rfl (Nbl rfl) ?_
 intro w0 S0
 refine Aq (Ab (Jj rfl rfl (sv rfl (Ak rfl) (Ar (Aq (Ab (sv rfl (Aa Hf rfl) (sv rfl (Ae ti3 rfl (.lp _ _ _ rfl) rfl) ?_))))))))
 obtain ⟨v1, hv1, h⟩ := Am h
 refine A3 rfl Ae3 (Ac rfl (Ac rfl (Ac rfl Al))) (Aj rfl) (Ck hv1) (sv rfl (Ag rfl) (Bq 6 rfl (fun hc => ?_) (fun hc => ?_)))
 ·replace h := B2 hc h
  clear hc
  refine son rfl rfl rfl (sv rfl (Aa Aax rfl) (son rfl rfl rfl (sv rfl (Ae ti3 rfl (.lp _ _ _ rfl) rfl) (son rfl rfl rfl ?_))))
  obtain ⟨v2, hv2, h⟩ := Am h
  refine A3 rfl Ae3 (Ac rfl (Ac rfl (Ac rfl Al))) (Aj rfl) (Ck hv2) (sv rfl (Av rfl rfl) (sv rfl (Ag rfl) (Bq 11 rfl (fun hc => ?_) (fun hc => ?_))))
  ·replace h := B2 hc h
   clear hc
   refine son rfl rfl rfl (sv rfl (Aa Xu rfl) (son rfl rfl rfl (sv rfl (Ae ti3 rfl (.lp _ _ _ rfl) rfl) (son rfl rfl rfl ?_))))
   obtain ⟨v3, hv3, h⟩ := Am h
   refine A3 rfl Ae3 (Ac rfl (Ac rfl (Ac rfl Al))) (Aj rfl) (Ck hv3) (sv rfl (Av rfl rfl) (sv rfl (Ag rfl) (Bq 16 rfl (fun hc => ?_) (fun hc => ?_))))
   ·replace h := B2 hc h
    clear hc
    refine son rfl rfl rfl (sv rfl (Aa Oe rfl) (son rfl rfl rfl (sv rfl (Ae ti3 rfl (.lp _ _ _ rfl) rfl) (son rfl rfl rfl (sv rfl (Aa Q8 rfl) (son rfl rfl rfl (sv rfl (Aa Ahq rfl) (son rfl rfl rfl (sv rfl (Ae ti3 rfl (.lp _ _ _ rfl) rfl) (son rfl rfl rfl ?_))))))))))
    obtain ⟨v4, hv4, h⟩ := Am h
    refine A3 rfl Ae3 (Ac rfl (Ac rfl (Ac rfl Al))) (Aj rfl) (Ck hv4) (sv rfl (Av rfl rfl) (sv rfl (Ag rfl) (Bq 24 rfl (fun hc => ?_) (fun hc => ?_))))
    ·replace h := B2 hc h
     clear hc
     refine son rfl rfl rfl (sv rfl (Aa Z4 rfl) (son rfl rfl rfl (sv rfl (Ae ti3 rfl (.lp _ _ _ rfl) rfl) (son rfl rfl rfl (sv rfl (Lp rfl rfl) (sv rfl (Av rfl rfl) (sv rfl (Ag rfl) (Bq 29 rfl (fun hc => ?_) (fun hc => ?_)))))))))
     ·replace h := B2 hc h
      clear hc
      refine son rfl rfl rfl (sv rfl (Aa Q0 rfl) (son rfl rfl rfl (sv rfl (Ae ti3 rfl (.lp _ _ _ rfl) rfl) (son rfl rfl rfl (sv rfl (Lp rfl rfl) (sv rfl (Av rfl rfl) (sv rfl (Ag rfl) (Bq 34 rfl (fun hc => ?_) (fun hc => ?_)))))))))
      ·replace h := B2 hc h
       clear hc
       refine son rfl rfl rfl (sv rfl (Aa Acx rfl) (son rfl rfl rfl (sv rfl (Ae ti3 rfl (.lp _ _ _ rfl) rfl) (son rfl rfl rfl ?_))))
       obtain ⟨v5, hv5, h⟩ := Am h
       refine A3 rfl Ae3 (Ac rfl (Ac rfl (Ac rfl Al))) (Aj rfl) (Ck hv5) (sv rfl (Av rfl rfl) (sv rfl (Ak rfl) (Ar (Bk ?_))))
       obtain rfl := SJ h
       refine ⟨Or.inr rfl, _, _, _, (Ad (Bd.tmp _ _ rfl) Af), (Aj rfl), ?_⟩
       rfl
      ·replace h := B3 hc h
       clear hc
       refine Aw rfl rfl rfl rfl (Aw rfl rfl rfl rfl (Aw rfl rfl rfl rfl (sv rfl (An rfl rfl) (sv rfl (Ak rfl) (Ar (Bk ?_))))))
       obtain rfl := SJ h
       refine ⟨Or.inr rfl, _, _, _, (Ad (Bd.tmp _ _ rfl) Af), (Aj rfl), ?_⟩
       rfl
     ·replace h := B3 hc h
      clear hc
      refine Aw rfl rfl rfl rfl (Aw rfl rfl rfl rfl (Aw rfl rfl rfl rfl (sv rfl (An rfl rfl) (sv rfl (Ag rfl) (Aw rfl rfl rfl rfl (Aw rfl rfl rfl rfl (Aw rfl rfl rfl rfl (sv rfl (An rfl rfl) (sv rfl (Ak rfl) (Ar (Bk ?_)))))))))))
      obtain rfl := SJ h
      refine ⟨Or.inr rfl, _, _, _, (Ad (Bd.tmp _ _ rfl) Af), (Aj rfl), ?_⟩
      rfl
    ·replace h := B3 hc h
     clear hc
     refine Aw rfl rfl rfl rfl (Aw rfl rfl rfl rfl (Aw rfl rfl rfl rfl (sv rfl (An rfl rfl) (sv rfl (Ag rfl) (Aw rfl rfl rfl rfl (Aw rfl rfl rfl rfl (Aw rfl rfl rfl rfl (sv rfl (An rfl rfl) (sv rfl (Ag rfl) (Aw rfl rfl rfl rfl (Aw rfl rfl rfl rfl (Aw rfl rfl rfl rfl (sv rfl (An rfl rfl) (sv rfl (Ak rfl) (Ar (Bk ?_))))))))))))))))
     obtain rfl := SJ h
     refine ⟨Or.inr rfl, _, _, _, (Ad (Bd.tmp _ _ rfl) Af), (Aj rfl), ?_⟩
     rfl
   ·replace h := B3 hc h
    clear hc
    refine Aw rfl rfl rfl rfl (Aw rfl rfl rfl rfl (Aw rfl rfl rfl rfl (Aw rfl rfl rfl rfl (Aw rfl rfl rfl rfl (Aw rfl rfl rfl rfl (sv rfl (An rfl rfl) (sv rfl (Ag rfl) (Aw rfl rfl rfl rfl (Aw rfl rfl rfl rfl (Aw rfl rfl rfl rfl (sv rfl (An rfl rfl) (sv rfl (Ag rfl) (Aw rfl rfl rfl rfl (Aw rfl rfl rfl rfl (Aw rfl rfl rfl rfl (sv rfl (An rfl rfl) (sv rfl (Ag rfl) (Aw rfl rfl rfl rfl (Aw rfl rfl rfl rfl (Aw rfl rfl rfl rfl (sv rfl (An rfl rfl) (sv rfl (Ak rfl) (Ar (Bk ?_))))))))))))))))))))))))
    obtain rfl := SJ h
    refine ⟨Or.inr rfl, _, _, _, (Ad (Bd.tmp _ _ rfl) Af), (Aj rfl), ?_⟩
    rfl
  ·replace h := B3 hc h
   clear hc
   refine Aw rfl rfl rfl rfl (Aw rfl rfl rfl rfl (Aw rfl rfl rfl rfl (sv rfl (An rfl rfl) (sv rfl (Ag rfl) (Aw rfl rfl rfl rfl (Aw rfl rfl rfl rfl (Aw rfl rfl rfl rfl (Aw rfl rfl rfl rfl (Aw rfl rfl rfl rfl (Aw rfl rfl rfl rfl (sv rfl (An rfl rfl) (sv rfl (Ag rfl) (Aw rfl rfl rfl rfl (Aw rfl rfl rfl rfl (Aw rfl rfl rfl rfl (sv rfl (An rfl rfl) (sv rfl (Ag rfl) (Aw rfl rfl rfl rfl (Aw rfl rfl rfl rfl (Aw rfl rfl rfl rfl (sv rfl (An rfl rfl) (sv rfl (Ag rfl) (Aw rfl rfl rfl rfl (Aw rfl rfl rfl rfl (Aw rfl rfl rfl rfl (sv rfl (An rfl rfl) (sv rfl (Ak rfl) (Ar (Bk ?_)))))))))))))))))))))))))))))
   obtain rfl := SJ h
   refine ⟨Or.inr rfl, _, _, _, (Ad (Bd.tmp _ _ rfl) Af), (Aj rfl), ?_⟩
   rfl
 ·replace h := B3 hc h
  clear hc
  refine Aw rfl rfl rfl rfl (Aw rfl rfl rfl rfl (Aw rfl rfl rfl rfl (sv rfl (An rfl rfl) (sv rfl (Ag rfl) (Aw rfl rfl rfl rfl (Aw rfl rfl rfl rfl (Aw rfl rfl rfl rfl (sv rfl (An rfl rfl) (sv rfl (Ag rfl) (Aw rfl rfl rfl rfl (Aw rfl rfl rfl rfl (Aw rfl rfl rfl rfl (Aw rfl rfl rfl rfl (Aw rfl rfl rfl rfl (Aw rfl rfl rfl rfl (sv rfl (An rfl rfl) (sv rfl (Ag rfl) (Aw rfl rfl rfl rfl (Aw rfl rfl rfl rfl (Aw rfl rfl rfl rfl (sv rfl (An rfl rfl) (sv rfl (Ag rfl) (Aw rfl rfl rfl rfl (Aw rfl rfl rfl rfl (Aw rfl rfl rfl rfl (sv rfl (An rfl rfl) (sv rfl (Ag rfl) (Aw rfl rfl rfl rfl (Aw rfl rfl rfl rfl (Aw rfl rfl rfl rfl (sv rfl (An rfl rfl) (sv rfl (Ak rfl) (Ar (Bk ?_))))))))))))))))))))))))))))))))))
  obtain rfl := SJ h
  refine ⟨Or.inr rfl, _, _, _, (Ad (Bd.tmp _ _ rfl) Af), (Aj rfl), ?_⟩
  rfl
def Fa (a0 : Int) (a1 : Int) : Option Bool :=
 if (decide (0 ≤ a0)) then (some (decide (a0 ≤ a1))) else (some false)
theorem Ij {a0 : Int} {a1 : Int} {r : Bool} (h : Fa a0 a1 = some r) : Bp Tryz.prog 120 [.one (Ii6 a0), .one (Ii6 a1)] (· = .s (.one (.b r))) := by
 unfold Fa at h
 refine A2 Tryz.func120 rfl (nt := 12) rfl (Nbl rfl) ?_
 intro w0 S0
 refine Aq (Ab (sv rfl (Ak rfl) (Ar (Aq (Ab (sv rfl (Ag rfl) (sv rfl (Lp rfl rfl) (sv rfl (Ag rfl) (Bq 7 rfl (fun hc => ?_) (fun hc => ?_))))))))))
 ·replace h := B2 hc h
  clear hc
  refine son rfl rfl rfl (sv rfl (Ag rfl) (son rfl rfl rfl (sv rfl (Ag rfl) (son rfl rfl rfl (sv rfl (F3 rfl rfl) (sv rfl (Av rfl rfl) (sv rfl (Ak rfl) (Ar (Bk ?_)))))))))
  obtain rfl := SJ h
  refine ⟨Or.inr rfl, _, _, _, (Ad (Bd.tmp _ _ rfl) Af), (Aj rfl), ?_⟩
  rfl
 ·replace h := B3 hc h
  clear hc
  refine Aw rfl rfl rfl rfl (Aw rfl rfl rfl rfl (Aw rfl rfl rfl rfl (sv rfl (An rfl rfl) (sv rfl (Ak rfl) (Ar (Bk ?_))))))
  obtain rfl := SJ h
  refine ⟨Or.inr rfl, _, _, _, (Ad (Bd.tmp _ _ rfl) Af), (Aj rfl), ?_⟩
  rfl
def Hg (a0 : Int) (b1 : Bool) : Option K0 :=
 if b1 then (some (K0.mk true false true)) else (if (decide (a0 = 4)) then (some (K0.mk false true false)) else (some (K0.mk false false false)))
def Gk (a0 : Int) : Option K0 :=
 if (decide (a0 = 1)) then (some (K0.mk true false false)) else (if (decide (a0 = 2)) then (Hg a0 (decide (a0 = 2))) else (Hg a0 (decide (a0 = 3))))
theorem On {a0 : Int} {r : K0} (h : Gk a0 = some r) : Bp Tryz.prog 121 [.one (Ii6 a0)] (· = .s (.agg (EL.el r))) := by
 unfold Gk at h
 refine A2 Tryz.func121 rfl (nt := 15) rfl (Nbl rfl) ?_
 intro w0 S0
 refine Aq (Ab (B1 rfl Zh (Ar (Aq (Aq (Ab (sv rfl (Ag rfl) (Ar (B4 (Aq (Ab (sv rfl (Br rfl rfl) (sv rfl (Ak rfl) (Ar (ccI h rfl (fun h => ?_) (fun h => ?_))))))))))))))))
 ·refine Aq (Ab (sv rfl (G8 Zh Acu (Ap rfl (Ap rfl (Ap rfl Ba))) (.cons _ _ _ _ _ _ _ rfl rfl (Nbl rfl) (.cons _ _ _ _ _ _ _ rfl rfl (Nbl rfl) (.cons _ _ _ _ _ _ _ rfl rfl (Nbl rfl) (.nil _))))) (Ax Ah6 rfl rfl rfl rfl (Nbl rfl) (Bu [.box [.b true, .b false, .b false]] rfl (Ar (Bk (Bc (Au ?_))))))))
  obtain rfl := SJ h
  refine ⟨Or.inr rfl, _, _, _, (Ad (Bd.agg _ _ _ _ _ Agc rfl (.lp _ _ _ rfl) (Nbl rfl)) Af), (Aj rfl), ?_⟩
  rfl
 ·refine Aq (Aq (Ab (sv rfl (Br rfl rfl) (sv rfl (Ak rfl) (Ar (G6 (Bool) (fun b1 => [(2, .s (.one (.lp 0 0))), (3, .s (.one (Ii6 a0))), (7, .s (.one (.b b1)))]) (fun b1 => [.box [.b false, .b false, .b false]]) (fun b1 => Hg a0 b1 = some r) (fun _ _ => Be rfl) (fun _ _ => Az rfl) (fun _ _ => Nbl rfl) (fun b1 h => ?_) ?_))))))
  ·unfold Hg at h
   refine ccI h rfl (fun h => ?_) (fun h => ?_)
   ·refine Aq (Ab (sv rfl (G8 Zh Acu (Ap rfl (Ap rfl (Ap rfl Ba))) (.cons _ _ _ _ _ _ _ rfl rfl (Nbl rfl) (.cons _ _ _ _ _ _ _ rfl rfl (Nbl rfl) (.cons _ _ _ _ _ _ _ rfl rfl (Nbl rfl) (.nil _))))) (Ax Ah6 rfl rfl rfl rfl (Nbl rfl) (Bu [.box [.b true, .b false, .b true]] rfl (Ar (Bk (Bc (Au ?_))))))))
    obtain rfl := SJ h
    refine ⟨Or.inr rfl, _, _, _, (Ad (Bd.agg _ _ _ _ _ Agc rfl (.lp _ _ _ rfl) (Nbl rfl)) Af), (Aj rfl), ?_⟩
    rfl
   ·refine Aq (Ab (sv rfl (Br rfl rfl) (sv rfl (Ak rfl) (Ar (ccI h rfl (fun h => ?_) (fun h => ?_))))))
    ·refine Aq (Ab (sv rfl (G8 Zh Acu (Ap rfl (Ap rfl (Ap rfl Ba))) (.cons _ _ _ _ _ _ _ rfl rfl (Nbl rfl) (.cons _ _ _ _ _ _ _ rfl rfl (Nbl rfl) (.cons _ _ _ _ _ _ _ rfl rfl (Nbl rfl) (.nil _))))) (Ax Ah6 rfl rfl rfl rfl (Nbl rfl) (Bu [.box [.b false, .b true, .b false]] rfl (Ar (Bk (Bc (Au ?_))))))))
     obtain rfl := SJ h
     refine ⟨Or.inr rfl, _, _, _, (Ad (Bd.agg _ _ _ _ _ Agc rfl (.lp _ _ _ rfl) (Nbl rfl)) Af), (Aj rfl), ?_⟩
     rfl
    ·refine Bl (A1 (Ah (Aq (Ab (sv rfl (G8 Zh Acu Ba (.nil _)) (Ax Ah6 rfl rfl rfl rfl (Nbl rfl) (Bu [.box [.b false, .b false, .b false]] rfl (Ar (Bk ?_)))))))))
     obtain rfl := SJ h
     refine ⟨Or.inr rfl, _, _, _, (Ad (Bd.agg _ _ _ _ _ Agc rfl (.lp _ _ _ rfl) (Nbl rfl)) Af), (Aj rfl), ?_⟩
     rfl
  ·skip
   refine ccI h rfl (fun h => ?_) (fun h => ?_)
   ·refine Bl (Ah ?_)
    exact ⟨(decide (a0 = 2)), _, h, ⟨rfl, rfl, rfl, trivial⟩, rfl⟩
   ·refine Ab (sv rfl (Br rfl rfl) (sv rfl (Ak rfl) (Ar ?_)))
    exact ⟨(decide (a0 = 3)), _, h, ⟨rfl, rfl, rfl, trivial⟩, rfl⟩
def Ir (a0 : B9) : Option Bool :=
 if (decide (0 < (a0.Lo.length : Int))) then (some true) else (if (decide (0 < (a0.Hi.length : Int))) then (some true) else (some a0.Open))
theorem Sb {a0 : B9} {r : Bool} (h : Ir a0 = some r) : Bp Tryz.prog 122 [.agg (EL.el a0)] (· = .s (.one (.b r))) := by
 unfold Ir at h
 refine A2 Tryz.func122 rfl (nt := 17) rfl (Nbl rfl) ?_
 intro w0 S0
 refine Aq (Ab (Jj rfl rfl (sv rfl (Ak rfl) (Ar (Aq (Ab (sv rfl (Aa Tz rfl) (sv rfl (Ae L5 rfl (.lp _ _ _ rfl) rfl) (sv rfl (A0 Li rfl) (sv rfl (Di rfl rfl) (sv rfl (Ag rfl) (Bq 7 rfl (fun hc => ?_) (fun hc => ?_)))))))))))))
 ·replace h := B2 hc h
  clear hc
  refine Aw rfl rfl rfl rfl (Aw rfl rfl rfl rfl (Aw rfl rfl rfl rfl (Aw rfl rfl rfl rfl (sv rfl (Av rfl rfl) (sv rfl (Ag rfl) (Aw rfl rfl rfl rfl (Aw rfl rfl rfl rfl (sv rfl (Av rfl rfl) (sv rfl (Ak rfl) (Ar (Bk ?_)))))))))))
  obtain rfl := SJ h
  refine ⟨Or.inr rfl, _, _, _, (Ad (Bd.tmp _ _ rfl) Af), (Aj rfl), ?_⟩
  rfl
 ·replace h := B3 hc h
  clear hc
  refine son rfl rfl rfl (sv rfl (Aa Qx rfl) (son rfl rfl rfl (sv rfl (Ae L5 rfl (.lp _ _ _ rfl) rfl) (son rfl rfl rfl (sv rfl (A0 Li rfl) (son rfl rfl rfl (sv rfl (Di rfl rfl) (sv rfl (An rfl rfl) (sv rfl (Ag rfl) (Bq 13 rfl (fun hc => ?_) (fun hc => ?_)))))))))))
  ·replace h := B2 hc h
   clear hc
   refine Aw rfl rfl rfl rfl (Aw rfl rfl rfl rfl (sv rfl (Av rfl rfl) (sv rfl (Ak rfl) (Ar (Bk ?_)))))
   obtain rfl := SJ h
   refine ⟨Or.inr rfl, _, _, _, (Ad (Bd.tmp _ _ rfl) Af), (Aj rfl), ?_⟩
   rfl
  ·replace h := B3 hc h
   clear hc
   refine son rfl rfl rfl (sv rfl (Aa X9 rfl) (son rfl rfl rfl (sv rfl (Ae ti4 rfl (.lp _ _ _ rfl) rfl) (sv rfl (An rfl rfl) (sv rfl (Ak rfl) (Ar (Bk ?_)))))))
   obtain rfl := SJ h
   refine ⟨Or.inr rfl, _, _, _, (Ad (Bd.tmp _ _ rfl) Af), (Aj rfl), ?_⟩
   rfl
def J9 (a0 : List UInt8) : Option Bool :=
 if (decide (1 ≤ (a0.length : Int))) then (some (decide ((a0.length : Int) ≤ 16))) else (some false)
theorem Vi {a0 : List UInt8} {r : Bool} (h : J9 a0 = some r) : Bp Tryz.prog 123 [.one (.sl a0.length (a0.flatMap eU8))] (· = .s (.one (.b r))) := by
 unfold J9 at h
 refine A2 Tryz.func123 rfl (nt := 11) rfl (Nbl rfl) ?_
 intro w0 S0
 refine Aq (Ab (sv rfl (Ak rfl) (Ar (Aq (Ab (sv rfl (Ag rfl) (sv rfl (A0 Li rfl) (sv rfl (Lp rfl rfl) (sv rfl (Ag rfl) (Bq 6 rfl (fun hc => ?_) (fun hc => ?_)))))))))))
 ·replace h := B2 hc h
  clear hc
  refine son rfl rfl rfl (sv rfl (Ag rfl) (son rfl rfl rfl (sv rfl (A0 Li rfl) (son rfl rfl rfl (sv rfl (F3 rfl rfl) (sv rfl (Av rfl rfl) (sv rfl (Ak rfl) (Ar (Bk ?_)))))))))
  obtain rfl := SJ h
  refine ⟨Or.inr rfl, _, _, _, (Ad (Bd.tmp _ _ rfl) Af), (Aj rfl), ?_⟩
  rfl
 ·replace h := B3 hc h
  clear hc
  refine Aw rfl rfl rfl rfl (Aw rfl rfl rfl rfl (Aw rfl rfl rfl rfl (sv rfl (An rfl rfl) (sv rfl (Ak rfl) (Ar (Bk ?_))))))
  obtain rfl := SJ h
  refine ⟨Or.inr rfl, _, _, _, (Ad (Bd.tmp _ _ rfl) Af), (Aj rfl), ?_⟩
  rfl
def Gi (a0 : B9) : Option Bool :=
 if (decide ((a0.Lo.length : Int) ≤ 17)) then (if (decide ((a0.Hi.length : Int) ≤ 17)) then (if a0.Open then (some (!(decide (0 < (a0.Hi.length : Int))))) else (some true)) else (some false)) else (some false)
theorem Q5 {a0 : B9} {r : Bool} (h : Gi a0 = some r) : Bp Tryz.prog 133 [.agg (EL.el a0)] (· = .s (.one (.b r))) := by
 unfold Gi at h
 refine A2 Tryz.func133 rfl (nt := 24) rfl (Nbl rfl) ?_
 intro w0 S0
 refine Aq (Ab (Jj rfl rfl (sv rfl (Ak rfl) (Ar (Aq (Ab (sv rfl (Aa Tz rfl) (sv rfl (Ae L5 rfl (.lp _ _ _ rfl) rfl) (sv rfl (A0 Li rfl) (sv rfl (F3 rfl rfl) (sv rfl (Ag rfl) (Bq 7 rfl (fun hc => ?_) (fun hc => ?_)))))))))))))
 ·replace h := B2 hc h
  clear hc
  refine son rfl rfl rfl (sv rfl (Aa Qx rfl) (son rfl rfl rfl (sv rfl (Ae L5 rfl (.lp _ _ _ rfl) rfl) (son rfl rfl rfl (sv rfl (A0 Li rfl) (son rfl rfl rfl (sv rfl (F3 rfl rfl) (sv rfl (Av rfl rfl) (sv rfl (Ag rfl) (Bq 13 rfl (fun hc => ?_) (fun hc => ?_)))))))))))
  ·replace h := B2 hc h
   clear hc
   refine son rfl rfl rfl (sv rfl (Aa X9 rfl) (son rfl rfl rfl (sv rfl (Ae ti4 rfl (.lp _ _ _ rfl) rfl) (son rfl rfl rfl (sv rfl (Ag rfl) (Bq 16 rfl (fun hc => ?_) (fun hc => ?_)))))))
   ·replace h := B2 hc h
    clear hc
    refine son rfl rfl rfl (sv rfl (Aa Qx rfl) (son rfl rfl rfl (sv rfl (Ae L5 rfl (.lp _ _ _ rfl) rfl) (son rfl rfl rfl (sv rfl (A0 Li rfl) (son rfl rfl rfl (sv rfl (Di rfl rfl) (son rfl rfl rfl (sv rfl (Av rfl rfl) (son rfl rfl rfl (sv rfl (Ca rfl) (sv rfl (Av rfl rfl) (sv rfl (Ak rfl) (Ar (Bk ?_)))))))))))))))
    obtain rfl := SJ h
    refine ⟨Or.inr rfl, _, _, _, (Ad (Bd.tmp _ _ rfl) Af), (Aj rfl), ?_⟩
    rfl
   ·replace h := B3 hc h
    clear hc
    refine Aw rfl rfl rfl rfl (Aw rfl rfl rfl rfl (Aw rfl rfl rfl rfl (Aw rfl rfl rfl rfl (son rfl rfl rfl (sv rfl (An rfl rfl) (son rfl rfl rfl (sv rfl (Ca rfl) (sv rfl (Av rfl rfl) (sv rfl (Ak rfl) (Ar (Bk ?_)))))))))))
    obtain rfl := SJ h
    refine ⟨Or.inr rfl, _, _, _, (Ad (Bd.tmp _ _ rfl) Af), (Aj rfl), ?_⟩
    rfl
  ·replace h := B3 hc h
   clear hc
   refine Aw rfl rfl rfl rfl (Aw rfl rfl rfl rfl (Aw rfl rfl rfl rfl (Iw rfl rfl rfl (Iw rfl rfl rfl (Iw rfl rfl rfl (Iw rfl rfl rfl (Aw rfl rfl rfl rfl (Aw rfl rfl rfl rfl (sv rfl (An rfl rfl) (sv rfl (Ak rfl) (Ar (Bk ?_))))))))))))
   obtain rfl := SJ h
   refine ⟨Or.inr rfl, _, _, _, (Ad (Bd.tmp _ _ rfl) Af), (Aj rfl), ?_⟩
   rfl
 ·replace h := B3 hc h
  clear hc
  refine Aw rfl rfl rfl rfl (Aw rfl rfl rfl rfl (Aw rfl rfl rfl rfl (Aw rfl rfl rfl rfl (sv rfl (An rfl rfl) (sv rfl (Ag rfl) (Aw rfl rfl rfl rfl (Aw rfl rfl rfl rfl (Aw rfl rfl rfl rfl (Iw rfl rfl rfl (Iw rfl rfl rfl (Iw rfl rfl rfl (Iw rfl rfl rfl (Aw rfl rfl rfl rfl (Aw rfl rfl rfl rfl (sv rfl (An rfl rfl) (sv rfl (Ak rfl) (Ar (Bk ?_))))))))))))))))))
  obtain rfl := SJ h
  refine ⟨Or.inr rfl, _, _, _, (Ad (Bd.tmp _ _ rfl) Af), (Aj rfl), ?_⟩
  rfl
def Mu (a0 : List UInt8) (a1 : List UInt8) : Option Int :=
 some (Ae2 a0 a1)
theorem Sc {a0 : List UInt8} {a1 : List UInt8} {r : Int} (h : Mu a0 a1 = some r) : Bp Tryz.prog 141 [.one (.sl a0.length (a0.flatMap eU8)), .one (.sl a1.length (a1.flatMap eU8))] (· = .s (.one (Ii6 r))) := by
 unfold Mu at h
 refine A2 Tryz.func141 rfl (nt := 8) rfl (Nbl rfl) ?_
 intro w0 S0
 refine Aq (Ab (sv rfl (Ak rfl) (Ar (Aq (Ab (sv rfl (Ag rfl) (sv rfl (Ag rfl) (sv rfl (Aj4 (a := a0) (b := a1) Asa rfl rfl rfl rfl rfl rfl) (sv rfl (Ak rfl) (Ar (Bk ?_)))))))))))
 obtain rfl := SJ h
 refine ⟨Or.inr rfl, _, _, _, (Ad (Bd.tmp _ _ rfl) Af), (Aj rfl), ?_⟩
 rfl
def P3 (a0 : List UInt8) (a1 : List UInt8) : Option Int :=
 (Mu a0 a1).bind fun v1 => some v1
theorem V6 {a0 : List UInt8} {a1 : List UInt8} {r : Int} (h : P3 a0 a1 = some r) : Bp Tryz.prog 139 [.one (.sl a0.length (a0.flatMap eU8)), .one (.sl a1.length (a1.flatMap eU8))] (· = .s (.one (Ii6 r))) := by
 unfold P3 at h
 refine A2 Tryz.func139 rfl (nt := 8) rfl (Nbl rfl) ?_
 intro w0 S0
 refine Aq (Ab (sv rfl (Ak rfl) (Ar (Aq (Ab (sv rfl (Ag rfl) (sv rfl (Ag rfl) ?_)))))))
 obtain ⟨v1, hv1, h⟩ := Am h
 refine A3 rfl Arn (Ac rfl (Ac rfl Al)) (Aj rfl) (Sc hv1) (sv rfl (Ak rfl) (Ar (Bk ?_)))
 obtain rfl := SJ h
 refine ⟨Or.inr rfl, _, _, _, (Ad (Bd.tmp _ _ rfl) Af), (Aj rfl), ?_⟩
 rfl
def Ft (a0 : B9) (b1 : Bool) : Option Bool :=
 if b1 then (some true) else ((P3 a0.Hi a0.Lo).bind fun v2 => some (decide (v2 ≤ 0)))
def Kw (a0 : B9) : Option Bool :=
 if a0.Open then (some false) else (if (decide ((a0.Lo.length : Int) = 0)) then (if (decide ((a0.Hi.length : Int) = 1)) then ((idx a0.Hi 0).bind fun u3 => Ft a0 (decide ((u3.toBitVec.toNat : Int) = (0 : Int)))) else (Ft a0 false)) else (Ft a0 false))
theorem Uo {a0 : B9} {r : Bool} (h : Kw a0 = some r) : Bp Tryz.prog 134 [.agg (EL.el a0)] (· = .s (.one (.b r))) := by
 unfold Kw at h
 refine A2 Tryz.func134 rfl (nt := 32) rfl (Nbl rfl) ?_
 intro w0 S0
 refine Aq (Ab (Jj rfl rfl (sv rfl (Ak rfl) (Ar (Aq (Aq (Ab (sv rfl (Aa X9 rfl) (sv rfl (Ae ti4 rfl (.lp _ _ _ rfl) rfl) (Ar (ccI h rfl (fun h => ?_) (fun h => ?_))))))))))))
 ·refine Aq (Ab (sv rfl (Ak rfl) (Ar (Bk (Au ?_)))))
  obtain rfl := SJ h
  refine ⟨Or.inr rfl, _, _, _, (Ad (Bd.tmp _ _ rfl) Af), (Aj rfl), ?_⟩
  rfl
 ·refine Bl (Ah (Aq (G6 (Bool) (fun b1 => [(1, .s (.one (.lp 0 0))), (3, .s (.one (.b b1)))]) (fun b1 => [.box (EL.el a0)]) (fun b1 => Ft a0 b1 = some r) (fun _ _ => Be rfl) (fun _ _ => Az rfl) (fun _ _ => Nbl rfl) (fun b1 h => ?_) ?_)))
  ·unfold Ft at h
   refine Aq (Ab (sv rfl (Ag rfl) (sv rfl (Ag rfl) (Bq 24 rfl (fun hc => ?_) (fun hc => ?_)))))
   ·replace h := B2 hc h
    clear hc
    refine Aw rfl rfl rfl rfl (Aw rfl rfl rfl rfl (Aw rfl rfl rfl rfl (Aw rfl rfl rfl rfl (Aw rfl rfl rfl rfl (Aw rfl rfl rfl rfl (sv rfl (Av rfl rfl) (sv rfl (Ak rfl) (Ar (Bk ?_)))))))))
    obtain rfl := SJ h
    refine ⟨Or.inr rfl, _, _, _, (Ad (Bd.tmp _ _ rfl) Af), (Aj rfl), ?_⟩
    rfl
   ·replace h := B3 hc h
    clear hc
    refine son rfl rfl rfl (sv rfl (Aa Qx rfl) (son rfl rfl rfl (sv rfl (Ae L5 rfl (.lp _ _ _ rfl) rfl) (son rfl rfl rfl (sv rfl (Aa Tz rfl) (son rfl rfl rfl (sv rfl (Ae L5 rfl (.lp _ _ _ rfl) rfl) (son rfl rfl rfl ?_))))))))
    obtain ⟨v2, hv2, h⟩ := Am h
    refine A3 rfl Arj (Ac rfl (Ac rfl Al)) (Aj rfl) (V6 hv2) (son rfl rfl rfl (sv rfl (F3 rfl rfl) (sv rfl (An rfl rfl) (sv rfl (Ak rfl) (Ar (Bk ?_))))))
    obtain rfl := SJ h
    refine ⟨Or.inr rfl, _, _, _, (Ad (Bd.tmp _ _ rfl) Af), (Aj rfl), ?_⟩
    rfl
  ·skip
   refine Ab (sv rfl (Aa Tz rfl) (sv rfl (Ae L5 rfl (.lp _ _ _ rfl) rfl) (sv rfl (A0 Li rfl) (sv rfl (Br rfl rfl) (sv rfl (Ag rfl) (Bq 10 rfl (fun hc => ?_) (fun hc => ?_)))))))
   ·replace h := B2 hc h
    clear hc
    refine son rfl rfl rfl (sv rfl (Aa Qx rfl) (son rfl rfl rfl (sv rfl (Ae L5 rfl (.lp _ _ _ rfl) rfl) (son rfl rfl rfl (sv rfl (A0 Li rfl) (son rfl rfl rfl (sv rfl (Br rfl rfl) (sv rfl (Av rfl rfl) (sv rfl (Ag rfl) (Bq 16 rfl (fun hc => ?_) (fun hc => ?_)))))))))))
    ·replace h := B2 hc h
     clear hc
     refine son rfl rfl rfl (sv rfl (Aa Qx rfl) (son rfl rfl rfl (sv rfl (Ae L5 rfl (.lp _ _ _ rfl) rfl) (son rfl rfl rfl ?_))))
     obtain ⟨u3, hu3, h⟩ := Am h
     refine sv rfl (Dp (f := eU8) Li (fun _ => rfl) rfl rfl rfl rfl hu3) ?_
     refine son rfl rfl rfl (sv rfl (Ae ti5 rfl (.cp _) rfl) (son rfl rfl rfl (sv rfl (Br rfl rfl) (sv rfl (Av rfl rfl) (sv rfl (Ak rfl) (Ar ?_))))))
     exact ⟨(decide ((u3.toBitVec.toNat : Int) = (0 : Int))), _, h, ⟨rfl, rfl, trivial⟩, rfl⟩
    ·replace h := B3 hc h
     clear hc
     refine Aw rfl rfl rfl rfl (Aw rfl rfl rfl rfl (Aw rfl rfl rfl rfl (Aw rfl rfl rfl rfl (Aw rfl rfl rfl rfl (sv rfl (An rfl rfl) (sv rfl (Ak rfl) (Ar ?_)))))))
     exact ⟨false, _, h, ⟨rfl, rfl, trivial⟩, rfl⟩
   ·replace h := B3 hc h
    clear hc
    refine Aw rfl rfl rfl rfl (Aw rfl rfl rfl rfl (Aw rfl rfl rfl rfl (Aw rfl rfl rfl rfl (sv rfl (An rfl rfl) (sv rfl (Ag rfl) (Aw rfl rfl rfl rfl (Aw rfl rfl rfl rfl (Aw rfl rfl rfl rfl (Aw rfl rfl rfl rfl (Aw rfl rfl rfl rfl (sv rfl (An rfl rfl) (sv rfl (Ak rfl) (Ar ?_)))))))))))))
    exact ⟨false, _, h, ⟨rfl, rfl, trivial⟩, rfl⟩
def D7 (a0 : B9) : Option Bool :=
 (Gi a0).bind fun v1 => if v1 then (if (decide ((a0.Lo.length : Int) ≤ 16)) then (if (decide ((a0.Hi.length : Int) ≤ 16)) then ((Kw a0).bind fun v2 => some (!v2)) else (some false)) else (some false)) else (some false)
theorem Qz {a0 : B9} {r : Bool} (h : D7 a0 = some r) : Bp Tryz.prog 124 [.agg (EL.el a0)] (· = .s (.one (.b r))) := by
 unfold D7 at h
 refine A2 Tryz.func124 rfl (nt := 22) rfl (Nbl rfl) ?_
 intro w0 S0
 refine Aq (Ab (Jj rfl rfl (sv rfl (Ak rfl) (Ar (Aq (Ab (sv rfl (Ao Ain rfl (.lp _ _ _ rfl) (Nbl rfl)) ?_)))))))
 obtain ⟨v1, hv1, h⟩ := Am h
 refine A3 rfl Asx (Ac rfl Al) (Aj rfl) (Q5 hv1) (sv rfl (Ag rfl) (Bq 5 rfl (fun hc => ?_) (fun hc => ?_)))
 ·replace h := B2 hc h
  clear hc
  refine son rfl rfl rfl (sv rfl (Aa Tz rfl) (son rfl rfl rfl (sv rfl (Ae L5 rfl (.lp _ _ _ rfl) rfl) (son rfl rfl rfl (sv rfl (A0 Li rfl) (son rfl rfl rfl (sv rfl (F3 rfl rfl) (sv rfl (Av rfl rfl) (sv rfl (Ag rfl) (Bq 11 rfl (fun hc => ?_) (fun hc => ?_)))))))))))
  ·replace h := B2 hc h
   clear hc
   refine son rfl rfl rfl (sv rfl (Aa Qx rfl) (son rfl rfl rfl (sv rfl (Ae L5 rfl (.lp _ _ _ rfl) rfl) (son rfl rfl rfl (sv rfl (A0 Li rfl) (son rfl rfl rfl (sv rfl (F3 rfl rfl) (sv rfl (Av rfl rfl) (sv rfl (Ag rfl) (Bq 17 rfl (fun hc => ?_) (fun hc => ?_)))))))))))
   ·replace h := B2 hc h
    clear hc
    refine son rfl rfl rfl (sv rfl (Ao Ain rfl (.lp _ _ _ rfl) (Nbl rfl)) (son rfl rfl rfl ?_))
    obtain ⟨v2, hv2, h⟩ := Am h
    refine A3 rfl Asr (Ac rfl Al) (Aj rfl) (Uo hv2) (son rfl rfl rfl (sv rfl (Ca rfl) (sv rfl (Av rfl rfl) (sv rfl (Ak rfl) (Ar (Bk ?_))))))
    obtain rfl := SJ h
    refine ⟨Or.inr rfl, _, _, _, (Ad (Bd.tmp _ _ rfl) Af), (Aj rfl), ?_⟩
    rfl
   ·replace h := B3 hc h
    clear hc
    refine Aw rfl rfl rfl rfl (Aw rfl rfl rfl rfl (Aw rfl rfl rfl rfl (sv rfl (An rfl rfl) (sv rfl (Ak rfl) (Ar (Bk ?_))))))
    obtain rfl := SJ h
    refine ⟨Or.inr rfl, _, _, _, (Ad (Bd.tmp _ _ rfl) Af), (Aj rfl), ?_⟩
    rfl
  ·replace h := B3 hc h
   clear hc
   refine Aw rfl rfl rfl rfl (Aw rfl rfl rfl rfl (Aw rfl rfl rfl rfl (Aw rfl rfl rfl rfl (sv rfl (An rfl rfl) (sv rfl (Ag rfl) (Aw rfl rfl rfl rfl (Aw rfl rfl rfl rfl (Aw rfl rfl rfl rfl (sv rfl (An rfl rfl) (sv rfl (Ak rfl) (Ar (Bk ?_))))))))))))
   obtain rfl := SJ h
   refine ⟨Or.inr rfl, _, _, _, (Ad (Bd.tmp _ _ rfl) Af), (Aj rfl), ?_⟩
   rfl
 ·replace h := B3 hc h
  clear hc
  refine Aw rfl rfl rfl rfl (Aw rfl rfl rfl rfl (Aw rfl rfl rfl rfl (Aw rfl rfl rfl rfl (sv rfl (An rfl rfl) (sv rfl (Ag rfl) (Aw rfl rfl rfl rfl (Aw rfl rfl rfl rfl (Aw rfl rfl rfl rfl (Aw rfl rfl rfl rfl (sv rfl (An rfl rfl) (sv rfl (Ag rfl) (Aw rfl rfl rfl rfl (Aw rfl rfl rfl rfl (Aw rfl rfl rfl rfl (sv rfl (An rfl rfl) (sv rfl (Ak rfl) (Ar (Bk ?_))))))))))))))))))
  obtain rfl := SJ h
  refine ⟨Or.inr rfl, _, _, _, (Ad (Bd.tmp _ _ rfl) Af), (Aj rfl), ?_⟩
  rfl
def Cw (a0 : B7) (b4 : Bool) : Option Bool :=
 if b4 then ((J9 a0.Key).bind fun v5 => some v5) else (if (decide (a0.What = 4)) then ((D7 a0.Rng).bind fun v6 => some v6) else (if (decide (a0.What = 7)) then (some (decide (a0.N ≤ 24))) else (some true)))
def C0 (a0 : B7) (b3 : Unit) : Option Bool :=
 if (decide (a0.What = 1)) then (Cw a0 (decide (a0.What = 1))) else (if (decide (a0.What = 2)) then (Cw a0 (decide (a0.What = 2))) else (Cw a0 (decide (a0.What = 3))))
def Fc (a0 : B7) (a1 : Bool) (b1 : Unit) : Option Bool :=
 (Gk a0.What).bind fun v2 => (Ir a0.Rng).bind fun v7 => if (!(((decide (0 < (a0.Key.length : Int))) == v2.R0) && ((v7 == v2.R1) && ((v2.R2 == v2.R2) && true)))) then (some false) else (if a1 then (if v2.R2 then (some false) else (C0 a0 ())) else (C0 a0 ()))
def Cj (a0 : B7) (a1 : Bool) : Option Bool :=
 (Fa (wI (a0.What - 1)) 7).bind fun v8 => if (!v8) then (some false) else ((Fa a0.A 7).bind fun v9 => if (!v9) then (some false) else ((Fa a0.B 7).bind fun v10 => if (!v10) then (some false) else ((Fa a0.N 4294967295).bind fun v11 => if (!v11) then (some false) else (Fc a0 a1 ()))))
theorem Ti {a0 : B7} {a1 : Bool} {r : Bool} (h : Cj a0 a1 = some r) : Bp Tryz.prog 107 [.agg (EL.el a0), .one (.b a1)] (· = .s (.one (.b r))) := by
 unfold Cj at h
 refine A2 Tryz.func107 rfl (nt := 71) rfl (Nbl rfl) ?_
 intro w0 S0
 refine Aq (Ab (Jj rfl rfl (sv rfl (Ak rfl) (Ar (Aq (Aq (Lh (Unit) (fun b1 => [(1, .s (.one (.b a1))), (2, .s (.one (.lp 0 0)))]) (fun b1 => [.box (EL.el a0)]) (fun b1 => Fc a0 a1 b1 = some r) (fun _ _ => Be rfl) (fun _ _ => Az rfl) (fun _ _ => Nbl rfl) (fun b1 h => ?_) ?_)))))))
 ·unfold Fc at h
  refine Aq (Ab (sv rfl (Aa V5 rfl) (sv rfl (Ae ti3 rfl (.lp _ _ _ rfl) rfl) ?_)))
  obtain ⟨v2, hv2, h⟩ := Am h
  refine A3 rfl Aph (Ac rfl Al) (Aj rfl) (On hv2) (B1 rfl Zh (Ax Ah6 rfl rfl rfl rfl (Nbl rfl) (Bu [.box (EL.el a0), .box (EL.el v2)] rfl (Ar (Aq (Ab ?_))))))
  refine sv rfl (O4 (o := 2) Acu rfl rfl (by decide)) ?_
  refine sv rfl (Ae ti4 rfl (.lp _ _ _ rfl) rfl) (sv rfl (Ak rfl) (Ar (Aq (Aq (Lh (Unit) (fun b3 => [(2, .s (.one (.lp 0 0)))]) (fun b3 => [.box (EL.el a0), .box (EL.el v2)]) (fun b3 => C0 a0 b3 = some r) (fun _ _ => Be rfl) (fun _ _ => Az rfl) (fun _ _ => Nbl rfl) (fun b3 h => ?_) ?_)))))
  ·unfold C0 at h
   refine Aq (Aq (Ab (sv rfl (Aa V5 rfl) (sv rfl (Ae ti3 rfl (.lp _ _ _ rfl) rfl) (Ar (B4 (Aq (Aq (Ab (sv rfl (Br rfl rfl) (sv rfl (Ak rfl) (Ar (G6 (Bool) (fun b4 => [(2, .s (.one (.lp 0 0))), (53, .s (.one (Ii6 a0.What))), (54, .s (.one (.b b4)))]) (fun b4 => [.box (EL.el a0), .box (EL.el v2)]) (fun b4 => Cw a0 b4 = some r) (fun _ _ => Be rfl) (fun _ _ => Az rfl) (fun _ _ => Nbl rfl) (fun b4 h => ?_) ?_)))))))))))))
   ·unfold Cw at h
    refine ccI h rfl (fun h => ?_) (fun h => ?_)
    ·refine Aq (Ab (sv rfl (Aa Aa2 rfl) (sv rfl (Ae L5 rfl (.lp _ _ _ rfl) rfl) ?_)))
     obtain ⟨v5, hv5, h⟩ := Am h
     refine A3 rfl Ara (Ac rfl Al) (Aj rfl) (Vi hv5) (sv rfl (Ak rfl) (Ar (Bk (Bc (Au ?_)))))
     obtain rfl := SJ h
     refine ⟨Or.inr rfl, _, _, _, (Ad (Bd.tmp _ _ rfl) Af), (Aj rfl), ?_⟩
     rfl
    ·refine Aq (Ab (sv rfl (Br rfl rfl) (sv rfl (Ak rfl) (Ar (ccI h rfl (fun h => ?_) (fun h => ?_))))))
     ·refine Aq (Ab (sv rfl (Aa Ah4 rfl) (sv rfl (Ao Ain rfl (.lp _ _ _ rfl) (Nbl rfl)) ?_)))
      obtain ⟨v6, hv6, h⟩ := Am h
      refine A3 rfl Arr (Ac rfl Al) (Aj rfl) (Qz hv6) (sv rfl (Ak rfl) (Ar (Bk (Bc (Au ?_)))))
      obtain rfl := SJ h
      refine ⟨Or.inr rfl, _, _, _, (Ad (Bd.tmp _ _ rfl) Af), (Aj rfl), ?_⟩
      rfl
     ·refine Aq (Ab (sv rfl (Br rfl rfl) (sv rfl (Ak rfl) (Ar (ccI h rfl (fun h => ?_) (fun h => ?_))))))
      ·refine Aq (Ab (sv rfl (Aa Aav rfl) (sv rfl (Ae ti3 rfl (.lp _ _ _ rfl) rfl) (sv rfl (F3 rfl rfl) (sv rfl (Ak rfl) (Ar (Bk (Bc (Au ?_)))))))))
       obtain rfl := SJ h
       refine ⟨Or.inr rfl, _, _, _, (Ad (Bd.tmp _ _ rfl) Af), (Aj rfl), ?_⟩
       rfl
      ·refine Bl (A1 (Ah (Aq (Ab (sv rfl (Ak rfl) (Ar (Bk ?_)))))))
       obtain rfl := SJ h
       refine ⟨Or.inr rfl, _, _, _, (Ad (Bd.tmp _ _ rfl) Af), (Aj rfl), ?_⟩
       rfl
   ·skip
    refine ccI h rfl (fun h => ?_) (fun h => ?_)
    ·refine Bl (Ah ?_)
     exact ⟨(decide (a0.What = 1)), _, h, ⟨rfl, rfl, rfl, trivial⟩, rfl⟩
    ·refine Aq (Ab (sv rfl (Br rfl rfl) (sv rfl (Ak rfl) (Ar (ccI h rfl (fun h => ?_) (fun h => ?_))))))
     ·refine Bl (Ah ?_)
      exact ⟨(decide (a0.What = 2)), _, h, ⟨rfl, rfl, rfl, trivial⟩, rfl⟩
     ·refine Ab (sv rfl (Br rfl rfl) (sv rfl (Ak rfl) (Ar ?_)))
      exact ⟨(decide (a0.What = 3)), _, h, ⟨rfl, rfl, rfl, trivial⟩, rfl⟩
  ·skip
   refine Adx Lm (by kernel_rfl) ?_
   refine dv rfl (Aa Aa2 rfl) (dv rfl (Ae L5 rfl (.lp _ _ _ rfl) rfl) (dv rfl (A0 Li rfl) (dv rfl (Di rfl rfl) (dv rfl (Aa Ah4 rfl) (dv rfl (Ao Ain rfl (.lp _ _ _ rfl) (Nbl rfl)) ?_)))))
   obtain ⟨v7, hv7, h⟩ := Am h
   refine dd rfl (D3 Asc (Ac rfl Al) rfl (Sb hv7)) (dv rfl (Ag rfl) (dv rfl (G8 Zh Acu (Ap rfl (Ap rfl (Ap rfl Ba))) (.cons _ _ _ _ _ _ _ rfl rfl (Nbl rfl) (.cons _ _ _ _ _ _ _ rfl rfl (Nbl rfl) (.cons _ _ _ _ _ _ _ rfl rfl (Nbl rfl) (.nil _))))) (dv rfl (Ao Agc rfl (.lp _ _ _ rfl) (Nbl rfl)) (dv rfl (Ac6 Aoe rfl rfl rfl rfl rfl) (dv rfl (Ag rfl) (Xs 46 rfl (fun hc => ?_) (fun hc => ?_)))))))
   ·replace h := B2 hc h
    clear hc
    refine Mx rfl rfl rfl rfl (Mx rfl rfl rfl rfl (P0 rfl rfl rfl (Mx rfl rfl rfl rfl (dv rfl (Av rfl rfl) (Zw (Ah (Hq rfl (fun _ => ?_) (fun hx => Bool.noConfusion hx))))))))
    refine Aq (Ab (sv rfl (Ak rfl) (Ar (Bk (Au ?_)))))
    obtain rfl := SJ h
    refine ⟨Or.inr rfl, _, _, _, (Ad (Bd.tmp _ _ rfl) Af), (Aj rfl), ?_⟩
    rfl
   ·replace h := B3 hc h
    clear hc
    refine dvg rfl rfl rfl (Ag rfl) (dvg rfl rfl rfl (Ag rfl) (Xs 48 rfl (fun hc => ?_) (fun hc => ?_)))
    ·replace h := B2 hc h
     clear hc
     refine dvg rfl rfl rfl (Ag rfl) (dvg rfl rfl rfl (Av rfl rfl) (dv rfl (An rfl rfl) (Zw (Ah (ccI h rfl (fun h => ?_) (fun h => ?_))))))
     ·refine Aq (Ab (sv rfl (Ak rfl) (Ar (Bk (Au ?_)))))
      obtain rfl := SJ h
      refine ⟨Or.inr rfl, _, _, _, (Ad (Bd.tmp _ _ rfl) Af), (Aj rfl), ?_⟩
      rfl
     ·refine Bl (Ah ?_)
      exact ⟨(), _, h, ⟨rfl, trivial⟩, rfl⟩
    ·replace h := B3 hc h
     clear hc
     refine Mx rfl rfl rfl rfl (dvg rfl rfl rfl (An rfl rfl) (dv rfl (An rfl rfl) (Zw (Ah (Hq rfl (fun hx => Bool.noConfusion hx) (fun _ => ?_))))))
     refine Bl (Ah ?_)
     exact ⟨(), _, h, ⟨rfl, trivial⟩, rfl⟩
 ·skip
  refine Ab (sv rfl (Aa V5 rfl) (sv rfl (Ae ti3 rfl (.lp _ _ _ rfl) rfl) (sv rfl (M1 rfl rfl) ?_)))
  obtain ⟨v8, hv8, h⟩ := Am h
  refine A3 rfl Afn (Ac rfl (Ac rfl Al)) (Aj rfl) (Ij hv8) (sv rfl (Ca rfl) (sv rfl (Ag rfl) (Bq 12 rfl (fun hc => ?_) (fun hc => ?_))))
  ·replace h := B2 hc h
   clear hc
   refine Aw rfl rfl rfl rfl (Aw rfl rfl rfl rfl (Aw rfl rfl rfl rfl (Aw rfl rfl rfl rfl (sv rfl (Av rfl rfl) (sv rfl (Ag rfl) (Aw rfl rfl rfl rfl (Aw rfl rfl rfl rfl (Aw rfl rfl rfl rfl (Aw rfl rfl rfl rfl (sv rfl (Av rfl rfl) (sv rfl (Ag rfl) (Aw rfl rfl rfl rfl (Aw rfl rfl rfl rfl (Aw rfl rfl rfl rfl (Aw rfl rfl rfl rfl (sv rfl (Av rfl rfl) (Ar (Hq rfl (fun _ => ?_) (fun hx => Bool.noConfusion hx)))))))))))))))))))
   refine Aq (Ab (sv rfl (Ak rfl) (Ar (Bk (Au ?_)))))
   obtain rfl := SJ h
   refine ⟨Or.inr rfl, _, _, _, (Ad (Bd.tmp _ _ rfl) Af), (Aj rfl), ?_⟩
   rfl
  ·replace h := B3 hc h
   clear hc
   refine son rfl rfl rfl (sv rfl (Aa U4 rfl) (son rfl rfl rfl (sv rfl (Ae ti3 rfl (.lp _ _ _ rfl) rfl) (son rfl rfl rfl ?_))))
   obtain ⟨v9, hv9, h⟩ := Am h
   refine A3 rfl Afn (Ac rfl (Ac rfl Al)) (Aj rfl) (Ij hv9) (son rfl rfl rfl (sv rfl (Ca rfl) (sv rfl (An rfl rfl) (sv rfl (Ag rfl) (Bq 18 rfl (fun hc => ?_) (fun hc => ?_))))))
   ·replace h := B2 hc h
    clear hc
    refine Aw rfl rfl rfl rfl (Aw rfl rfl rfl rfl (Aw rfl rfl rfl rfl (Aw rfl rfl rfl rfl (sv rfl (Av rfl rfl) (sv rfl (Ag rfl) (Aw rfl rfl rfl rfl (Aw rfl rfl rfl rfl (Aw rfl rfl rfl rfl (Aw rfl rfl rfl rfl (sv rfl (Av rfl rfl) (Ar (Hq rfl (fun _ => ?_) (fun hx => Bool.noConfusion hx)))))))))))))
    refine Aq (Ab (sv rfl (Ak rfl) (Ar (Bk (Au ?_)))))
    obtain rfl := SJ h
    refine ⟨Or.inr rfl, _, _, _, (Ad (Bd.tmp _ _ rfl) Af), (Aj rfl), ?_⟩
    rfl
   ·replace h := B3 hc h
    clear hc
    refine son rfl rfl rfl (sv rfl (Aa Xv rfl) (son rfl rfl rfl (sv rfl (Ae ti3 rfl (.lp _ _ _ rfl) rfl) (son rfl rfl rfl ?_))))
    obtain ⟨v10, hv10, h⟩ := Am h
    refine A3 rfl Afn (Ac rfl (Ac rfl Al)) (Aj rfl) (Ij hv10) (son rfl rfl rfl (sv rfl (Ca rfl) (sv rfl (An rfl rfl) (sv rfl (Ag rfl) (Bq 24 rfl (fun hc => ?_) (fun hc => ?_))))))
    ·replace h := B2 hc h
     clear hc
     refine Aw rfl rfl rfl rfl (Aw rfl rfl rfl rfl (Aw rfl rfl rfl rfl (Aw rfl rfl rfl rfl (sv rfl (Av rfl rfl) (Ar (Hq rfl (fun _ => ?_) (fun hx => Bool.noConfusion hx)))))))
     refine Aq (Ab (sv rfl (Ak rfl) (Ar (Bk (Au ?_)))))
     obtain rfl := SJ h
     refine ⟨Or.inr rfl, _, _, _, (Ad (Bd.tmp _ _ rfl) Af), (Aj rfl), ?_⟩
     rfl
    ·replace h := B3 hc h
     clear hc
     refine son rfl rfl rfl (sv rfl (Aa Aav rfl) (son rfl rfl rfl (sv rfl (Ae ti3 rfl (.lp _ _ _ rfl) rfl) (son rfl rfl rfl ?_))))
     obtain ⟨v11, hv11, h⟩ := Am h
     refine A3 rfl Afn (Ac rfl (Ac rfl Al)) (Aj rfl) (Ij hv11) (son rfl rfl rfl (sv rfl (Ca rfl) (sv rfl (An rfl rfl) (Ar (ccI h rfl (fun h => ?_) (fun h => ?_))))))
     ·refine Aq (Ab (sv rfl (Ak rfl) (Ar (Bk (Au ?_)))))
      obtain rfl := SJ h
      refine ⟨Or.inr rfl, _, _, _, (Ad (Bd.tmp _ _ rfl) Af), (Aj rfl), ?_⟩
      rfl
     ·refine Bl (Ah ?_)
      exact ⟨(), _, h, ⟨rfl, rfl, trivial⟩, rfl⟩
def Nu (a0 : Cp) (b1 : Unit) : Option Bool :=
 some (decide ((a0.Ops.length : Int) ≤ 24))
def E9 (a0 : Cp) (s2 : Int) : Option (LR (Int) (Unit) (Bool)) :=
 if (decide (s2 < (a0.Ops.length : Int))) then ((idx a0.Ops s2).bind fun u3 => (Cj u3 a0.RO).bind fun v4 => if (!v4) then (some (.ret false)) else (some (.cont (wI (s2 + 1))))) else (some (.brk ()))
def Dz (a0 : Cp) : Option Bool :=
 (Pt (E9 a0) fuel 0).bind fun x => match x with | .inl r => some r | .inr e5 => Nu a0 e5
theorem Ok {a0 : Cp} {r : Bool} (h : Dz a0 = some r) : Bp Tryz.prog 82 [.agg (EL.el a0)] (· = .s (.one (.b r))) := by
 unfold Dz at h
 refine A2 Tryz.func82 rfl (nt := 22) rfl (Nbl rfl) ?_
 intro w0 S0
 refine Aq (Ab (Jj rfl rfl (sv rfl (Ak rfl) (Ar (Aq (Aq (Ab (sv rfl (Aa Sl rfl) (sv rfl (Ae Aim rfl (.lp _ _ _ rfl) rfl) (sv rfl (A0 Aj2 rfl) (sv rfl (Ag rfl) (Ar (G6 (Unit) (fun b1 => [(1, .s (.one (.lp 0 0)))]) (fun b1 => [.box (EL.el a0)]) (fun b1 => Nu a0 b1 = some r) (fun _ _ => Be rfl) (fun _ _ => Az rfl) (fun _ _ => Nbl rfl) (fun b1 h => ?_) ?_)))))))))))))
 ·unfold Nu at h
  refine Aq (Ab (sv rfl (Aa Sl rfl) (sv rfl (Ae Aim rfl (.lp _ _ _ rfl) rfl) (sv rfl (A0 Aj2 rfl) (sv rfl (F3 rfl rfl) (sv rfl (Ak rfl) (Ar (Bk ?_))))))))
  obtain rfl := SJ h
  refine ⟨Or.inr rfl, _, _, _, (Ad (Bd.tmp _ _ rfl) Af), (Aj rfl), ?_⟩
  rfl
 ·skip
  refine B4 ?_
  obtain ⟨x2, hx2, ho2⟩ := Am h
  refine C2 (G := Nat × (Int)) (fun g => [(1, .s (.one (.lp 0 0))), (6, .s (.one (.sl a0.Ops.length (a0.Ops.flatMap Cg)))), (7, .s (.one (Ii6 (a0.Ops.length : Int)))), (8, .s (.one (Ii6 g.2)))]) (fun g => [.box (EL.el a0)]) (fun g => Pt (E9 a0) g.1 g.2 = some x2) (fun g => g.1) (fuel, 0) hx2 ⟨rfl, rfl, rfl, rfl, trivial⟩ [] rfl (fun _ _ => Be rfl) (fun _ _ => Az rfl) (fun _ _ => Nbl rfl) ?_
  clear hx2 h
  rintro ⟨n2, s2⟩ h
  obtain ⟨n2, y2, rfl, h, hk2⟩ := Ns h
  unfold E9 at h
  refine Aq (Ab (sv rfl (Cm rfl rfl) (Ar (Aq (ccI h rfl (fun h => ?_) (fun h => ?_))))))
  ·refine Bl (Ah (Aq (B4 (Aq (Ab ?_)))))
   obtain ⟨u3, hu3, h⟩ := Am h
   refine sv rfl (Dp (f := Cg) Aj2 (fun _ => rfl) rfl rfl rfl rfl hu3) ?_
   refine sv rfl (C6 (ys := [Ii6 u3.What, Ii6 u3.A, Ii6 u3.B, Ii6 u3.N, .sl u3.Key.length (u3.Key.flatMap eU8), .sl u3.Rng.Lo.length (u3.Rng.Lo.flatMap eU8), .sl u3.Rng.Hi.length (u3.Rng.Hi.flatMap eU8), .b u3.Rng.Open]) Akz rfl (.cp _) rfl rfl) (B1 rfl Apo (Ax As2 rfl rfl rfl rfl (Nbl rfl) (Bu [.box (EL.el a0), .box (EL.el u3)] rfl (Ar (Aq (Ab (sv rfl (Ao Akz rfl (.lp _ _ _ rfl) (Nbl rfl)) (sv rfl (Aa Aky rfl) (sv rfl (Ae ti4 rfl (.lp _ _ _ rfl) rfl) ?_)))))))))
   obtain ⟨v4, hv4, h⟩ := Am h
   refine A3 rfl Asw (Ac rfl (Ac rfl Al)) (Aj rfl) (Ti hv4) (sv rfl (Ca rfl) (Ar (ccI h rfl (fun h => ?_) (fun h => ?_))))
   ·refine Aq (Ab (sv rfl (Ak rfl) (Ar (Bk (Bc (Au (Au (Bc (Au ?_)))))))))
    obtain rfl := SJ h
    obtain rfl : Sum.inl _ = x2 := hk2
    replace ho2 : some _ = some _ := ho2
    obtain rfl := Option.some.inj ho2
    refine ⟨Or.inr rfl, _, _, _, (Ad (Bd.tmp _ _ rfl) Af), (Aj rfl), ?_⟩
    rfl
   ·refine Bl (A1 (Ah (Ab (sv rfl (B0 rfl rfl) (sv rfl (Ag rfl) (Ar ?_))))))
    obtain rfl := SJ h
    exact ⟨(n2, (wI (s2 + 1))), _, hk2, ⟨rfl, rfl, rfl, rfl, trivial⟩, rfl, Nat.lt_succ_self _⟩
  ·refine Kn (Bh (Bh (Cd (Ah ?_))))
   obtain rfl := SJ h
   obtain rfl : _ = x2 := hk2
   exact ⟨(), _, ho2, ⟨rfl, trivial⟩, rfl⟩
def Df (a0 : As) : Option Bool :=
 (Bz a0.Token 0 1099511627776).bind fun v1 => if v1 then ((Dz a0.Prog).bind fun v2 => some v2) else (some false)
theorem Nh {a0 : As} {r : Bool} (h : Df a0 = some r) : Bp Tryz.prog 53 [.agg (EL.el a0)] (· = .s (.one (.b r))) := by
 unfold Df at h
 refine A2 Tryz.func53 rfl (nt := 11) rfl (Nbl rfl) ?_
 intro w0 S0
 refine Aq (Ab (Jj rfl rfl (sv rfl (Ak rfl) (Ar (Aq (Ab (sv rfl (Aa Sf rfl) (sv rfl (Ae ti3 rfl (.lp _ _ _ rfl) rfl) ?_))))))))
 obtain ⟨v1, hv1, h⟩ := Am h
 refine A3 rfl Ae3 (Ac rfl (Ac rfl (Ac rfl Al))) (Aj rfl) (Ck hv1) (sv rfl (Ag rfl) (Bq 6 rfl (fun hc => ?_) (fun hc => ?_)))
 ·replace h := B2 hc h
  clear hc
  refine son rfl rfl rfl (sv rfl (Aa Adc rfl) (son rfl rfl rfl (sv rfl (Ao Am3 rfl (.lp _ _ _ rfl) (Nbl rfl)) (son rfl rfl rfl ?_))))
  obtain ⟨v2, hv2, h⟩ := Am h
  refine A3 rfl Arf (Ac rfl Al) (Aj rfl) (Ok hv2) (sv rfl (Av rfl rfl) (sv rfl (Ak rfl) (Ar (Bk ?_))))
  obtain rfl := SJ h
  refine ⟨Or.inr rfl, _, _, _, (Ad (Bd.tmp _ _ rfl) Af), (Aj rfl), ?_⟩
  rfl
 ·replace h := B3 hc h
  clear hc
  refine Aw rfl rfl rfl rfl (Aw rfl rfl rfl rfl (Aw rfl rfl rfl rfl (sv rfl (An rfl rfl) (sv rfl (Ak rfl) (Ar (Bk ?_))))))
  obtain rfl := SJ h
  refine ⟨Or.inr rfl, _, _, _, (Ad (Bd.tmp _ _ rfl) Af), (Aj rfl), ?_⟩
  rfl
def Ls (b1 : Unit) : Option Int :=
 some (-1)
def Hb (a0 : List As) (a1 : Int) (s2 : Int) : Option (LR (Int) (Unit) (Int)) :=
 if (decide (s2 < (a0.length : Int))) then ((idx a0 s2).bind fun u3 => if (decide (u3.Token = a1)) then (some (.ret s2)) else (some (.cont (wI (s2 + 1))))) else (some (.brk ()))
def Fi (a0 : List As) (a1 : Int) : Option Int :=
 (Pt (Hb a0 a1) fuel 0).bind fun x => match x with | .inl r => some r | .inr e4 => Ls e4
theorem Od {a0 : List As} {a1 : Int} {r : Int} (h : Fi a0 a1 = some r) : Bp Tryz.prog 54 [.one (.sl a0.length (a0.flatMap Ay)), .one (Ii6 a1)] (· = .s (.one (Ii6 r))) := by
 unfold Fi at h
 refine A2 Tryz.func54 rfl (nt := 20) rfl (Nbl rfl) ?_
 intro w0 S0
 refine Aq (Ab (sv rfl (Ak rfl) (Ar (Aq (Aq (Ab (sv rfl (Ag rfl) (sv rfl (A0 Vl rfl) (sv rfl (Ag rfl) (Ar (G6 (Unit) (fun b1 => []) (fun b1 => []) (fun b1 => Ls b1 = some r) (fun _ _ => Be rfl) (fun _ _ => Az rfl) (fun _ _ => Nbl rfl) (fun b1 h => ?_) ?_)))))))))))
 ·unfold Ls at h
  refine Aq (Ab (sv rfl (Ak rfl) (Ar (Bk ?_))))
  obtain rfl := SJ h
  refine ⟨Or.inr rfl, _, _, _, (Ad (Bd.tmp _ _ rfl) Af), (Aj rfl), ?_⟩
  rfl
 ·skip
  refine B4 ?_
  obtain ⟨x2, hx2, ho2⟩ := Am h
  refine C2 (G := Nat × (Int)) (fun g => [(1, .s (.one (Ii6 a1))), (7, .s (.one (.sl a0.length (a0.flatMap Ay)))), (8, .s (.one (Ii6 (a0.length : Int)))), (9, .s (.one (Ii6 g.2)))]) (fun g => []) (fun g => Pt (Hb a0 a1) g.1 g.2 = some x2) (fun g => g.1) (fuel, 0) hx2 ⟨rfl, rfl, rfl, rfl, trivial⟩ [] rfl (fun _ _ => Be rfl) (fun _ _ => Az rfl) (fun _ _ => Nbl rfl) ?_
  clear hx2 h
  rintro ⟨n2, s2⟩ h
  obtain ⟨n2, y2, rfl, h, hk2⟩ := Ns h
  unfold Hb at h
  refine Aq (Ab (sv rfl (Cm rfl rfl) (Ar (Aq (ccI h rfl (fun h => ?_) (fun h => ?_))))))
  ·refine Bl (Ah (Aq (B4 (Aq (Ab (sv rfl (Ag rfl) ?_))))))
   obtain ⟨u3, hu3, h⟩ := Am h
   refine sv rfl (Dp (f := Ay) Vl (fun _ => rfl) rfl rfl rfl rfl hu3) ?_
   refine sv rfl (C6 (ys := [Ii6 u3.Token, .b u3.Prog.RO, .sl u3.Prog.Ops.length (u3.Prog.Ops.flatMap Cg)]) Alr rfl (.cp _) rfl rfl) (B1 rfl An2 (sv rfl (Ak rfl) (Ax Aq0 rfl rfl rfl rfl (Nbl rfl) (Bu [.box (EL.el u3)] rfl (Ar (Aq (Ab (sv rfl (Aa Sf rfl) (sv rfl (Ae ti3 rfl (.lp _ _ _ rfl) rfl) (sv rfl (Ag rfl) (sv rfl (Br rfl rfl) (Ar (ccI h rfl (fun h => ?_) (fun h => ?_))))))))))))))
   ·refine Aq (Ab (sv rfl (Ag rfl) (sv rfl (Ak rfl) (Ar (Bk (Bc (Au (Au (Bc (Au ?_))))))))))
    obtain rfl := SJ h
    obtain rfl : Sum.inl _ = x2 := hk2
    replace ho2 : some _ = some _ := ho2
    obtain rfl := Option.some.inj ho2
    refine ⟨Or.inr rfl, _, _, _, (Ad (Bd.tmp _ _ rfl) Af), (Aj rfl), ?_⟩
    rfl
   ·refine Bl (A1 (Ah (Ab (sv rfl (B0 rfl rfl) (sv rfl (Ag rfl) (Ar ?_))))))
    obtain rfl := SJ h
    exact ⟨(n2, (wI (s2 + 1))), _, hk2, ⟨rfl, rfl, rfl, rfl, trivial⟩, rfl, Nat.lt_succ_self _⟩
  ·refine Kn (Bh (Bh (Cd (Ah ?_))))
   obtain rfl := SJ h
   obtain rfl : _ = x2 := hk2
   exact ⟨(), _, ho2, trivial, rfl⟩
def Jt (a0 : List As) (b1 : Unit) : Option Bool :=
 some (decide ((a0.length : Int) ≤ 8))
def Fs (a0 : List As) (s2 : Int) : Option (LR (Int) (Unit) (Bool)) :=
 if (decide (s2 < (a0.length : Int))) then ((idx a0 s2).bind fun u3 => (Df u3).bind fun v4 => if (!v4) then (some (.ret false)) else ((Fi a0 u3.Token).bind fun v5 => if (!decide (v5 = s2)) then (some (.ret false)) else (some (.cont (wI (s2 + 1)))))) else (some (.brk ()))
def He (a0 : List As) : Option Bool :=
 (Pt (Fs a0) fuel 0).bind fun x => match x with | .inl r => some r | .inr e6 => Jt a0 e6
theorem Qf {a0 : List As} {r : Bool} (h : He a0 = some r) : Bp Tryz.prog 30 [.one (.sl a0.length (a0.flatMap Ay))] (· = .s (.one (.b r))) := by
 unfold He at h
 refine A2 Tryz.func30 rfl (nt := 27) rfl (Nbl rfl) ?_
 intro w0 S0
 refine Aq (Ab (sv rfl (Ak rfl) (Ar (Aq (Aq (Ab (sv rfl (Ag rfl) (sv rfl (A0 Vl rfl) (sv rfl (Ag rfl) (Ar (G6 (Unit) (fun b1 => [(0, .s (.one (.sl a0.length (a0.flatMap Ay))))]) (fun b1 => []) (fun b1 => Jt a0 b1 = some r) (fun _ _ => Be rfl) (fun _ _ => Az rfl) (fun _ _ => Nbl rfl) (fun b1 h => ?_) ?_)))))))))))
 ·unfold Jt at h
  refine Aq (Ab (sv rfl (Ag rfl) (sv rfl (A0 Vl rfl) (sv rfl (F3 rfl rfl) (sv rfl (Ak rfl) (Ar (Bk ?_)))))))
  obtain rfl := SJ h
  refine ⟨Or.inr rfl, _, _, _, (Ad (Bd.tmp _ _ rfl) Af), (Aj rfl), ?_⟩
  rfl
 ·skip
  refine B4 ?_
  obtain ⟨x2, hx2, ho2⟩ := Am h
  refine C2 (G := Nat × (Int)) (fun g => [(0, .s (.one (.sl a0.length (a0.flatMap Ay)))), (5, .s (.one (.sl a0.length (a0.flatMap Ay)))), (6, .s (.one (Ii6 (a0.length : Int)))), (7, .s (.one (Ii6 g.2)))]) (fun g => []) (fun g => Pt (Fs a0) g.1 g.2 = some x2) (fun g => g.1) (fuel, 0) hx2 ⟨rfl, rfl, rfl, rfl, trivial⟩ [] rfl (fun _ _ => Be rfl) (fun _ _ => Az rfl) (fun _ _ => Nbl rfl) ?_
  clear hx2 h
  rintro ⟨n2, s2⟩ h
  obtain ⟨n2, y2, rfl, h, hk2⟩ := Ns h
  unfold Fs at h
  refine Aq (Ab (sv rfl (Cm rfl rfl) (Ar (Aq (ccI h rfl (fun h => ?_) (fun h => ?_))))))
  ·refine Bl (Ah (Aq (B4 (Aq (Ab (sv rfl (Ag rfl) ?_))))))
   obtain ⟨u3, hu3, h⟩ := Am h
   refine sv rfl (Dp (f := Ay) Vl (fun _ => rfl) rfl rfl rfl rfl hu3) ?_
   refine sv rfl (C6 (ys := [Ii6 u3.Token, .b u3.Prog.RO, .sl u3.Prog.Ops.length (u3.Prog.Ops.flatMap Cg)]) Alr rfl (.cp _) rfl rfl) (B1 rfl An2 (sv rfl (Ak rfl) (Ax Aq0 rfl rfl rfl rfl (Nbl rfl) (Bu [.box (EL.el u3)] rfl (Ar (Aq (Ab (sv rfl (Ao Alr rfl (.lp _ _ _ rfl) (Nbl rfl)) ?_))))))))
   obtain ⟨v4, hv4, h⟩ := Am h
   refine A3 rfl Auj (Ac rfl Al) (Aj rfl) (Nh hv4) (sv rfl (Ca rfl) (sv rfl (Ag rfl) (Bq 15 rfl (fun hc => ?_) (fun hc => ?_))))
   ·replace h := B2 hc h
    clear hc
    refine Aw rfl rfl rfl rfl (Aw rfl rfl rfl rfl (Aw rfl rfl rfl rfl (Aw rfl rfl rfl rfl (Aw rfl rfl rfl rfl (Aw rfl rfl rfl rfl (sv rfl (Av rfl rfl) (Ar (Hq rfl (fun _ => ?_) (fun hx => Bool.noConfusion hx)))))))))
    refine Aq (Ab (sv rfl (Ak rfl) (Ar (Bk (Bc (Au (Au (Bc (Au ?_)))))))))
    obtain rfl := SJ h
    obtain rfl : Sum.inl _ = x2 := hk2
    replace ho2 : some _ = some _ := ho2
    obtain rfl := Option.some.inj ho2
    refine ⟨Or.inr rfl, _, _, _, (Ad (Bd.tmp _ _ rfl) Af), (Aj rfl), ?_⟩
    rfl
   ·replace h := B3 hc h
    clear hc
    refine son rfl rfl rfl (sv rfl (Ag rfl) (son rfl rfl rfl (sv rfl (Aa Sf rfl) (son rfl rfl rfl (sv rfl (Ae ti3 rfl (.lp _ _ _ rfl) rfl) (son rfl rfl rfl ?_))))))
    obtain ⟨v5, hv5, h⟩ := Am h
    refine A3 rfl Atw (Ac rfl (Ac rfl Al)) (Aj rfl) (Od hv5) (son rfl rfl rfl (sv rfl (Ag rfl) (son rfl rfl rfl (sv rfl (Ce rfl rfl) (sv rfl (An rfl rfl) (Ar (ccI h rfl (fun h => ?_) (fun h => ?_))))))))
    ·refine Aq (Ab (sv rfl (Ak rfl) (Ar (Bk (Bc (Au (Au (Bc (Au ?_)))))))))
     obtain rfl := SJ h
     obtain rfl : Sum.inl _ = x2 := hk2
     replace ho2 : some _ = some _ := ho2
     obtain rfl := Option.some.inj ho2
     refine ⟨Or.inr rfl, _, _, _, (Ad (Bd.tmp _ _ rfl) Af), (Aj rfl), ?_⟩
     rfl
    ·refine Bl (A1 (Ah (Ab (sv rfl (B0 rfl rfl) (sv rfl (Ag rfl) (Ar ?_))))))
     obtain rfl := SJ h
     exact ⟨(n2, (wI (s2 + 1))), _, hk2, ⟨rfl, rfl, rfl, rfl, trivial⟩, rfl, Nat.lt_succ_self _⟩
  ·refine Kn (Bh (Bh (Cd (Ah ?_))))
   obtain rfl := SJ h
   obtain rfl : _ = x2 := hk2
   exact ⟨(), _, ho2, ⟨rfl, trivial⟩, rfl⟩
def Hz (a0 : Ai) : Option Bool :=
 (Bz a0.Phase 3 10).bind fun v1 => if v1 then (if (decide (0 < (a0.Tasks.length : Int))) then (some (decide (0 < a0.Attempt))) else (some false)) else (if (decide ((a0.Tasks.length : Int) = 0)) then (some true) else (if (!decide (a0.Phase = 0)) then (some (!decide (a0.Phase = 11))) else (some false)))
theorem Qy {a0 : Ai} {r : Bool} (h : Hz a0 = some r) : Bp Tryz.prog 31 [.agg (EL.el a0)] (· = .s (.one (.b r))) := by
 unfold Hz at h
 refine A2 Tryz.func31 rfl (nt := 29) rfl (Nbl rfl) ?_
 intro w0 S0
 refine Aq (Ab (Jj rfl rfl (sv rfl (Ak rfl) (Ar (Aq (Aq (Ab (sv rfl (Aa Hf rfl) (sv rfl (Ae ti3 rfl (.lp _ _ _ rfl) rfl) ?_)))))))))
 obtain ⟨v1, hv1, h⟩ := Am h
 refine A3 rfl Ae3 (Ac rfl (Ac rfl (Ac rfl Al))) (Aj rfl) (Ck hv1) (Ar (ccI h rfl (fun h => ?_) (fun h => ?_)))
 ·refine Aq (Ab (sv rfl (Aa Mz rfl) (sv rfl (Ae Zk rfl (.lp _ _ _ rfl) rfl) (sv rfl (A0 Vl rfl) (sv rfl (Di rfl rfl) (sv rfl (Ag rfl) (Bq 10 rfl (fun hc => ?_) (fun hc => ?_))))))))
  ·replace h := B2 hc h
   clear hc
   refine son rfl rfl rfl (sv rfl (Aa Oe rfl) (son rfl rfl rfl (sv rfl (Ae ti3 rfl (.lp _ _ _ rfl) rfl) (son rfl rfl rfl (sv rfl (Di rfl rfl) (sv rfl (Av rfl rfl) (sv rfl (Ak rfl) (Ar (Bk (Au ?_))))))))))
   obtain rfl := SJ h
   refine ⟨Or.inr rfl, _, _, _, (Ad (Bd.tmp _ _ rfl) Af), (Aj rfl), ?_⟩
   rfl
  ·replace h := B3 hc h
   clear hc
   refine Aw rfl rfl rfl rfl (Aw rfl rfl rfl rfl (Aw rfl rfl rfl rfl (sv rfl (An rfl rfl) (sv rfl (Ak rfl) (Ar (Bk (Au ?_)))))))
   obtain rfl := SJ h
   refine ⟨Or.inr rfl, _, _, _, (Ad (Bd.tmp _ _ rfl) Af), (Aj rfl), ?_⟩
   rfl
 ·refine Bl (Ah (Aq (Ab (sv rfl (Aa Mz rfl) (sv rfl (Ae Zk rfl (.lp _ _ _ rfl) rfl) (sv rfl (A0 Vl rfl) (sv rfl (Br rfl rfl) (sv rfl (Ag rfl) (Bq 19 rfl (fun hc => ?_) (fun hc => ?_))))))))))
  ·replace h := B2 hc h
   clear hc
   refine Aw rfl rfl rfl rfl (Aw rfl rfl rfl rfl (Aw rfl rfl rfl rfl (Aw rfl rfl rfl rfl (Iw rfl rfl rfl (Iw rfl rfl rfl (Iw rfl rfl rfl (Aw rfl rfl rfl rfl (sv rfl (Av rfl rfl) (sv rfl (Ak rfl) (Ar (Bk ?_)))))))))))
   obtain rfl := SJ h
   refine ⟨Or.inr rfl, _, _, _, (Ad (Bd.tmp _ _ rfl) Af), (Aj rfl), ?_⟩
   rfl
  ·replace h := B3 hc h
   clear hc
   refine son rfl rfl rfl (sv rfl (Aa Hf rfl) (son rfl rfl rfl (sv rfl (Ae ti3 rfl (.lp _ _ _ rfl) rfl) (son rfl rfl rfl (sv rfl (Ce rfl rfl) (son rfl rfl rfl (sv rfl (Ag rfl) (Bq 23 rfl (fun hc => ?_) (fun hc => ?_)))))))))
   ·replace h := B2 hc h
    clear hc
    refine son rfl rfl rfl (sv rfl (Aa Hf rfl) (son rfl rfl rfl (sv rfl (Ae ti3 rfl (.lp _ _ _ rfl) rfl) (son rfl rfl rfl (sv rfl (Ce rfl rfl) (son rfl rfl rfl (sv rfl (Av rfl rfl) (sv rfl (An rfl rfl) (sv rfl (Ak rfl) (Ar (Bk ?_)))))))))))
    obtain rfl := SJ h
    refine ⟨Or.inr rfl, _, _, _, (Ad (Bd.tmp _ _ rfl) Af), (Aj rfl), ?_⟩
    rfl
   ·replace h := B3 hc h
    clear hc
    refine Aw rfl rfl rfl rfl (Aw rfl rfl rfl rfl (Aw rfl rfl rfl rfl (son rfl rfl rfl (sv rfl (An rfl rfl) (sv rfl (An rfl rfl) (sv rfl (Ak rfl) (Ar (Bk ?_))))))))
    obtain rfl := SJ h
    refine ⟨Or.inr rfl, _, _, _, (Ad (Bd.tmp _ _ rfl) Af), (Aj rfl), ?_⟩
    rfl
def Co (a0 : Int) : Option Bool :=
 (Bz a0 2 7).bind fun v1 => if v1 then (some true) else (some (decide (a0 = 9)))
theorem D1 {a0 : Int} {r : Bool} (h : Co a0 = some r) : Bp Tryz.prog 32 [.one (Ii6 a0)] (· = .s (.one (.b r))) := by
 unfold Co at h
 refine A2 Tryz.func32 rfl (nt := 9) rfl (Nbl rfl) ?_
 intro w0 S0
 refine Aq (Ab (sv rfl (Ak rfl) (Ar (Aq (Ab (sv rfl (Ag rfl) ?_))))))
 obtain ⟨v1, hv1, h⟩ := Am h
 refine A3 rfl Ae3 (Ac rfl (Ac rfl (Ac rfl Al))) (Aj rfl) (Ck hv1) (sv rfl (Ag rfl) (Bq 5 rfl (fun hc => ?_) (fun hc => ?_)))
 ·replace h := B2 hc h
  clear hc
  refine Aw rfl rfl rfl rfl (Aw rfl rfl rfl rfl (sv rfl (Av rfl rfl) (sv rfl (Ak rfl) (Ar (Bk ?_)))))
  obtain rfl := SJ h
  refine ⟨Or.inr rfl, _, _, _, (Ad (Bd.tmp _ _ rfl) Af), (Aj rfl), ?_⟩
  rfl
 ·replace h := B3 hc h
  clear hc
  refine son rfl rfl rfl (sv rfl (Ag rfl) (son rfl rfl rfl (sv rfl (Br rfl rfl) (sv rfl (An rfl rfl) (sv rfl (Ak rfl) (Ar (Bk ?_)))))))
  obtain rfl := SJ h
  refine ⟨Or.inr rfl, _, _, _, (Ad (Bd.tmp _ _ rfl) Af), (Aj rfl), ?_⟩
  rfl
def Hs (a0 : Int) : Option Bool :=
 if (decide (a0 = 4)) then (some true) else (some (decide (a0 = 5)))
theorem Oo {a0 : Int} {r : Bool} (h : Hs a0 = some r) : Bp Tryz.prog 65 [.one (Ii6 a0)] (· = .s (.one (.b r))) := by
 unfold Hs at h
 refine A2 Tryz.func65 rfl (nt := 9) rfl (Nbl rfl) ?_
 intro w0 S0
 refine Aq (Ab (sv rfl (Ak rfl) (Ar (Aq (Ab (sv rfl (Ag rfl) (sv rfl (Br rfl rfl) (sv rfl (Ag rfl) (Bq 5 rfl (fun hc => ?_) (fun hc => ?_))))))))))
 ·replace h := B2 hc h
  clear hc
  refine Aw rfl rfl rfl rfl (Aw rfl rfl rfl rfl (sv rfl (Av rfl rfl) (sv rfl (Ak rfl) (Ar (Bk ?_)))))
  obtain rfl := SJ h
  refine ⟨Or.inr rfl, _, _, _, (Ad (Bd.tmp _ _ rfl) Af), (Aj rfl), ?_⟩
  rfl
 ·replace h := B3 hc h
  clear hc
  refine son rfl rfl rfl (sv rfl (Ag rfl) (son rfl rfl rfl (sv rfl (Br rfl rfl) (sv rfl (An rfl rfl) (sv rfl (Ak rfl) (Ar (Bk ?_)))))))
  obtain rfl := SJ h
  refine ⟨Or.inr rfl, _, _, _, (Ad (Bd.tmp _ _ rfl) Af), (Aj rfl), ?_⟩
  rfl
def Jl (a0 : List UInt8) : Option (Int × Int × (List UInt8)) :=
 some (0, 0, a0)
theorem O9 {a0 : List UInt8} {r : Int × Int × (List UInt8)} (h : Jl a0 = some r) : G3 Tryz.prog 92 [] [.one (.sl a0.length (a0.flatMap eU8))] (fun y m' => y = .s (.one (.lp 0 0)) ∧ m' = [.box [.fn 112 [] [.lp 1 0, .lp 2 0], Ii6 r.1], .box [Ii6 r.2.1], .box [.sl r.2.2.length (r.2.2.flatMap eU8)]]) := by
 unfold Jl at h
 refine Cv Tryz.func92 rfl (nt := 7) rfl (Nbl rfl) ?_
 intro w0 S0 X0 H0
 refine Aq (Ab (Jj rfl rfl (sv rfl (Ak rfl) (Ar (Aq (Ab (B1 rfl zi3 (Ax sz3 rfl rfl rfl rfl (Nbl rfl) (Bu [.box [.sl a0.length (a0.flatMap eU8)], .box [Ii6 0]] rfl (Ar (Aq (Ab (sv rfl (Uv Rs (Sz rfl rfl (Sz rfl rfl Rs))) (sv rfl (Bj Atf As9 (Ap rfl Ba) (.cons _ _ _ _ _ _ _ rfl rfl (Nbl rfl) (.nil _))) (Jj rfl rfl (sv rfl (Ak rfl) (Ar (Bk ?_))))))))))))))))))
 obtain rfl := SJ h
 exact ⟨Or.inr rfl, _, [2, 1, 0], [.one (.lp 0 0)], [.box [.fn 112 [] [.lp 1 0, .lp 2 0], Ii6 0], .box [Ii6 0], .box [.sl a0.length (a0.flatMap eU8)]], (Ad (Bd.tmp _ _ rfl) Af), rfl, rfl, ⟨by decide, rfl⟩, rfl, rfl, ⟨rfl, rfl⟩⟩
def Bs (a0 : Int) (a1 : Int) (a2 : List UInt8) : Option Int :=
 some a0
theorem H7 {a0 : Int} {a1 : Int} {a2 : List UInt8} {r : Int} (h : Bs a0 a1 a2 = some r) : G3 Tryz.prog 108 [.box [.fn 112 [] [.lp 1 0, .lp 2 0], Ii6 a0], .box [Ii6 a1], .box [.sl a2.length (a2.flatMap eU8)]] [.one (.lp 0 0)] (fun y m' => y = .s (.one (Ii6 r)) ∧ m' = [.box [.fn 112 [] [.lp 1 0, .lp 2 0], Ii6 a0], .box [Ii6 a1], .box [.sl a2.length (a2.flatMap eU8)]]) := by
 unfold Bs at h
 refine Cv Tryz.func108 rfl (nt := 9) rfl (Nbl rfl) ?_
 intro w0 S0 X0 H0
 refine Aq (Ab (sv rfl (Ak rfl) (Ar (Aq (Aq (Ab (sv rfl (Ag rfl) (sv rfl (Ux Tryz.underlying176 rfl) (Ar (Hq rfl (fun hx => Bool.noConfusion hx) (fun _ => ?_)))))))))))
 refine Bl (Ah (Aq (Ab (sv rfl (Ag rfl) ?_))))
 refine sv rfl (Mf rfl rfl (fun _ _ _ h => by cases h)) ?_
 refine sv rfl (Aa Abe rfl) (sv rfl (Ae Aba rfl (.lp _ _ _ rfl) rfl) (sv rfl (Ak rfl) (Ar (Bk ?_))))
 obtain rfl := SJ h
 exact ⟨Or.inr rfl, _, [0, 1, 2], [.one (Ii6 a0)], [.box [.fn 112 [] [.lp 1 0, .lp 2 0], Ii6 a0], .box [Ii6 a1], .box [.sl a2.length (a2.flatMap eU8)]], (Ad (Bd.tmp _ _ rfl) Af), rfl, rfl, ⟨by decide, rfl⟩, rfl, rfl, ⟨rfl, rfl⟩⟩
def Bx (a0 : Int) (a1 : Int) (a2 : Int) (a3 : List UInt8) : Option Int :=
 if (decide (a1 = 0)) then (some a0) else (some a1)
theorem Dw {a0 : Int} {a1 : Int} {a2 : Int} {a3 : List UInt8} {r : Int} (h : Bx a0 a1 a2 a3 = some r) : G3 Tryz.prog 94 [.box [.fn 112 [] [.lp 1 0, .lp 2 0], Ii6 a1], .box [Ii6 a2], .box [.sl a3.length (a3.flatMap eU8)]] [.one (.lp 0 0), .one (Ii6 a0)] (fun y m' => y = .tup [] ∧ m' = [.box [.fn 112 [] [.lp 1 0, .lp 2 0], Ii6 r], .box [Ii6 a2], .box [.sl a3.length (a3.flatMap eU8)]]) := by
 unfold Bx at h
 refine Cv Tryz.func94 rfl (nt := 17) rfl (Nbl rfl) ?_
 intro w0 S0 X0 H0
 refine Aq (Ab (sv rfl (Ag rfl) (sv rfl (Aat Tryz.underlying176 rfl) (sv rfl (Ag rfl) (son rfl rfl rfl (sv rfl (Ag rfl) (son rfl rfl rfl ?_)))))))
 refine sv rfl (Mf rfl rfl (fun _ _ _ h => by cases h)) ?_
 refine son rfl rfl rfl (sv rfl (Aa Abe rfl) (son rfl rfl rfl (sv rfl (Ae Aba rfl (.lp _ _ _ rfl) rfl) (son rfl rfl rfl (sv rfl (Br rfl rfl) (sv rfl (Av rfl rfl) (Ar (ccI h rfl (fun h => ?_) (fun h => ?_)))))))))
 ·refine Ab (sv rfl (Ag rfl) (sv rfl (Ag rfl) ?_))
  refine sv rfl (Mf rfl rfl (fun _ _ _ h => by cases h)) ?_
  refine sv rfl (Aa Abe rfl) (Ax At0 rfl rfl rfl rfl (Nbl rfl) (Bu [.box [.fn 112 [] [.lp 1 0, .lp 2 0], Ii6 a0], .box [Ii6 a2], .box [.sl a3.length (a3.flatMap eU8)]] rfl (Lz ?_)))
  obtain rfl := SJ h
  exact ⟨Or.inl rfl, _, [0, 1, 2], [], [.box [.fn 112 [] [.lp 1 0, .lp 2 0], Ii6 a0], .box [Ii6 a2], .box [.sl a3.length (a3.flatMap eU8)]], Af, rfl, rfl, ⟨by decide, rfl⟩, rfl, rfl, ⟨rfl, rfl⟩⟩
 ·refine Bl ?_
  obtain rfl := SJ h
  exact ⟨Or.inl rfl, _, [0, 1, 2], [], [.box [.fn 112 [] [.lp 1 0, .lp 2 0], Ii6 a1], .box [Ii6 a2], .box [.sl a3.length (a3.flatMap eU8)]], Af, rfl, rfl, ⟨by decide, rfl⟩, rfl, rfl, ⟨rfl, rfl⟩⟩
def Fu (a0 : Int) (a1 : Int) (a2 : List UInt8) : Option (Int × (List UInt8) × Int) :=
 (cut a2 (wI (a1 + a0)) (a2.length : Int)).bind fun c1 => some ((wI (a1 + a0)), c1, (wI (a1 + a0)))
theorem Pb {a0 : Int} {a1 : Int} {a2 : List UInt8} {r : Int × (List UInt8) × Int} (h : Fu a0 a1 a2 = some r) : G3 Tryz.prog 112 [.box [Ii6 a1], .box [.sl a2.length (a2.flatMap eU8)]] [.one (Ii6 a0), .one (.lp 0 0), .one (.lp 1 0)] (fun y m' => y = .tup [.one (Ii6 r.1), .one (.sl r.2.1.length (r.2.1.flatMap eU8))] ∧ m' = [.box [Ii6 r.2.2], .box [.sl a2.length (a2.flatMap eU8)]]) := by
 unfold Fu at h
 refine Cv Tryz.func112 rfl (nt := 13) rfl (Nbl rfl) ?_
 intro w0 S0 X0 H0
 refine Aq (Ab (sv rfl (Ak rfl) (sv rfl (Ak rfl) (Ar (Aq (Ab (sv rfl (Ae ti3 rfl (.lp _ _ _ rfl) rfl) (sv rfl (Ag rfl) (sv rfl (B0 rfl rfl) (Ax sz3 rfl rfl rfl rfl (Nbl rfl) (Bu [.box [Ii6 (wI (a1 + a0))], .box [.sl a2.length (a2.flatMap eU8)]] rfl (Ar (Aq ?_)))))))))))))
 refine Adx Lm (by kernel_rfl) ?_
 refine dv rfl (Ae ti3 rfl (.lp _ _ _ rfl) rfl) (dv rfl (Ae L5 rfl (.lp _ _ _ rfl) rfl) (dv rfl (Ae ti3 rfl (.lp _ _ _ rfl) rfl) ?_))
 obtain ⟨c1, hc1, h⟩ := Am h
 refine dv rfl (Ss (f := eU8) (lo := (wI (a1 + a0))) (hi := (a2.length : Int)) Li (fun _ => rfl) rfl rfl rfl (Hm rfl (Kq hc1).1.1) (by exact rfl) hc1) ?_
 refine dv rfl (Ak rfl) (dv rfl (Ak rfl) (Zw (Ah (Bk ?_))))
 obtain rfl := SJ h
 exact ⟨Or.inr rfl, _, [0, 1], [.one (Ii6 (wI (a1 + a0))), .one (.sl c1.length (c1.flatMap eU8))], [.box [Ii6 (wI (a1 + a0))], .box [.sl a2.length (a2.flatMap eU8)]], (Ad (Bd.tmp _ _ rfl) (Ad (Bd.tmp _ _ rfl) Af)), rfl, rfl, ⟨by decide, rfl⟩, rfl, rfl, ⟨rfl, rfl⟩⟩
def E2 (a1 : Int) (a2 : List UInt8) (b1 : Unit) : Option (Int × (List UInt8) × Int) :=
 (Fu 0 a1 a2).bind fun v2 => some (v2.1, v2.2.1, v2.2.2)
def Dr (a0 : Int) (a1 : Int) (a2 : List UInt8) : Option (Int × (List UInt8) × Int) :=
 E2 a1 a2 ()
theorem Mg {a0 : Int} {a1 : Int} {a2 : List UInt8} {r : Int × (List UInt8) × Int} (h : Dr a0 a1 a2 = some r) : G3 Tryz.prog 114 [.box [.fn 112 [] [.lp 1 0, .lp 2 0], Ii6 a0], .box [Ii6 a1], .box [.sl a2.length (a2.flatMap eU8)]] [.one (.lp 0 0)] (fun y m' => y = .tup [.one (Ii6 r.1), .one (.sl r.2.1.length (r.2.1.flatMap eU8))] ∧ m' = [.box [.fn 112 [] [.lp 1 0, .lp 2 0], Ii6 a0], .box [Ii6 r.2.2], .box [.sl a2.length (a2.flatMap eU8)]]) := by
 unfold Dr at h
 refine Cv Tryz.func114 rfl (nt := 20) rfl (Nbl rfl) ?_
 intro w0 S0 X0 H0
 refine Aq (Ab (sv rfl (Ak rfl) (sv rfl (Ak rfl) (Ar (Aq (Aq (Lh (Unit) (fun b1 => [(0, .s (.one (.lp 0 0)))]) (fun b1 => [.box [.fn 112 [] [.lp 1 0, .lp 2 0], Ii6 a0], .box [Ii6 a1], .box [.sl a2.length (a2.flatMap eU8)]]) (fun b1 => E2 a1 a2 b1 = some r) (fun _ _ => Be rfl) (fun _ _ => Az rfl) (fun _ _ => Nbl rfl) (fun b1 h => ?_) ?_)))))))
 ·unfold E2 at h
  refine Aq (Ab (sv rfl (Ag rfl) ?_))
  refine sv rfl (Mf rfl rfl (fun _ _ _ h => by cases h)) ?_
  refine sv rfl (Aa Ab5 rfl) (sv rfl (Ae Amh rfl (.lp _ _ _ rfl) rfl) ?_)
  obtain ⟨v2, hv2, h⟩ := Am h
  refine C3 (x' := .tup [.one (Ii6 v2.1), .one (.sl v2.2.1.length (v2.2.1.flatMap eU8))]) (M' := [.box [.fn 112 [] [.lp 1 0, .lp 2 0], Ii6 a0], .box [Ii6 v2.2.2], .box [.sl a2.length (a2.flatMap eU8)]]) [1, 2] rfl Ao9 (.fn _ _ _ _ rfl) (Ac rfl Al) (Pb hv2) rfl rfl (by decide) rfl rfl rfl ?_
  refine sv rfl (Bb rfl rfl) (sv rfl (Bb rfl rfl) (sv rfl (Ak rfl) (sv rfl (Ak rfl) (Ar (Bk ?_)))))
  obtain rfl := SJ h
  exact ⟨Or.inr rfl, _, [0, 1, 2], [.one (Ii6 v2.1), .one (.sl v2.2.1.length (v2.2.1.flatMap eU8))], [.box [.fn 112 [] [.lp 1 0, .lp 2 0], Ii6 a0], .box [Ii6 v2.2.2], .box [.sl a2.length (a2.flatMap eU8)]], (Ad (Bd.tmp _ _ rfl) (Ad (Bd.tmp _ _ rfl) Af)), rfl, rfl, ⟨by decide, rfl⟩, rfl, rfl, ⟨rfl, rfl⟩⟩
 ·skip
  refine Ab (sv rfl (Ag rfl) (sv rfl (Ux Tryz.underlying176 rfl) (sv rfl (Ag rfl) (son rfl rfl rfl (sv rfl (Ag rfl) (son rfl rfl rfl ?_))))))
  refine sv rfl (Mf rfl rfl (fun _ _ _ h => by cases h)) ?_
  refine son rfl rfl rfl (sv rfl (Aa Ab5 rfl) (son rfl rfl rfl (sv rfl (Ae Amh rfl (.lp _ _ _ rfl) rfl) (son rfl rfl rfl (sv rfl (Z1 Tryz.underlying191 rfl rfl) (sv rfl (An rfl rfl) (Ar (Hq rfl (fun hx => Bool.noConfusion hx) (fun _ => ?_)))))))))
  refine Bl (Ah ?_)
  exact ⟨(), _, h, ⟨rfl, trivial⟩, rfl⟩
def C7 (a0 : Int) (a1 : Int) (v1 : Int × (List UInt8) × Int) (b3 : Int) : Option ((List UInt8) × Int × Int) :=
 (cut v1.2.1 0 a0).bind fun c4 => some (c4, a1, b3)
def Cn (a0 : Int) (a1 : Int) (a2 : Int) (a3 : List UInt8) : Option ((List UInt8) × Int × Int) :=
 (Dr a1 a2 a3).bind fun v1 => if (decide ((v1.2.1.length : Int) < a0)) then ((Bx 2 a1 v1.2.2 a3).bind fun v2 => some (([] : List UInt8), v2, v1.2.2)) else (if (decide (0 < a0)) then ((Fu a0 v1.2.2 a3).bind fun v5 => C7 a0 a1 v1 v5.2.2) else (C7 a0 a1 v1 v1.2.2))
theorem Mm {a0 : Int} {a1 : Int} {a2 : Int} {a3 : List UInt8} {r : (List UInt8) × Int × Int} (h : Cn a0 a1 a2 a3 = some r) : G3 Tryz.prog 113 [.box [.fn 112 [] [.lp 1 0, .lp 2 0], Ii6 a1], .box [Ii6 a2], .box [.sl a3.length (a3.flatMap eU8)]] [.one (.lp 0 0), .one (Ii6 a0)] (fun y m' => y = .s (.one (.sl r.1.length (r.1.flatMap eU8))) ∧ m' = [.box [.fn 112 [] [.lp 1 0, .lp 2 0], Ii6 r.2.1], .box [Ii6 r.2.2], .box [.sl a3.length (a3.flatMap eU8)]]) := by
 unfold Cn at h
 refine Cv Tryz.func113 rfl (nt := 29) rfl (Nbl rfl) ?_
 intro w0 S0 X0 H0
 refine Aq (Ab (sv rfl (Ak rfl) (Ar (Aq (Ab (sv rfl (Ag rfl) ?_))))))
 obtain ⟨v1, hv1, h⟩ := Am h
 refine C3 (x' := .tup [.one (Ii6 v1.1), .one (.sl v1.2.1.length (v1.2.1.flatMap eU8))]) (M' := [.box [.fn 112 [] [.lp 1 0, .lp 2 0], Ii6 a1], .box [Ii6 v1.2.2], .box [.sl a3.length (a3.flatMap eU8)]]) [0, 1, 2] rfl Apy (.func _) (Ac rfl Al) (Mg hv1) rfl rfl (by decide) rfl rfl rfl ?_
 refine sv rfl (Gn rfl) (sv rfl (Bb rfl rfl) (sv rfl (Bb rfl rfl) (sv rfl (Ak rfl) (sv rfl (Ak rfl) (Ar (Aq (Aq (Ab (sv rfl (Ag rfl) (sv rfl (A0 Li rfl) (sv rfl (Ag rfl) (sv rfl (Cm rfl rfl) (Ar (ccI h rfl (fun h => ?_) (fun h => ?_)))))))))))))))
 ·refine Aq (Ab (sv rfl (Ag rfl) ?_))
  obtain ⟨v2, hv2, h⟩ := Am h
  refine C3 (x' := .tup []) (M' := [.box [.fn 112 [] [.lp 1 0, .lp 2 0], Ii6 v2], .box [Ii6 v1.2.2], .box [.sl a3.length (a3.flatMap eU8)]]) [0, 1, 2] rfl Ans (.func _) (Ac rfl (Ac rfl Al)) (Dw hv2) rfl rfl (by decide) rfl rfl rfl ?_
  refine Ar (Aq (Ab (sv rfl (Ak rfl) (Ar ?_))))
  refine An4 4 rfl (by (repeat' first | exact Kb.nil _ | apply Kb.cons | apply J4.one | apply J4.agg | exact E8.nil | exact E8.id _ rfl | exact D2.nil _ | apply D2.cons)) ?_
  refine Bk (Au ?_)
  obtain rfl := SJ h
  exact ⟨Or.inr rfl, _, [0, 1, 2], [.one (.sl ([] : List UInt8).length (([] : List UInt8).flatMap eU8))], [.box [.fn 112 [] [.lp 1 0, .lp 2 0], Ii6 v2], .box [Ii6 v1.2.2], .box [.sl a3.length (a3.flatMap eU8)]], (Ad (Bd.tmp _ _ rfl) Af), rfl, rfl, ⟨by decide, rfl⟩, rfl, rfl, ⟨rfl, rfl⟩⟩
 ·refine Bl (Ah (Aq (Aq (Ab (sv rfl (Ag rfl) (sv rfl (Di rfl rfl) (Ar (G6 (Int) (fun b3 => [(1, .s (.one (Ii6 a0))), (6, .s (.one (.sl v1.2.1.length (v1.2.1.flatMap eU8))))]) (fun b3 => [.box [.fn 112 [] [.lp 1 0, .lp 2 0], Ii6 a1], .box [Ii6 b3], .box [.sl a3.length (a3.flatMap eU8)]]) (fun b3 => C7 a0 a1 v1 b3 = some r) (fun _ _ => Be rfl) (fun _ _ => Az rfl) (fun _ _ => Nbl rfl) (fun b3 h => ?_) ?_))))))))
  ·unfold C7 at h
   refine Aq (Ab (sv rfl (Ag rfl) (sv rfl (Ag rfl) ?_)))
   obtain ⟨c4, hc4, h⟩ := Am h
   refine sv rfl (Ss (f := eU8) (lo := 0) (hi := a0) Li (fun _ => rfl) rfl rfl rfl Rp (Hm rfl (Int.le_trans (Kq hc4).1.1 (Kq hc4).1.2.1)) hc4) ?_
   refine sv rfl (Ak rfl) (Ar (Bk ?_))
   obtain rfl := SJ h
   exact ⟨Or.inr rfl, _, [0, 1, 2], [.one (.sl c4.length (c4.flatMap eU8))], [.box [.fn 112 [] [.lp 1 0, .lp 2 0], Ii6 a1], .box [Ii6 b3], .box [.sl a3.length (a3.flatMap eU8)]], (Ad (Bd.tmp _ _ rfl) Af), rfl, rfl, ⟨by decide, rfl⟩, rfl, rfl, ⟨rfl, rfl⟩⟩
  ·skip
   refine ccI h rfl (fun h => ?_) (fun h => ?_)
   ·refine Ab (sv rfl (Ag rfl) ?_)
    refine sv rfl (Mf rfl rfl (fun _ _ _ h => by cases h)) ?_
    refine sv rfl (Aa Ab5 rfl) (sv rfl (Ae Amh rfl (.lp _ _ _ rfl) rfl) (sv rfl (Ag rfl) ?_))
    obtain ⟨v5, hv5, h⟩ := Am h
    refine C3 (x' := .tup [.one (Ii6 v5.1), .one (.sl v5.2.1.length (v5.2.1.flatMap eU8))]) (M' := [.box [.fn 112 [] [.lp 1 0, .lp 2 0], Ii6 a1], .box [Ii6 v5.2.2], .box [.sl a3.length (a3.flatMap eU8)]]) [1, 2] rfl Ao9 (.fn _ _ _ _ rfl) (Ac rfl Al) (Pb hv5) rfl rfl (by decide) rfl rfl rfl ?_
    refine Ar ?_
    exact ⟨v5.2.2, _, h, ⟨rfl, rfl, trivial⟩, rfl⟩
   ·refine Bl (Ah ?_)
    exact ⟨v1.2.2, _, h, ⟨rfl, rfl, trivial⟩, rfl⟩
def Lv (v3 : (List UInt8) × Int × Int) (b4 : (BitVec 64)) : Option ((BitVec 64) × Int × Int) :=
 some (b4, v3.2.1, v3.2.2)
def Ek (v3 : (List UInt8) × Int × Int) (s5 : (BitVec 64) × Int) : Option (LB ((BitVec 64) × Int) ((BitVec 64))) :=
 if (decide (s5.2 < (v3.1.length : Int))) then ((idx v3.1 s5.2).bind fun u6 => if 0 ≤ (wI (8 * s5.2)) then (some (.cont ((s5.1 ||| ((u6.toBitVec.setWidth 64) <<< (wI (8 * s5.2)).toNat)), (wI (s5.2 + 1))))) else none) else (some (.brk s5.1))
def Dq (a0 : Int) (a1 : Int) (a2 : Int) (a3 : List UInt8) (b2 : Unit) : Option ((BitVec 64) × Int × Int) :=
 (Cn a0 a1 a2 a3).bind fun v3 => (Ej (Ek v3) fuel (0#64, 0)).bind fun e8 => Lv v3 e8
def A4 (a0 : Int) (a1 : Int) (a2 : Int) (a3 : List UInt8) : Option ((BitVec 64) × Int × Int) :=
 (Bs a1 a2 a3).bind fun v1 => if (!decide (v1 = 0)) then (some (0#64, a1, a2)) else (if (decide (a0 < 1)) then ((Bx 1 a1 a2 a3).bind fun v9 => some (0#64, v9, a2)) else (if (decide (8 < a0)) then ((Bx 1 a1 a2 a3).bind fun v10 => some (0#64, v10, a2)) else (Dq a0 a1 a2 a3 ())))
theorem Cx {a0 : Int} {a1 : Int} {a2 : Int} {a3 : List UInt8} {r : (BitVec 64) × Int × Int} (h : A4 a0 a1 a2 a3 = some r) : G3 Tryz.prog 93 [.box [.fn 112 [] [.lp 1 0, .lp 2 0], Ii6 a1], .box [Ii6 a2], .box [.sl a3.length (a3.flatMap eU8)]] [.one (.lp 0 0), .one (Ii6 a0)] (fun y m' => y = .s (.one (.i .u64 (r.1.toNat : Int))) ∧ m' = [.box [.fn 112 [] [.lp 1 0, .lp 2 0], Ii6 r.2.1], .box [Ii6 r.2.2], .box [.sl a3.length (a3.flatMap eU8)]]) := by
 unfold A4 at h
 refine Cv Tryz.func93 rfl (nt := 37) rfl (Nbl rfl) ?_
 intro w0 S0 X0 H0
 refine Aq (Ab (sv rfl (Ak rfl) (Ar (Aq (Aq (Ab (sv rfl (Ag rfl) ?_)))))))
 obtain ⟨v1, hv1, h⟩ := Am h
 refine C3 (x' := .s (.one (Ii6 v1))) (M' := [.box [.fn 112 [] [.lp 1 0, .lp 2 0], Ii6 a1], .box [Ii6 a2], .box [.sl a3.length (a3.flatMap eU8)]]) [0, 1, 2] rfl Ajp (.func _) (Ac rfl Al) (H7 hv1) rfl rfl (by decide) rfl rfl rfl ?_
 refine sv rfl (Ce rfl rfl) (Ar (ccI h rfl (fun h => ?_) (fun h => ?_)))
 ·refine Aq (Ab (sv rfl (Ak rfl) (Ar (Bk (Au ?_)))))
  obtain rfl := SJ h
  exact ⟨Or.inr rfl, _, [0, 1, 2], [.one (.i .u64 ((0#64).toNat : Int))], [.box [.fn 112 [] [.lp 1 0, .lp 2 0], Ii6 a1], .box [Ii6 a2], .box [.sl a3.length (a3.flatMap eU8)]], (Ad (Bd.tmp _ _ rfl) Af), rfl, rfl, ⟨by decide, rfl⟩, rfl, rfl, ⟨rfl, rfl⟩⟩
 ·refine Bl (Ah (Aq (Aq (Lh (Unit) (fun b2 => [(0, .s (.one (.lp 0 0))), (1, .s (.one (Ii6 a0)))]) (fun b2 => [.box [.fn 112 [] [.lp 1 0, .lp 2 0], Ii6 a1], .box [Ii6 a2], .box [.sl a3.length (a3.flatMap eU8)]]) (fun b2 => Dq a0 a1 a2 a3 b2 = some r) (fun _ _ => Be rfl) (fun _ _ => Az rfl) (fun _ _ => Nbl rfl) (fun b2 h => ?_) ?_))))
  ·unfold Dq at h
   refine Aq (Ab (sv rfl (Ak rfl) (Ar (Aq (Aq (Ab (sv rfl (Ag rfl) (sv rfl (Ag rfl) ?_))))))))
   obtain ⟨v3, hv3, h⟩ := Am h
   refine C3 (x' := .s (.one (.sl v3.1.length (v3.1.flatMap eU8)))) (M' := [.box [.fn 112 [] [.lp 1 0, .lp 2 0], Ii6 v3.2.1], .box [Ii6 v3.2.2], .box [.sl a3.length (a3.flatMap eU8)]]) [0, 1, 2] rfl Aqc (.func _) (Ac rfl (Ac rfl Al)) (Mm hv3) rfl rfl (by decide) rfl rfl rfl ?_
   refine sv rfl (A0 Li rfl) (sv rfl (Ag rfl) (Ar (G6 ((BitVec 64)) (fun b4 => [(5, .s (.one (.i .u64 (b4.toNat : Int))))]) (fun b4 => [.box [.fn 112 [] [.lp 1 0, .lp 2 0], Ii6 v3.2.1], .box [Ii6 v3.2.2], .box [.sl a3.length (a3.flatMap eU8)]]) (fun b4 => Lv v3 b4 = some r) (fun _ _ => Be rfl) (fun _ _ => Az rfl) (fun _ _ => Nbl rfl) (fun b4 h => ?_) ?_)))
   ·unfold Lv at h
    refine Aq (Ab (sv rfl (Ag rfl) (sv rfl (Ak rfl) (Ar (Bk ?_)))))
    obtain rfl := SJ h
    exact ⟨Or.inr rfl, _, [0, 1, 2], [.one (.i .u64 (b4.toNat : Int))], [.box [.fn 112 [] [.lp 1 0, .lp 2 0], Ii6 v3.2.1], .box [Ii6 v3.2.2], .box [.sl a3.length (a3.flatMap eU8)]], (Ad (Bd.tmp _ _ rfl) Af), rfl, rfl, ⟨by decide, rfl⟩, rfl, rfl, ⟨rfl, rfl⟩⟩
   ·skip
    refine B4 ?_
    obtain ⟨x5, hx5, ho5⟩ := Am h
    refine C2 (G := Nat × ((BitVec 64) × Int)) (fun g => [(5, .s (.one (.i .u64 (g.2.1.toNat : Int)))), (21, .s (.one (.sl v3.1.length (v3.1.flatMap eU8)))), (22, .s (.one (Ii6 (v3.1.length : Int)))), (23, .s (.one (Ii6 g.2.2)))]) (fun g => [.box [.fn 112 [] [.lp 1 0, .lp 2 0], Ii6 v3.2.1], .box [Ii6 v3.2.2], .box [.sl a3.length (a3.flatMap eU8)]]) (fun g => Ej (Ek v3) g.1 g.2 = some x5) (fun g => g.1) (fuel, (0#64, 0)) hx5 ⟨rfl, rfl, rfl, rfl, trivial⟩ [] rfl (fun _ _ => Be rfl) (fun _ _ => Az rfl) (fun _ _ => Nbl rfl) ?_
    clear hx5 h
    rintro ⟨n5, s5⟩ h
    obtain ⟨n5, y5, rfl, h, hk5⟩ := F5 h
    unfold Ek at h
    refine Aq (Ab (sv rfl (Cm rfl rfl) (Ar (Aq (ccI h rfl (fun h => ?_) (fun h => ?_))))))
    ·refine Bl (Ah (Aq (B4 (Aq (Ab (sv rfl (Ag rfl) ?_))))))
     obtain ⟨u6, hu6, h⟩ := Am h
     refine sv rfl (Dp (f := eU8) Li (fun _ => rfl) rfl rfl rfl rfl hu6) ?_
     refine sv rfl (Ae ti5 rfl (.cp _) rfl) (sv rfl (Ak rfl) (sv rfl (Ak rfl) (Ar (Ab (sv rfl (Ag rfl) (sv rfl (Ag rfl) (sv rfl (Om (k := .u8) (a := u6.toBitVec) rfl Tryz.underlying5 Tryz.underlying112 rfl rfl) (sv rfl (Ag rfl) (sv rfl (Yn rfl rfl) ?_)))))))))
     obtain ⟨hz7, h⟩ := D9 h
     refine sv rfl (Acr (a := (u6.toBitVec.setWidth 64)) rfl rfl rfl hz7) (sv rfl (Aes (a := s5.1) (b := ((u6.toBitVec.setWidth 64) <<< (wI (8 * s5.2)).toNat)) rfl rfl rfl rfl) (sv rfl (Ak rfl) (Lz (A1 (Ah (Ab (sv rfl (B0 rfl rfl) (sv rfl (Ag rfl) (Ar ?_)))))))))
     obtain rfl := SJ h
     exact ⟨(n5, ((s5.1 ||| ((u6.toBitVec.setWidth 64) <<< (wI (8 * s5.2)).toNat)), (wI (s5.2 + 1)))), _, hk5, ⟨rfl, rfl, rfl, rfl, trivial⟩, rfl, Nat.lt_succ_self _⟩
    ·refine Kn (Bh (Bh (Cd (Ah ?_))))
     obtain rfl := SJ h
     obtain rfl : _ = x5 := hk5
     exact ⟨s5.1, _, ho5, ⟨rfl, trivial⟩, rfl⟩
  ·skip
   refine Ab (sv rfl (Ag rfl) (sv rfl (Cm rfl rfl) (sv rfl (Ag rfl) (Bq 13 rfl (fun hc => ?_) (fun hc => ?_)))))
   ·replace h := B2 hc h
    clear hc
    refine Aw rfl rfl rfl rfl (Aw rfl rfl rfl rfl (sv rfl (Av rfl rfl) (Ar (Hq rfl (fun _ => ?_) (fun hx => Bool.noConfusion hx)))))
    refine Aq (Ab (sv rfl (Ag rfl) ?_))
    obtain ⟨v9, hv9, h⟩ := Am h
    refine C3 (x' := .tup []) (M' := [.box [.fn 112 [] [.lp 1 0, .lp 2 0], Ii6 v9], .box [Ii6 a2], .box [.sl a3.length (a3.flatMap eU8)]]) [0, 1, 2] rfl Ans (.func _) (Ac rfl (Ac rfl Al)) (Dw hv9) rfl rfl (by decide) rfl rfl rfl ?_
    refine Ar (Aq (Ab (sv rfl (Ak rfl) (Ar (Bk (Au ?_))))))
    obtain rfl := SJ h
    exact ⟨Or.inr rfl, _, [0, 1, 2], [.one (.i .u64 ((0#64).toNat : Int))], [.box [.fn 112 [] [.lp 1 0, .lp 2 0], Ii6 v9], .box [Ii6 a2], .box [.sl a3.length (a3.flatMap eU8)]], (Ad (Bd.tmp _ _ rfl) Af), rfl, rfl, ⟨by decide, rfl⟩, rfl, rfl, ⟨rfl, rfl⟩⟩
   ·replace h := B3 hc h
    clear hc
    refine son rfl rfl rfl (sv rfl (Ag rfl) (son rfl rfl rfl (sv rfl (Di rfl rfl) (sv rfl (An rfl rfl) (Ar (ccI h rfl (fun h => ?_) (fun h => ?_)))))))
    ·refine Aq (Ab (sv rfl (Ag rfl) ?_))
     obtain ⟨v10, hv10, h⟩ := Am h
     refine C3 (x' := .tup []) (M' := [.box [.fn 112 [] [.lp 1 0, .lp 2 0], Ii6 v10], .box [Ii6 a2], .box [.sl a3.length (a3.flatMap eU8)]]) [0, 1, 2] rfl Ans (.func _) (Ac rfl (Ac rfl Al)) (Dw hv10) rfl rfl (by decide) rfl rfl rfl ?_
     refine Ar (Aq (Ab (sv rfl (Ak rfl) (Ar (Bk (Au ?_))))))
     obtain rfl := SJ h
     exact ⟨Or.inr rfl, _, [0, 1, 2], [.one (.i .u64 ((0#64).toNat : Int))], [.box [.fn 112 [] [.lp 1 0, .lp 2 0], Ii6 v10], .box [Ii6 a2], .box [.sl a3.length (a3.flatMap eU8)]], (Ad (Bd.tmp _ _ rfl) Af), rfl, rfl, ⟨by decide, rfl⟩, rfl, rfl, ⟨rfl, rfl⟩⟩
    ·refine Bl (Ah ?_)
     exact ⟨(), _, h, ⟨rfl, rfl, trivial⟩, rfl⟩
def Jo (a0 : Int) (b1 : Unit) : Option (List UInt8) :=
 if (decide (0 < (wI (a0 - (wI (0 - 0)))))) then (if 0 < (wI (a0 - (wI (0 - 0)))) ∧ (wI (a0 - (wI (0 - 0)))) * ((1 : Nat) : Int) ≤ 281474976710656 then (if (0 : Int) ≤ 0 ∧ 0 ≤ ((List.replicate (wI (a0 - (wI (0 - 0)))).toNat (0 : UInt8)).length : Int) then (some ((List.replicate (wI (a0 - (wI (0 - 0)))).toNat (0 : UInt8)).take (0 : Int).toNat)) else none) else none) else (some ([] : List UInt8))
def J2 (a0 : Int) : Option (List UInt8) :=
 if (decide (a0 < 0)) then none else (Jo a0 ())
theorem Tp {a0 : Int} {r : (List UInt8)} (h : J2 a0 = some r) : G3 Tryz.prog 75 [] [.one (Znl), .one (Ii6 a0)] (fun y m' => y = .s (.one (.ls 0 r.length)) ∧ m' = [.arr 5 1 0 (r.flatMap eU8)]) := by
 unfold J2 at h
 refine Cv Tryz.func75 rfl (nt := 27) rfl (Nbl rfl) ?_
 intro w0 S0 X0 H0
 refine Aq (Ab (sv rfl (Ak rfl) (Ar (Aq (Aq (Ab (sv rfl (Ag rfl) (sv rfl (Cm rfl rfl) (Ar (G6 (Unit) (fun b1 => [(0, .s (.one (Znl))), (1, .s (.one (Ii6 a0)))]) (fun b1 => []) (fun b1 => Jo a0 b1 = some r) (fun _ _ => Be rfl) (fun _ _ => Az rfl) (fun _ _ => Nbl rfl) (fun b1 h => ?_) ?_))))))))))
 ·unfold Jo at h
  refine Aq (Aq (Ab (sv rfl (Ag rfl) (sv rfl (Ag rfl) (sv rfl (Kt Li rfl) (sv rfl (Ag rfl) (sv rfl (Ks Li rfl) (sv rfl (M1 rfl rfl) (sv rfl (M1 rfl rfl) (sv rfl (Ak rfl) (Ar (Aq (Ab (sv rfl (Ag rfl) (sv rfl (Di rfl rfl) (Ar (ccI h rfl (fun h => ?_) (fun h => ?_))))))))))))))))))
  ·refine Ab (sv rfl (Ag rfl) (sv rfl (Ag rfl) (sv rfl (Kt Li rfl) (sv rfl (N2 Li rfl rfl) (sv rfl (Ag rfl) ?_)))))
   obtain ⟨hm2, h⟩ := D9 h
   refine Al4 (f := eU8) (z := (0 : UInt8)) rfl Tryz.underlying33 ei5 Tryz.underlying3 (fun _ => rfl) rfl rfl rfl hm2 (by decide) ?_
   refine sv rfl (Ag rfl) (sv rfl (Ks Li rfl) ?_)
   obtain ⟨hs3, h⟩ := D9 h
   refine Adw (f := eU8) rfl Li (fun _ => rfl) rfl rfl rfl rfl rfl hs3 ?_
   refine sv rfl (Ak rfl) (Ar (Aq (Ab (sv rfl (Ag rfl) (sv rfl (Ak rfl) (Ar (Bk ?_)))))))
   obtain rfl := SJ h
   exact ⟨Or.inr rfl, _, [1], [.one (.ls 0 ((List.replicate (wI (a0 - (wI (0 - 0)))).toNat (0 : UInt8)).take (0 : Int).toNat).length)], [.arr 5 1 0 (((List.replicate (wI (a0 - (wI (0 - 0)))).toNat (0 : UInt8)).take (0 : Int).toNat).flatMap eU8)], (Ad (Bd.tmp _ _ rfl) Af), rfl, rfl, ⟨by decide, rfl⟩, rfl, rfl, ⟨rfl, rfl⟩⟩
  ·refine Bl (Ah (Aq (Ab (sv rfl (Ag rfl) (sv rfl (Ak rfl) (Ar ?_))))))
   refine O2 5 1 4 (by decide) rfl ?_
   refine Bk ?_
   obtain rfl := SJ h
   exact ⟨Or.inr rfl, _, [0], [.one (.ls 0 ([] : List UInt8).length)], [.arr 5 1 0 (([] : List UInt8).flatMap eU8)], (Ad (Bd.tmp _ _ rfl) Af), rfl, rfl, ⟨by decide, rfl⟩, rfl, rfl, ⟨rfl, rfl⟩⟩
 ·skip
  refine ccI h rfl (fun h => ?_) (fun h => ?_)
  ·cases h
  ·refine Bl (Ah ?_)
   exact ⟨(), _, h, ⟨rfl, rfl, trivial⟩, rfl⟩
def Ku (b3 : (List UInt8)) : Option (List UInt8) :=
 some b3
def Fg (a0 : List (List UInt8)) (s4 : Int × (List UInt8)) : Option (LB (Int × (List UInt8)) ((List UInt8))) :=
 if (decide (s4.1 < (a0.length : Int))) then ((idx a0 s4.1).bind fun u5 => if (s4.2.length + u5.length) * 1 ≤ 140737488355328 then (some (.cont ((wI (s4.1 + 1)), (s4.2 ++ u5)))) else none) else (some (.brk s4.2))
def Il (a0 : List (List UInt8)) (b1 : Int) : Option (List UInt8) :=
 (J2 b1).bind fun v2 => (Ej (Fg a0) fuel (0, v2)).bind fun e7 => Ku e7
def Fl (a0 : List (List UInt8)) (s8 : Int × Int) : Option (LB (Int × Int) (Int)) :=
 if (decide (s8.2 < (a0.length : Int))) then ((idx a0 s8.2).bind fun u9 => if (decide ((wI (s8.1 + (u9.length : Int))) < 0)) then none else (some (.cont ((wI (s8.1 + (u9.length : Int))), (wI (s8.2 + 1)))))) else (some (.brk s8.1))
def Eo (a0 : List (List UInt8)) : Option (List UInt8) :=
 (Ej (Fl a0) fuel (0, 0)).bind fun e10 => Il a0 e10
theorem I3 {a0 : List (List UInt8)} {r : (List UInt8)} (h : Eo a0 = some r) : G3 Tryz.prog 44 [] [.one (.sl a0.length (a0.flatMap (eL eU8)))] (fun y m' => y = .s (.one (.ls 0 r.length)) ∧ m' = [.arr 5 1 0 (r.flatMap eU8)]) := by
 unfold Eo at h
 refine Cv Tryz.func44 rfl (nt := 36) rfl (Nbl rfl) ?_
 intro w0 S0 X0 H0
 refine Aq (Ab (sv rfl (Ak rfl) (Ar (Aq (Ab (sv rfl (Ak rfl) (Ar (Aq (Aq (Ab (sv rfl (Ag rfl) (sv rfl (A0 Ady rfl) (sv rfl (Ag rfl) (Ar (G6 (Int) (fun b1 => [(0, .s (.one (.sl a0.length (a0.flatMap (eL eU8))))), (3, .s (.one (Ii6 b1)))]) (fun b1 => []) (fun b1 => Il a0 b1 = some r) (fun _ _ => Be rfl) (fun _ _ => Az rfl) (fun _ _ => Nbl rfl) (fun b1 h => ?_) ?_)))))))))))))))
 ·unfold Il at h
  refine Aq (Ab (sv rfl (Ag rfl) ?_))
  obtain ⟨v2, hv2, h⟩ := Am h
  refine C3 (x' := .s (.one (.ls 0 v2.length))) (M' := [.arr 5 1 0 (v2.flatMap eU8)]) [] rfl Au9 (.func _) (Ac rfl (Ac rfl Al)) (Tp hv2) rfl rfl (by decide) rfl rfl rfl ?_
  refine sv rfl (Ak rfl) (Ar (Aq (Aq (Ab (sv rfl (Ag rfl) (sv rfl (A0 Ady rfl) (sv rfl (Ag rfl) (Ar (G6 ((List UInt8)) (fun b3 => [(6, .s (.one (.ls 0 b3.length)))]) (fun b3 => [.arr 5 1 0 (b3.flatMap eU8)]) (fun b3 => Ku b3 = some r) (fun _ _ => Be rfl) (fun _ _ => Az rfl) (fun _ _ => Nbl rfl) (fun b3 h => ?_) ?_)))))))))
  ·unfold Ku at h
   refine Aq (Ab (sv rfl (Ag rfl) (sv rfl (Ak rfl) (Ar (Bk ?_)))))
   obtain rfl := SJ h
   exact ⟨Or.inr rfl, _, [0], [.one (.ls 0 b3.length)], [.arr 5 1 0 (b3.flatMap eU8)], (Ad (Bd.tmp _ _ rfl) Af), rfl, rfl, ⟨by decide, rfl⟩, rfl, rfl, ⟨rfl, rfl⟩⟩
  ·skip
   refine B4 ?_
   obtain ⟨x4, hx4, ho4⟩ := Am h
   refine C2 (G := Nat × (Int × (List UInt8))) (fun g => [(6, .s (.one (.ls 0 g.2.2.length))), (25, .s (.one (.sl a0.length (a0.flatMap (eL eU8))))), (26, .s (.one (Ii6 (a0.length : Int)))), (27, .s (.one (Ii6 g.2.1)))]) (fun g => [.arr 5 1 0 (g.2.2.flatMap eU8)]) (fun g => Ej (Fg a0) g.1 g.2 = some x4) (fun g => g.1) (fuel, (0, v2)) hx4 ⟨rfl, rfl, rfl, rfl, trivial⟩ [] rfl (fun _ _ => Be rfl) (fun _ _ => Az rfl) (fun _ _ => Nbl rfl) ?_
   clear hx4 h
   rintro ⟨n4, s4⟩ h
   obtain ⟨n4, y4, rfl, h, hk4⟩ := F5 h
   unfold Fg at h
   refine Aq (Ab (sv rfl (Cm rfl rfl) (Ar (Aq (ccI h rfl (fun h => ?_) (fun h => ?_))))))
   ·refine Bl (Ah (Aq (B4 (Aq (Ab ?_)))))
    obtain ⟨u5, hu5, h⟩ := Am h
    refine sv rfl (Dp (f := (eL eU8)) Ady (fun _ => rfl) rfl rfl rfl rfl hu5) ?_
    refine sv rfl (Ae L5 rfl (.cp _) rfl) (sv rfl (Ak rfl) (Ar (Ab (sv rfl (Ag rfl) (sv rfl (Ag rfl) ?_)))))
    obtain ⟨hb6, h⟩ := D9 h
    refine Aif (f := eU8) (xs := s4.2) (us := u5) rfl Tryz.underlying33 ei5 Arw (fun _ => rfl) rfl rfl (.one _ _ _ _ (.id _ rfl)) rfl rfl rfl (.sl _ _ _ (Bg (f := eU8) (fun _ => rfl) _)) rfl rfl hb6 (by decide) ?_
    refine sv rfl (Ak rfl) (Lz (A1 (Ah (Ab (sv rfl (B0 rfl rfl) (sv rfl (Ag rfl) (Ar ?_)))))))
    obtain rfl := SJ h
    exact ⟨(n4, ((wI (s4.1 + 1)), (s4.2 ++ u5))), _, hk4, ⟨rfl, rfl, rfl, rfl, trivial⟩, rfl, Nat.lt_succ_self _⟩
   ·refine Kn (Bh (Bh (Cd (Ah ?_))))
    obtain rfl := SJ h
    obtain rfl : _ = x4 := hk4
    exact ⟨s4.2, _, ho4, ⟨rfl, trivial⟩, rfl⟩
 ·skip
  refine B4 ?_
  obtain ⟨x8, hx8, ho8⟩ := Am h
  refine C2 (G := Nat × (Int × Int)) (fun g => [(0, .s (.one (.sl a0.length (a0.flatMap (eL eU8))))), (3, .s (.one (Ii6 g.2.1))), (9, .s (.one (.sl a0.length (a0.flatMap (eL eU8))))), (10, .s (.one (Ii6 (a0.length : Int)))), (11, .s (.one (Ii6 g.2.2)))]) (fun g => []) (fun g => Ej (Fl a0) g.1 g.2 = some x8) (fun g => g.1) (fuel, (0, 0)) hx8 ⟨rfl, rfl, rfl, rfl, rfl, trivial⟩ [] rfl (fun _ _ => Be rfl) (fun _ _ => Az rfl) (fun _ _ => Nbl rfl) ?_
  clear hx8 h
  rintro ⟨n8, s8⟩ h
  obtain ⟨n8, y8, rfl, h, hk8⟩ := F5 h
  unfold Fl at h
  refine Aq (Ab (sv rfl (Cm rfl rfl) (Ar (Aq (ccI h rfl (fun h => ?_) (fun h => ?_))))))
  ·refine Bl (Ah (Aq (B4 (Aq (Ab ?_)))))
   obtain ⟨u9, hu9, h⟩ := Am h
   refine sv rfl (Dp (f := (eL eU8)) Ady (fun _ => rfl) rfl rfl rfl rfl hu9) ?_
   refine sv rfl (Ae L5 rfl (.cp _) rfl) (sv rfl (Ak rfl) (Ar (Aq (Ab (sv rfl (Ag rfl) (sv rfl (Ag rfl) (sv rfl (A0 Li rfl) (sv rfl (B0 rfl rfl) (sv rfl (Ak rfl) (Ar (Aq (Ab (sv rfl (Ag rfl) (sv rfl (Cm rfl rfl) (Ar (ccI h rfl (fun h => ?_) (fun h => ?_)))))))))))))))))
   ·cases h
   ·refine Bl (A1 (Ah (Ab (sv rfl (B0 rfl rfl) (sv rfl (Ag rfl) (Ar ?_))))))
    obtain rfl := SJ h
    exact ⟨(n8, ((wI (s8.1 + (u9.length : Int))), (wI (s8.2 + 1)))), _, hk8, ⟨rfl, rfl, rfl, rfl, rfl, trivial⟩, rfl, Nat.lt_succ_self _⟩
  ·refine Kn (Bh (Bh (Cd (Ah ?_))))
   obtain rfl := SJ h
   obtain rfl : _ = x8 := hk8
   exact ⟨s8.1, _, ho8, ⟨rfl, rfl, trivial⟩, rfl⟩
def O0 (a0 : List UInt8) (b2 : (List UInt8)) : Option (List UInt8) :=
 (Eo [a0, b2]).bind fun v3 => some v3
def Nj (a1 : BitVec 64) (a2 : Int) (s4 : Int × (List UInt8)) : Option (LB (Int × (List UInt8)) ((List UInt8))) :=
 if (decide (s4.1 < ((List.replicate (if (if 8 < a2 then 8 else a2) > 0 then (if 8 < a2 then 8 else a2) else 0).toNat (0 : UInt8)).length : Int))) then (if 0 ≤ (wI (8 * s4.1)) then ((idx s4.2 s4.1).bind fun u6 => some (.cont ((wI (s4.1 + 1)), (s4.2.set s4.1.toNat (UInt8.ofBitVec ((a1 >>> (wI (8 * s4.1)).toNat).setWidth 8)))))) else none) else (some (.brk s4.2))
def Eg (a0 : List UInt8) (a1 : BitVec 64) (a2 : Int) : Option (List UInt8) :=
 if (0 : Int) ≤ (if (if 8 < a2 then 8 else a2) > 0 then (if 8 < a2 then 8 else a2) else 0) ∧ (if (if 8 < a2 then 8 else a2) > 0 then (if 8 < a2 then 8 else a2) else 0) ≤ (if (if 8 < a2 then 8 else a2) > 0 then (if 8 < a2 then 8 else a2) else 0) ∧ ((1 : Nat) : Int) * (if (if 8 < a2 then 8 else a2) > 0 then (if 8 < a2 then 8 else a2) else 0) ≤ 281474976710656 then ((Ej (Nj a1 a2) fuel (0, (List.replicate (if (if 8 < a2 then 8 else a2) > 0 then (if 8 < a2 then 8 else a2) else 0).toNat (0 : UInt8)))).bind fun e7 => O0 a0 e7) else none
theorem En {a0 : List UInt8} {a1 : BitVec 64} {a2 : Int} {r : (List UInt8)} (h : Eg a0 a1 a2 = some r) : Bp Tryz.prog 40 [.one (.sl a0.length (a0.flatMap eU8)), .one (.i .u64 (a1.toNat : Int)), .one (Ii6 a2)] (· = .s (.one (.sl r.length (r.flatMap eU8)))) := by
 unfold Eg at h
 refine A2 Tryz.func40 rfl (nt := 32) rfl (Nbl rfl) ?_
 intro w0 S0
 refine Aq (Ab (sv rfl (Ak rfl) (Ar (Aq (Ab (sv rfl (Ag rfl) (sv rfl (Tb rfl rfl) (sv rfl (Ag3 rfl rfl) (sv rfl (Ak rfl) (Ar (Aq (Ab (sv rfl (Ag rfl) ?_)))))))))))))
 obtain ⟨hm1, h⟩ := D9 h
 refine smk (f := eU8) (z := (0 : UInt8)) rfl Tryz.underlying33 ei5 (fun _ => rfl) rfl rfl rfl hm1 (by decide) ?_
 refine sv rfl (Ak rfl) (Ar (Aq (Aq (Ab (sv rfl (Ag rfl) (sv rfl (Aeb Li rfl rfl (Bg (f := eU8) (fun _ => rfl) _).symm) ?_))))))
 refine sv rfl (Ag rfl) (Ar (G6 ((List UInt8)) (fun b2 => [(0, .s (.one (.sl a0.length (a0.flatMap eU8)))), (7, .s (.one (.ls 0 b2.length)))]) (fun b2 => [.arr 5 1 0 (b2.flatMap eU8)]) (fun b2 => O0 a0 b2 = some r) (fun _ _ => Be rfl) (fun _ _ => Az rfl) (fun _ _ => Nbl rfl) (fun b2 h => ?_) ?_))
 ·unfold O0 at h
  refine Aq (Ab (sv rfl (Ag rfl) (sv rfl (Ag rfl) ?_)))
  refine Aau 29 rfl (by (repeat' first | exact Kb.nil _ | apply Kb.cons | apply J4.one | apply J4.agg | exact E8.nil | exact E8.ls _ _ _ _ _ _ rfl (Bg (f := eU8) (fun _ => rfl) _).symm | exact E8.id _ rfl | exact D2.nil _ | apply D2.cons)) ?_
  refine Sy (out := ([a0, b2] : List (List UInt8)).flatMap (eL eU8)) rfl Tryz.underlying124 An9 (Ap rfl (Ap rfl Ba)) (.cons _ _ _ _ _ _ _ rfl rfl (Nbl rfl) (.cons _ _ _ _ _ _ _ rfl rfl (Nbl rfl) (.nil _))) rfl (by decide) ?_
  refine Aau 30 rfl (by (repeat' first | exact Kb.nil _ | apply Kb.cons | apply J4.one | apply J4.agg | exact E8.nil | exact E8.ls _ _ _ _ _ _ rfl (Bg (f := (eL eU8)) (fun _ => rfl) ([a0, b2] : List (List UInt8))).symm | exact E8.ls _ _ _ _ _ _ rfl (Bg (f := (eL eU8)) (fun _ => rfl) _).symm | exact E8.ls _ _ _ _ _ _ rfl (Bg (f := eU8) (fun _ => rfl) _).symm | exact E8.id _ rfl | exact D2.nil _ | apply D2.cons)) ?_
  obtain ⟨v3, hv3, h⟩ := Am h
  refine C3 (x' := .s (.one (.ls 2 v3.length))) (M' := [.arr 5 1 (b2.flatMap eU8).length (b2.flatMap eU8), .arr 33 1 ([a0, b2].flatMap (eL eU8)).length ([a0, b2].flatMap (eL eU8)), .arr 5 1 0 (v3.flatMap eU8)]) [] rfl Aqx (.func _) (Ac rfl Al) (I3 hv3) rfl rfl (by decide) rfl rfl rfl ?_
  refine sv rfl (Ak rfl) (Ar (Bk ?_))
  obtain rfl := SJ h
  refine ⟨Or.inr rfl, _, _, _, (Ad (Bd.tmp _ _ rfl) Af), (by (repeat' first | exact Kb.nil _ | apply Kb.cons | apply J4.one | apply J4.agg | exact E8.nil | exact E8.ls _ _ _ _ _ _ rfl (Bg (f := (eL eU8)) (fun _ => rfl) _).symm | exact E8.ls _ _ _ _ _ _ rfl (Bg (f := eU8) (fun _ => rfl) _).symm | exact E8.id _ rfl | exact D2.nil _ | apply D2.cons)), ?_⟩
  rfl
 ·skip
  refine B4 ?_
  obtain ⟨x4, hx4, ho4⟩ := Am h
  refine C2 (G := Nat × (Int × (List UInt8))) (fun g => [(0, .s (.one (.sl a0.length (a0.flatMap eU8)))), (1, .s (.one (.i .u64 (a1.toNat : Int)))), (7, .s (.one (.ls 0 g.2.2.length))), (15, .s (.one (Ii6 ((List.replicate (if (if 8 < a2 then 8 else a2) > 0 then (if 8 < a2 then 8 else a2) else 0).toNat (0 : UInt8)).length : Int)))), (16, .s (.one (Ii6 g.2.1)))]) (fun g => [.arr 5 1 0 (g.2.2.flatMap eU8)]) (fun g => Ej (Nj a1 a2) g.1 g.2 = some x4) (fun g => g.1) (fuel, (0, (List.replicate (if (if 8 < a2 then 8 else a2) > 0 then (if 8 < a2 then 8 else a2) else 0).toNat (0 : UInt8)))) hx4 ⟨rfl, rfl, rfl, rfl, rfl, trivial⟩ [] rfl (fun _ _ => Be rfl) (fun _ _ => Az rfl) (fun _ _ => Nbl rfl) ?_
  clear hx4 h
  rintro ⟨n4, s4⟩ h
  obtain ⟨n4, y4, rfl, h, hk4⟩ := F5 h
  unfold Nj at h
  refine Aq (Ab (sv rfl (Cm rfl rfl) (Ar (Aq (ccI h rfl (fun h => ?_) (fun h => ?_))))))
  ·refine Bl (Ah (Aq (B4 (Aq (Ab (sv rfl (Ag rfl) (sv rfl (Ak rfl) (Ar (Ab (sv rfl (Ag rfl) (sv rfl (Ag rfl) (sv rfl (Ag rfl) (sv rfl (Ag rfl) (sv rfl (Yn rfl rfl) ?_))))))))))))))
   obtain ⟨hz5, h⟩ := D9 h
   refine sv rfl (Wm (a := a1) rfl rfl rfl hz5) (sv rfl (Om (k := .u64) (a := (a1 >>> (wI (8 * s4.1)).toNat)) rfl Tryz.underlying112 Tryz.underlying5 rfl rfl) ?_)
   obtain ⟨u6, hu6, h⟩ := Am h
   refine sv rfl (Ame (f := eU8) Li (fun _ => rfl) rfl rfl rfl rfl rfl hu6) ?_
   refine Arz (f := eU8) (u' := (UInt8.ofBitVec ((a1 >>> (wI (8 * s4.1)).toNat).setWidth 8))) (sz := 1) 0 sz5 (fun _ => rfl) rfl rfl rfl rfl rfl rfl rfl (List.all_eq_true.1 rfl) (Tk hu6).2 (Nbl rfl) rfl ?_
   refine Vm 7 (y := .s (.one (.ls 0 s4.2.length))) (.s (.one (.ls 0 (s4.2.set s4.1.toNat (UInt8.ofBitVec ((a1 >>> (wI (8 * s4.1)).toNat).setWidth 8))).length))) rfl (congrArg (fun n => AV.s (.one (.ls 0 n))) List.length_set.symm) ?_
   refine Vm 19 (y := .s (.one (.ls 0 s4.2.length))) (.s (.one (.ls 0 (s4.2.set s4.1.toNat (UInt8.ofBitVec ((a1 >>> (wI (8 * s4.1)).toNat).setWidth 8))).length))) rfl (congrArg (fun n => AV.s (.one (.ls 0 n))) List.length_set.symm) ?_
   refine Lz (A1 (Ah (Ab (sv rfl (B0 rfl rfl) (sv rfl (Ag rfl) (Ar ?_))))))
   obtain rfl := SJ h
   exact ⟨(n4, ((wI (s4.1 + 1)), (s4.2.set s4.1.toNat (UInt8.ofBitVec ((a1 >>> (wI (8 * s4.1)).toNat).setWidth 8))))), _, hk4, ⟨rfl, rfl, rfl, rfl, rfl, trivial⟩, rfl, Nat.lt_succ_self _⟩
  ·refine Kn (Bh (Bh (Cd (Ah ?_))))
   obtain rfl := SJ h
   obtain rfl : _ = x4 := hk4
   exact ⟨s4.2, _, ho4, ⟨rfl, rfl, trivial⟩, rfl⟩
def Py (a0 : BitVec 32) : Option (BitVec 32) :=
 if (decide (((a0 &&& (1#32)).toNat : Int) = (1 : Int))) then (some ((a0 >>> (1 : Int).toNat) ^^^ (3988292384#32))) else (some (a0 >>> (1 : Int).toNat))
theorem Wg {a0 : BitVec 32} {r : (BitVec 32)} (h : Py a0 = some r) : Bp Tryz.prog 126 [.one (.i .u32 (a0.toNat : Int))] (· = .s (.one (.i .u32 (r.toNat : Int)))) := by
 unfold Py at h
 refine A2 Tryz.func126 rfl (nt := 11) rfl (Nbl rfl) ?_
 intro w0 S0
 refine Aq (Ab (sv rfl (Ak rfl) (Ar (Aq (Aq (Ab (sv rfl (Ag rfl) (sv rfl (Abf (a := a0) (b := 1#32) rfl rfl rfl rfl) (sv rfl (Br rfl rfl) (Ar (ccI h rfl (fun h => ?_) (fun h => ?_))))))))))))
 ·refine Aq (Ab (sv rfl (Ag rfl) ?_))
  refine sv rfl (Te (a := a0) rfl rfl rfl (by decide)) ?_
  refine sv rfl (Wk (a := (a0 >>> (1 : Int).toNat)) (b := 3988292384#32) rfl rfl rfl rfl) (sv rfl (Ak rfl) (Ar (Bk (Au ?_))))
  obtain rfl := SJ h
  refine ⟨Or.inr rfl, _, _, _, (Ad (Bd.tmp _ _ rfl) Af), (Aj rfl), ?_⟩
  rfl
 ·refine Bl (Ah (Aq (Ab (sv rfl (Ag rfl) ?_))))
  refine sv rfl (Te (a := a0) rfl rfl rfl (by decide)) ?_
  refine sv rfl (Ak rfl) (Ar (Bk ?_))
  obtain rfl := SJ h
  refine ⟨Or.inr rfl, _, _, _, (Ad (Bd.tmp _ _ rfl) Af), (Aj rfl), ?_⟩
  rfl
def M4 (b1 : (List (BitVec 32))) : Option (List (BitVec 32)) :=
 if b1.length = 256 then (if (List.replicate 256 0#32).length = 256 then (if b1.length = 256 then (if b1.length = 256 then (some b1) else none) else none) else none) else none
def M3 (s5 : Int × (List (BitVec 32))) (b6 : (BitVec 32)) : Option (LB (Int × (List (BitVec 32))) ((List (BitVec 32)))) :=
 if 0 ≤ s5.1 ∧ s5.1 < ((256 : Nat) : Int) then ((idx s5.2 s5.1).bind fun u8 => some (.cont ((wI (s5.1 + 1)), (s5.2.set s5.1.toNat b6)))) else none
def M8 (s9 : (BitVec 32) × Int) : Option (LB ((BitVec 32) × Int) ((BitVec 32))) :=
 if (decide (s9.2 < 8)) then ((Py s9.1).bind fun v10 => some (.cont (v10, (wI (s9.2 + 1))))) else (some (.brk s9.1))
def M5 (s5 : Int × (List (BitVec 32))) : Option (LB (Int × (List (BitVec 32))) ((List (BitVec 32)))) :=
 if (decide (s5.1 < 256)) then ((Ej M8 fuel ((BitVec.ofInt 32 s5.1), 0)).bind fun e11 => M3 s5 e11) else (some (.brk s5.2))
def Ng  : Option (List (BitVec 32)) :=
 (Ej M5 fuel (0, (List.replicate 256 0#32))).bind fun e12 => M4 e12
theorem Vk  {r : (List (BitVec 32))} (h : Ng = some r) : Bp Tryz.prog 111 [] (· = .s (.agg (r.flatMap Ty))) := by
 unfold Ng at h
 refine A2 Tryz.func111 rfl (nt := 19) rfl (Nbl rfl) ?_
 intro w0 S0
 refine Aq (Ab (B1 rfl Amw (Ar (Aq (Ab (B1 rfl Amw (Ar (Aq (Aq (Ab (sv rfl (Ag rfl) (Ar ?_))))))))))))
 refine G6 ((List (BitVec 32))) (fun b1 => [(0, .s (.one (.lp 0 0))), (1, .s (.one (.lp 1 0)))]) (fun b1 => [.box ((List.replicate 256 0#32).flatMap Ty), .box (b1.flatMap Ty)]) (fun b1 => M4 b1 = some r) (fun _ _ => Be rfl) (fun _ _ => Az (by simp only [List.all_cons, List.all_nil, Blk.inbB, Lf.inbB, Lf.inb0, Bool.and_true, Bool.and_self, Bool.true_and, Rn (f := Ty) (fun _ _ => rfl)] <;> rfl)) (fun _ _ => Nbl rfl) (fun b1 h => ?_) ?_
 ·unfold M4 at h
  refine Aq (Ab ?_)
  obtain ⟨hl2, h⟩ := D9 h
  refine sv rfl (Afr (f := Ty) (n := 256) Aqe (fun _ => rfl) rfl rfl rfl hl2) ?_
  obtain ⟨hl3, h⟩ := D9 h
  obtain ⟨hl4, h⟩ := D9 h
  refine Akh (f := Ty) (n := 256) Aoi (fun _ => rfl) rfl rfl rfl rfl hl3 hl4 ?_
  refine Bu [.box (b1.flatMap Ty), .box (b1.flatMap Ty)] rfl (Ar (Bk ?_))
  obtain ⟨hlr, h⟩ := D9 h
  obtain rfl := SJ h
  refine ⟨Or.inr rfl, _, _, _, (Ad (Aj7 (f := Ty) (n := 256) (fun _ => rfl) Aqe rfl rfl rfl hlr) Af), (Aj (by simp [List.all_cons, Ams (f := Ty) (fun _ => rfl), SV.cells])), ?_⟩
  rfl
 ·skip
  refine B4 ?_
  obtain ⟨x5, hx5, ho5⟩ := Am h
  refine C2 (G := Nat × (Int × (List (BitVec 32)))) (fun g => [(0, .s (.one (.lp 0 0))), (1, .s (.one (.lp 1 0))), (4, .s (.one (Ii6 g.2.1)))]) (fun g => [.box ((List.replicate 256 0#32).flatMap Ty), .box (g.2.2.flatMap Ty)]) (fun g => Ej M5 g.1 g.2 = some x5) (fun g => g.1) (fuel, (0, (List.replicate 256 0#32))) hx5 ⟨rfl, rfl, rfl, trivial⟩ [] rfl (fun _ _ => Be rfl) (fun _ _ => Az (by simp only [List.all_cons, List.all_nil, Blk.inbB, Lf.inbB, Lf.inb0, Bool.and_true, Bool.and_self, Bool.true_and, Rn (f := Ty) (fun _ _ => rfl)] <;> rfl)) (fun _ _ => Nbl rfl) ?_
  clear hx5 h
  rintro ⟨n5, s5⟩ h
  obtain ⟨n5, y5, rfl, h, hk5⟩ := F5 h
  unfold M5 at h
  refine Aq (Ab (sv rfl (Cm rfl rfl) (Ar (Aq (ccI h rfl (fun h => ?_) (fun h => ?_))))))
  ·refine Bl (Ah (Aq (B4 (Aq (Ab (sv rfl (Ag rfl) (sv rfl (Ak rfl) (Ar (Aq (Ab (sv rfl (Ag rfl) (sv rfl (C4 rfl Tryz.underlying3 Tryz.underlying117 rfl) (sv rfl (Ak rfl) (Ar (Aq (Aq (Ab (sv rfl (Ag rfl) (Ar ?_)))))))))))))))))))
   refine G6 ((BitVec 32)) (fun b6 => [(0, .s (.one (.lp 0 0))), (1, .s (.one (.lp 1 0))), (2, .s (.one (Ii6 s5.1))), (3, .s (.one (.i .u32 (b6.toNat : Int)))), (4, .s (.one (Ii6 s5.1)))]) (fun b6 => [.box ((List.replicate 256 0#32).flatMap Ty), .box (s5.2.flatMap Ty)]) (fun b6 => M3 s5 b6 = some y5) (fun _ _ => Be rfl) (fun _ _ => Az (by simp only [List.all_cons, List.all_nil, Blk.inbB, Lf.inbB, Lf.inb0, Bool.and_true, Bool.and_self, Bool.true_and, Rn (f := Ty) (fun _ _ => rfl)] <;> rfl)) (fun _ _ => Nbl rfl) (fun b6 h => ?_) ?_
   ·unfold M3 at h
    refine Ab (sv rfl (Ag rfl) (sv rfl (Ag rfl) ?_))
    obtain ⟨hj7, h⟩ := D9 h
    obtain ⟨u8, hu8, h⟩ := Am h
    refine sv rfl (Ac2 Apg rfl rfl hj7) (Asf (f := Ty) (u' := b6) 0 Aql (fun _ => rfl) rfl rfl rfl rfl rfl (Tk hu8).2 (Nbl rfl) rfl ?_)
    refine Bu [.box ((List.replicate 256 0#32).flatMap Ty), .box ((s5.2.set s5.1.toNat b6).flatMap Ty)] rfl (Lz (A1 (Ah (Ab (sv rfl (B0 rfl rfl) (sv rfl (Ag rfl) (Ar ?_)))))))
    obtain rfl := SJ h
    exact ⟨(n5, ((wI (s5.1 + 1)), (s5.2.set s5.1.toNat b6))), _, hk5, ⟨rfl, rfl, rfl, trivial⟩, rfl, Nat.lt_succ_self _⟩
   ·skip
    refine B4 ?_
    obtain ⟨x9, hx9, ho9⟩ := Am h
    refine C2 (G := Nat × ((BitVec 32) × Int)) (fun g => [(0, .s (.one (.lp 0 0))), (1, .s (.one (.lp 1 0))), (2, .s (.one (Ii6 s5.1))), (3, .s (.one (.i .u32 (g.2.1.toNat : Int)))), (4, .s (.one (Ii6 s5.1))), (9, .s (.one (Ii6 g.2.2)))]) (fun g => [.box ((List.replicate 256 0#32).flatMap Ty), .box (s5.2.flatMap Ty)]) (fun g => Ej M8 g.1 g.2 = some x9) (fun g => g.1) (fuel, ((BitVec.ofInt 32 s5.1), 0)) hx9 ⟨rfl, rfl, rfl, rfl, rfl, rfl, trivial⟩ [] rfl (fun _ _ => Be rfl) (fun _ _ => Az (by simp only [List.all_cons, List.all_nil, Blk.inbB, Lf.inbB, Lf.inb0, Bool.and_true, Bool.and_self, Bool.true_and, Rn (f := Ty) (fun _ _ => rfl)] <;> rfl)) (fun _ _ => Nbl rfl) ?_
    clear hx9 h
    rintro ⟨n9, s9⟩ h
    obtain ⟨n9, y9, rfl, h, hk9⟩ := F5 h
    unfold M8 at h
    refine Aq (Ab (sv rfl (Cm rfl rfl) (Ar (Aq (ccI h rfl (fun h => ?_) (fun h => ?_))))))
    ·refine Bl (Ah (Aq (B4 (Ab (sv rfl (Ag rfl) ?_)))))
     obtain ⟨v10, hv10, h⟩ := Am h
     refine A3 rfl Ar1 (Ac rfl Al) (Aj rfl) (Wg hv10) (sv rfl (Ak rfl) (Lz (A1 (Ah (Ab (sv rfl (B0 rfl rfl) (sv rfl (Ag rfl) (Ar ?_))))))))
     obtain rfl := SJ h
     exact ⟨(n9, (v10, (wI (s9.2 + 1)))), _, hk9, ⟨rfl, rfl, rfl, rfl, rfl, rfl, trivial⟩, rfl, Nat.lt_succ_self _⟩
    ·refine Kn (Bh (Bh (Cd (Ah ?_))))
     obtain rfl := SJ h
     obtain rfl : _ = x9 := hk9
     exact ⟨s9.1, _, ho9, ⟨rfl, rfl, rfl, rfl, rfl, trivial⟩, rfl⟩
  ·refine Kn (Bh (Bh (Cd (Ah ?_))))
   obtain rfl := SJ h
   obtain rfl : _ = x5 := hk5
   exact ⟨s5.2, _, ho5, ⟨rfl, rfl, trivial⟩, rfl⟩
def Ol (b4 : (BitVec 32)) : Option (BitVec 32) :=
 some (~~~b4)
def Jd (a1 : List UInt8) (v1 : (List (BitVec 32))) (s5 : (BitVec 32) × Int) : Option (LB ((BitVec 32) × Int) ((BitVec 32))) :=
 if (decide (s5.2 < (a1.length : Int))) then ((idx a1 s5.2).bind fun u6 => if 0 ≤ (((s5.1.setWidth 8) ^^^ u6.toBitVec).toNat : Int) ∧ (((s5.1.setWidth 8) ^^^ u6.toBitVec).toNat : Int) < ((256 : Nat) : Int) then ((idx v1 (((s5.1.setWidth 8) ^^^ u6.toBitVec).toNat : Int)).bind fun u8 => some (.cont (((s5.1 >>> (8 : Int).toNat) ^^^ u8), (wI (s5.2 + 1))))) else none) else (some (.brk s5.1))
def Mh (a0 : BitVec 32) (a1 : List UInt8) : Option (BitVec 32) :=
 (Ng).bind fun v1 => if (List.replicate 256 0#32).length = 256 then (if v1.length = 256 then ((Ej (Jd a1 v1) fuel ((~~~a0), 0)).bind fun e9 => Ol e9) else none) else none
theorem Sj {a0 : BitVec 32} {a1 : List UInt8} {r : (BitVec 32)} (h : Mh a0 a1 = some r) : Bp Tryz.prog 90 [.one (.i .u32 (a0.toNat : Int)), .one (.sl a1.length (a1.flatMap eU8))] (· = .s (.one (.i .u32 (r.toNat : Int)))) := by
 unfold Mh at h
 refine A2 Tryz.func90 rfl (nt := 29) rfl (Nbl rfl) ?_
 intro w0 S0
 refine Aq (Ab (sv rfl (Ak rfl) (Ar (Aq (Ab ?_)))))
 obtain ⟨v1, hv1, h⟩ := Am h
 refine A3 rfl Asu Al (Aj rfl) (Vk hv1) (B1 rfl Amw ?_)
 obtain ⟨hl2, h⟩ := D9 h
 obtain ⟨hl3, h⟩ := D9 h
 refine Akh (f := Ty) (n := 256) Aoi (fun _ => rfl) rfl rfl rfl rfl hl2 hl3 ?_
 refine Bu [.box (v1.flatMap Ty)] rfl (Ar (Aq (Ab (sv rfl (Ag rfl) (sv rfl (Tm (a := a0) rfl rfl) (sv rfl (Ak rfl) (Ar (Aq (Aq (Ab (sv rfl (Ag rfl) (sv rfl (A0 Li rfl) (sv rfl (Ag rfl) (Ar ?_))))))))))))))
 refine G6 ((BitVec 32)) (fun b4 => [(0, .s (.one (.i .u32 (b4.toNat : Int))))]) (fun b4 => [.box (v1.flatMap Ty)]) (fun b4 => Ol b4 = some r) (fun _ _ => Be rfl) (fun _ _ => Az (by simp only [List.all_cons, List.all_nil, Blk.inbB, Lf.inbB, Lf.inb0, Bool.and_true, Bool.and_self, Bool.true_and, Rn (f := Ty) (fun _ _ => rfl)] <;> rfl)) (fun _ _ => Nbl rfl) (fun b4 h => ?_) ?_
 ·unfold Ol at h
  refine Aq (Ab (sv rfl (Ag rfl) (sv rfl (Tm (a := b4) rfl rfl) (sv rfl (Ak rfl) (Ar (Bk ?_))))))
  obtain rfl := SJ h
  refine ⟨Or.inr rfl, _, _, _, (Ad (Bd.tmp _ _ rfl) Af), (Aj rfl), ?_⟩
  rfl
 ·skip
  refine B4 ?_
  obtain ⟨x5, hx5, ho5⟩ := Am h
  refine C2 (G := Nat × ((BitVec 32) × Int)) (fun g => [(0, .s (.one (.i .u32 (g.2.1.toNat : Int)))), (5, .s (.one (.lp 0 0))), (11, .s (.one (.sl a1.length (a1.flatMap eU8)))), (12, .s (.one (Ii6 (a1.length : Int)))), (13, .s (.one (Ii6 g.2.2)))]) (fun g => [.box (v1.flatMap Ty)]) (fun g => Ej (Jd a1 v1) g.1 g.2 = some x5) (fun g => g.1) (fuel, ((~~~a0), 0)) hx5 ⟨rfl, rfl, rfl, rfl, rfl, trivial⟩ [] rfl (fun _ _ => Be rfl) (fun _ _ => Az (by simp only [List.all_cons, List.all_nil, Blk.inbB, Lf.inbB, Lf.inb0, Bool.and_true, Bool.and_self, Bool.true_and, Rn (f := Ty) (fun _ _ => rfl)] <;> rfl)) (fun _ _ => Nbl rfl) ?_
  clear hx5 h
  rintro ⟨n5, s5⟩ h
  obtain ⟨n5, y5, rfl, h, hk5⟩ := F5 h
  unfold Jd at h
  refine Aq (Ab (sv rfl (Cm rfl rfl) (Ar (Aq (ccI h rfl (fun h => ?_) (fun h => ?_))))))
  ·refine Bl (Ah (Aq (B4 (Aq (Ab ?_)))))
   obtain ⟨u6, hu6, h⟩ := Am h
   refine sv rfl (Dp (f := eU8) Li (fun _ => rfl) rfl rfl rfl rfl hu6) ?_
   refine sv rfl (Ae ti5 rfl (.cp _) rfl) (sv rfl (Ak rfl) (Ar (Ab (sv rfl (Ag rfl) ?_))))
   refine sv rfl (Te (a := s5.1) rfl rfl rfl (by decide)) ?_
   refine sv rfl (Ag rfl) (sv rfl (Om (k := .u32) (a := s5.1) rfl Tryz.underlying117 Tryz.underlying5 rfl rfl) (sv rfl (Ag rfl) (sv rfl (Aev (a := (s5.1.setWidth 8)) (b := u6.toBitVec) rfl rfl rfl rfl) ?_)))
   obtain ⟨hj7, h⟩ := D9 h
   obtain ⟨u8, hu8, h⟩ := Am h
   refine sv rfl (Ac2 Apg rfl rfl hj7) (sv rfl (Ajs (f := Ty) 0 Amy (fun _ => rfl) rfl rfl rfl (Tk hu8).2 rfl) ?_)
   refine sv rfl (Wk (a := (s5.1 >>> (8 : Int).toNat)) (b := u8) rfl rfl rfl rfl) (sv rfl (Ak rfl) (Lz (A1 (Ah (Ab (sv rfl (B0 rfl rfl) (sv rfl (Ag rfl) (Ar ?_))))))))
   obtain rfl := SJ h
   exact ⟨(n5, (((s5.1 >>> (8 : Int).toNat) ^^^ u8), (wI (s5.2 + 1)))), _, hk5, ⟨rfl, rfl, rfl, rfl, rfl, trivial⟩, rfl, Nat.lt_succ_self _⟩
  ·refine Kn (Bh (Bh (Cd (Ah ?_))))
   obtain rfl := SJ h
   obtain rfl : _ = x5 := hk5
   exact ⟨s5.1, _, ho5, ⟨rfl, trivial⟩, rfl⟩
def Pj (a0 : List UInt8) : Option (BitVec 32) :=
 (Mh (0#32) a0).bind fun v1 => some v1
theorem Z5 {a0 : List UInt8} {r : (BitVec 32)} (h : Pj a0 = some r) : Bp Tryz.prog 91 [.one (.sl a0.length (a0.flatMap eU8))] (· = .s (.one (.i .u32 (r.toNat : Int)))) := by
 unfold Pj at h
 refine A2 Tryz.func91 rfl (nt := 5) rfl (Nbl rfl) ?_
 intro w0 S0
 refine Aq (Ab (sv rfl (Ak rfl) (Ar (Aq (Ab (sv rfl (Ag rfl) ?_))))))
 obtain ⟨v1, hv1, h⟩ := Am h
 refine A3 rfl Aty (Ac rfl (Ac rfl Al)) (Aj rfl) (Sj hv1) (sv rfl (Ak rfl) (Ar (Bk ?_)))
 obtain rfl := SJ h
 refine ⟨Or.inr rfl, _, _, _, (Ad (Bd.tmp _ _ rfl) Af), (Aj rfl), ?_⟩
 rfl
def Jg (a0 : List UInt8) : Option (BitVec 32) :=
 (Eg ([] : List UInt8) (BitVec.ofInt 64 (a0.length : Int)) 2).bind fun v1 => (Pj v1).bind fun v2 => (Mh v2 a0).bind fun v3 => some v3
theorem Pd {a0 : List UInt8} {r : (BitVec 32)} (h : Jg a0 = some r) : Bp Tryz.prog 74 [.one (.sl a0.length (a0.flatMap eU8))] (· = .s (.one (.i .u32 (r.toNat : Int)))) := by
 unfold Jg at h
 refine A2 Tryz.func74 rfl (nt := 12) rfl (Nbl rfl) ?_
 intro w0 S0
 refine Aq (Ab (sv rfl (Ak rfl) (Ar (Aq (Ab (sv rfl (Ag rfl) (sv rfl (A0 Li rfl) (sv rfl (C4 rfl Tryz.underlying3 Tryz.underlying112 rfl) ?_))))))))
 obtain ⟨v1, hv1, h⟩ := Am h
 refine A3 rfl Aa9 (Ac rfl (Ac rfl (Ac rfl Al))) (Nt rfl) (En hv1) (sv rfl (Ak rfl) (Ar (Aq (Ab (sv rfl (Ag rfl) ?_)))))
 obtain ⟨v2, hv2, h⟩ := Am h
 refine A3 rfl Avd (Ac rfl Al) (Aj rfl) (Z5 hv2) (sv rfl (Ag rfl) ?_)
 obtain ⟨v3, hv3, h⟩ := Am h
 refine A3 rfl Aty (Ac rfl (Ac rfl Al)) (Aj rfl) (Sj hv3) (sv rfl (Ak rfl) (Ar (Bk ?_)))
 obtain rfl := SJ h
 refine ⟨Or.inr rfl, _, _, _, (Ad (Bd.tmp _ _ rfl) Af), (Aj rfl), ?_⟩
 rfl
def K9 (a0 : List UInt8) (v2 : (BitVec 64) × Int × Int) (v3 : (BitVec 64) × Int × Int) (b4 : Unit) : Option (Gj × Int) :=
 (cut a0 6 (wI (6 + (wI (v2.1.toNat : Int))))).bind fun c5 => (Jg c5).bind fun v6 => if (!decide (((v3.1.setWidth 32).toNat : Int) = (v6.toNat : Int))) then (some ((Gj.mk (K6.mk 0 (0#32)) ([] : List UInt8)), 4)) else (some ((Gj.mk (K6.mk (wI (v2.1.toNat : Int)) (v3.1.setWidth 32)) c5), 0))
def L2 (a0 : List UInt8) : Option (Gj × Int) :=
 (Jl a0).bind fun v1 => (A4 2 v1.1 v1.2.1 v1.2.2).bind fun v2 => if (decide (512 < (wI (v2.1.toNat : Int)))) then (some ((Gj.mk (K6.mk 0 (0#32)) ([] : List UInt8)), 5)) else ((A4 4 v2.2.1 v2.2.2 v1.2.2).bind fun v3 => (Bs v3.2.1 v3.2.2 v1.2.2).bind fun v7 => if (!decide (v7 = 0)) then (some ((Gj.mk (K6.mk 0 (0#32)) ([] : List UInt8)), 2)) else (if (decide ((a0.length : Int) < (wI (6 + (wI (v2.1.toNat : Int)))))) then (some ((Gj.mk (K6.mk 0 (0#32)) ([] : List UInt8)), 2)) else (K9 a0 v2 v3 ())))
theorem Vh {a0 : List UInt8} {r : Gj × Int} (h : L2 a0 = some r) : Bp Tryz.prog 84 [.one (.sl a0.length (a0.flatMap eU8))] (· = .tup [.agg (EL.el r.1), .one (Ii6 r.2)]) := by
 unfold L2 at h
 refine A2 Tryz.func84 rfl (nt := 53) rfl (Nbl rfl) ?_
 intro w0 S0
 refine Aq (Ab (B1 rfl W7 (sv rfl (Ak rfl) (Ar (Aq (Ab (sv rfl (Ag rfl) ?_)))))))
 obtain ⟨v1, hv1, h⟩ := Am h
 refine C3 (x' := .s (.one (.lp 1 0))) (M' := [.box [Ii6 0, .i .u32 ((0#32).toNat : Int), Znl], .box [.fn 112 [] [.lp 2 0, .lp 3 0], Ii6 v1.1], .box [Ii6 v1.2.1], .box [.sl v1.2.2.length (v1.2.2.flatMap eU8)]]) [] rfl Arb (.func _) (Ac rfl Al) (O9 hv1) rfl rfl (by decide) rfl rfl rfl ?_
 refine sv rfl (Ak rfl) (Ar (Aq (Ab (sv rfl (Bj W7 Aej Ba (.nil _)) (B1 rfl W7 (Ax Y6 rfl rfl rfl rfl (Nbl rfl) (Bu [.box [Ii6 0, .i .u32 ((0#32).toNat : Int), Znl], .box [.fn 112 [] [.lp 2 0, .lp 3 0], Ii6 v1.1], .box [Ii6 v1.2.1], .box [.sl v1.2.2.length (v1.2.2.flatMap eU8)], .box [Ii6 0, .i .u32 ((0#32).toNat : Int), Znl]] rfl (Ar (Aq (Ab (sv rfl (Ag rfl) ?_)))))))))))
 obtain ⟨v2, hv2, h⟩ := Am h
 refine C3 (x' := .s (.one (.i .u64 (v2.1.toNat : Int)))) (M' := [.box [Ii6 0, .i .u32 ((0#32).toNat : Int), Znl], .box [.fn 112 [] [.lp 2 0, .lp 3 0], Ii6 v2.2.1], .box [Ii6 v2.2.2], .box [.sl v1.2.2.length (v1.2.2.flatMap eU8)], .box [Ii6 0, .i .u32 ((0#32).toNat : Int), Znl]]) [1, 2, 3] rfl Ah8 (.func _) (Ac rfl (Ac rfl Al)) (Cx hv2) rfl rfl (by decide) rfl rfl rfl ?_
 refine sv rfl (Fz Tryz.underlying112 Tryz.underlying3 rfl) (sv rfl (Aa Pu rfl) (sv rfl (Aa Ue rfl) (Ax sz3 rfl rfl rfl rfl (Nbl rfl) (Bu [.box [Ii6 0, .i .u32 ((0#32).toNat : Int), Znl], .box [.fn 112 [] [.lp 2 0, .lp 3 0], Ii6 v2.2.1], .box [Ii6 v2.2.2], .box [.sl v1.2.2.length (v1.2.2.flatMap eU8)], .box [Ii6 (wI (v2.1.toNat : Int)), .i .u32 ((0#32).toNat : Int), Znl]] rfl (Ar (Aq (Aq (Ab (sv rfl (Aa Pu rfl) (sv rfl (Aa Ue rfl) (sv rfl (Ae ti3 rfl (.lp _ _ _ rfl) rfl) (sv rfl (Di rfl rfl) (Ar (ccI h rfl (fun h => ?_) (fun h => ?_)))))))))))))))
 ·refine Aq (Ab (sv rfl (Bj W7 Aej Ba (.nil _)) (Ax Y6 rfl rfl rfl rfl (Nbl rfl) (Bu [.box [Ii6 0, .i .u32 ((0#32).toNat : Int), Znl], .box [.fn 112 [] [.lp 2 0, .lp 3 0], Ii6 v2.2.1], .box [Ii6 v2.2.2], .box [.sl v1.2.2.length (v1.2.2.flatMap eU8)], .box [Ii6 (wI (v2.1.toNat : Int)), .i .u32 ((0#32).toNat : Int), Znl]] rfl (sv rfl (Ak rfl) (Ar (Bk (Au ?_))))))))
  obtain rfl := SJ h
  refine ⟨Or.inr rfl, _, _, _, (Ad (Bd.agg _ _ _ _ _ Abq rfl (.lp _ _ _ rfl) (Nbl rfl)) (Ad (Bd.tmp _ _ rfl) Af)), (Nt rfl), ?_⟩
  rfl
 ·refine Bl (Ah (Aq (Ab (sv rfl (Ag rfl) ?_))))
  obtain ⟨v3, hv3, h⟩ := Am h
  refine C3 (x' := .s (.one (.i .u64 (v3.1.toNat : Int)))) (M' := [.box [Ii6 0, .i .u32 ((0#32).toNat : Int), Znl], .box [.fn 112 [] [.lp 2 0, .lp 3 0], Ii6 v3.2.1], .box [Ii6 v3.2.2], .box [.sl v1.2.2.length (v1.2.2.flatMap eU8)], .box [Ii6 (wI (v2.1.toNat : Int)), .i .u32 ((0#32).toNat : Int), Znl]]) [1, 2, 3] rfl Ah8 (.func _) (Ac rfl (Ac rfl Al)) (Cx hv3) rfl rfl (by decide) rfl rfl rfl ?_
  refine sv rfl (Om (k := .u64) (a := v3.1) rfl Tryz.underlying112 Tryz.underlying117 rfl rfl) (sv rfl (Aa Pu rfl) (sv rfl (Aa Ach rfl) (Ax Aql rfl rfl rfl rfl (Nbl rfl) (Bu [.box [Ii6 0, .i .u32 ((0#32).toNat : Int), Znl], .box [.fn 112 [] [.lp 2 0, .lp 3 0], Ii6 v3.2.1], .box [Ii6 v3.2.2], .box [.sl v1.2.2.length (v1.2.2.flatMap eU8)], .box [Ii6 (wI (v2.1.toNat : Int)), .i .u32 ((v3.1.setWidth 32).toNat : Int), Znl]] rfl (Ar (Aq (Aq (Lh (Unit) (fun b4 => [(0, .s (.one (.sl a0.length (a0.flatMap eU8)))), (2, .s (.one (.lp 0 0))), (5, .s (.one (.lp 4 0)))]) (fun b4 => [.box [Ii6 0, .i .u32 ((0#32).toNat : Int), Znl], .box [.fn 112 [] [.lp 2 0, .lp 3 0], Ii6 v3.2.1], .box [Ii6 v3.2.2], .box [.sl v1.2.2.length (v1.2.2.flatMap eU8)], .box [Ii6 (wI (v2.1.toNat : Int)), .i .u32 ((v3.1.setWidth 32).toNat : Int), Znl]]) (fun b4 => K9 a0 v2 v3 b4 = some r) (fun _ _ => Be rfl) (fun _ _ => Az rfl) (fun _ _ => Nbl rfl) (fun b4 h => ?_) ?_))))))))
  ·unfold K9 at h
   refine Aq (Ab (sv rfl (Ag rfl) (sv rfl (Aa Pu rfl) (sv rfl (Aa Ue rfl) (sv rfl (Ae ti3 rfl (.lp _ _ _ rfl) rfl) (sv rfl (B0 rfl rfl) ?_))))))
   obtain ⟨c5, hc5, h⟩ := Am h
   refine sv rfl (Ss (f := eU8) (lo := 6) (hi := (wI (6 + (wI (v2.1.toNat : Int))))) Li (fun _ => rfl) rfl rfl rfl (Hm rfl (Kq hc5).1.1) (Hm rfl (Int.le_trans (Kq hc5).1.1 (Kq hc5).1.2.1)) hc5) ?_
   refine sv rfl (Aa Y0 rfl) (Ax Aow rfl rfl rfl rfl (Nbl rfl) (Bu [.box [Ii6 0, .i .u32 ((0#32).toNat : Int), Znl], .box [.fn 112 [] [.lp 2 0, .lp 3 0], Ii6 v3.2.1], .box [Ii6 v3.2.2], .box [.sl v1.2.2.length (v1.2.2.flatMap eU8)], .box [Ii6 (wI (v2.1.toNat : Int)), .i .u32 ((v3.1.setWidth 32).toNat : Int), .sl c5.length (c5.flatMap eU8)]] rfl (Ar (Aq (Aq ?_)))))
   refine Adx Lm (by kernel_rfl) ?_
   refine dv rfl (Aa Pu rfl) (dv rfl (Aa Ach rfl) (dv rfl (Ae Amy rfl (.lp _ _ _ rfl) rfl) (dv rfl (Aa Y0 rfl) (dv rfl (Ae L5 rfl (.lp _ _ _ rfl) rfl) ?_))))
   obtain ⟨v6, hv6, h⟩ := Am h
   refine dd rfl (D3 Aua (Ac rfl Al) rfl (Pd hv6)) (dv rfl (Ce rfl rfl) (Zw (Ah (ccI h rfl (fun h => ?_) (fun h => ?_)))))
   ·refine Aq (Ab (sv rfl (Bj W7 Aej Ba (.nil _)) (Ax Y6 rfl rfl rfl rfl (Nbl rfl) (Bu [.box [Ii6 0, .i .u32 ((0#32).toNat : Int), Znl], .box [.fn 112 [] [.lp 2 0, .lp 3 0], Ii6 v3.2.1], .box [Ii6 v3.2.2], .box [.sl v1.2.2.length (v1.2.2.flatMap eU8)], .box [Ii6 (wI (v2.1.toNat : Int)), .i .u32 ((v3.1.setWidth 32).toNat : Int), .sl c5.length (c5.flatMap eU8)]] rfl (sv rfl (Ak rfl) (Ar (Bk (Au ?_))))))))
    obtain rfl := SJ h
    refine ⟨Or.inr rfl, _, _, _, (Ad (Bd.agg _ _ _ _ _ Abq rfl (.lp _ _ _ rfl) (Nbl rfl)) (Ad (Bd.tmp _ _ rfl) Af)), (Nt rfl), ?_⟩
    rfl
   ·refine Bl (Ah (Aq (Ab (sv rfl (Ao Abq rfl (.lp _ _ _ rfl) (Nbl rfl)) (Ax Y6 rfl rfl rfl rfl (Nbl rfl) (Bu [.box [Ii6 (wI (v2.1.toNat : Int)), .i .u32 ((v3.1.setWidth 32).toNat : Int), .sl c5.length (c5.flatMap eU8)], .box [.fn 112 [] [.lp 2 0, .lp 3 0], Ii6 v3.2.1], .box [Ii6 v3.2.2], .box [.sl v1.2.2.length (v1.2.2.flatMap eU8)], .box [Ii6 (wI (v2.1.toNat : Int)), .i .u32 ((v3.1.setWidth 32).toNat : Int), .sl c5.length (c5.flatMap eU8)]] rfl (sv rfl (Ak rfl) (Ar (Bk ?_)))))))))
    obtain rfl := SJ h
    refine ⟨Or.inr rfl, _, _, _, (Ad (Bd.agg _ _ _ _ _ Abq rfl (.lp _ _ _ rfl) (Nbl rfl)) (Ad (Bd.tmp _ _ rfl) Af)), (Aj rfl), ?_⟩
    rfl
  ·skip
   refine Ab (sv rfl (Ag rfl) ?_)
   obtain ⟨v7, hv7, h⟩ := Am h
   refine C3 (x' := .s (.one (Ii6 v7))) (M' := [.box [Ii6 0, .i .u32 ((0#32).toNat : Int), Znl], .box [.fn 112 [] [.lp 2 0, .lp 3 0], Ii6 v3.2.1], .box [Ii6 v3.2.2], .box [.sl v1.2.2.length (v1.2.2.flatMap eU8)], .box [Ii6 (wI (v2.1.toNat : Int)), .i .u32 ((v3.1.setWidth 32).toNat : Int), Znl]]) [1, 2, 3] rfl Ajp (.func _) (Ac rfl Al) (H7 hv7) rfl rfl (by decide) rfl rfl rfl ?_
   refine sv rfl (Ce rfl rfl) (sv rfl (Ag rfl) (Bq 27 rfl (fun hc => ?_) (fun hc => ?_)))
   ·replace h := B2 hc h
    clear hc
    refine Aw rfl rfl rfl rfl (Aw rfl rfl rfl rfl (Aw rfl rfl rfl rfl (Aw rfl rfl rfl rfl (Aw rfl rfl rfl rfl (Aw rfl rfl rfl rfl (Aw rfl rfl rfl rfl (sv rfl (Av rfl rfl) (Ar (Hq rfl (fun _ => ?_) (fun hx => Bool.noConfusion hx))))))))))
    refine Aq (Ab (sv rfl (Bj W7 Aej Ba (.nil _)) (Ax Y6 rfl rfl rfl rfl (Nbl rfl) (Bu [.box [Ii6 0, .i .u32 ((0#32).toNat : Int), Znl], .box [.fn 112 [] [.lp 2 0, .lp 3 0], Ii6 v3.2.1], .box [Ii6 v3.2.2], .box [.sl v1.2.2.length (v1.2.2.flatMap eU8)], .box [Ii6 (wI (v2.1.toNat : Int)), .i .u32 ((v3.1.setWidth 32).toNat : Int), Znl]] rfl (sv rfl (Ak rfl) (Ar (Bk (Au ?_))))))))
    obtain rfl := SJ h
    refine ⟨Or.inr rfl, _, _, _, (Ad (Bd.agg _ _ _ _ _ Abq rfl (.lp _ _ _ rfl) (Nbl rfl)) (Ad (Bd.tmp _ _ rfl) Af)), (Nt rfl), ?_⟩
    rfl
   ·replace h := B3 hc h
    clear hc
    refine son rfl rfl rfl (sv rfl (Ag rfl) (son rfl rfl rfl (sv rfl (A0 Li rfl) (son rfl rfl rfl (sv rfl (Aa Pu rfl) (son rfl rfl rfl (sv rfl (Aa Ue rfl) (son rfl rfl rfl (sv rfl (Ae ti3 rfl (.lp _ _ _ rfl) rfl) (son rfl rfl rfl (sv rfl (B0 rfl rfl) (son rfl rfl rfl (sv rfl (Cm rfl rfl) (sv rfl (An rfl rfl) (Ar (ccI h rfl (fun h => ?_) (fun h => ?_)))))))))))))))))
    ·refine Aq (Ab (sv rfl (Bj W7 Aej Ba (.nil _)) (Ax Y6 rfl rfl rfl rfl (Nbl rfl) (Bu [.box [Ii6 0, .i .u32 ((0#32).toNat : Int), Znl], .box [.fn 112 [] [.lp 2 0, .lp 3 0], Ii6 v3.2.1], .box [Ii6 v3.2.2], .box [.sl v1.2.2.length (v1.2.2.flatMap eU8)], .box [Ii6 (wI (v2.1.toNat : Int)), .i .u32 ((v3.1.setWidth 32).toNat : Int), Znl]] rfl (sv rfl (Ak rfl) (Ar (Bk (Au ?_))))))))
     obtain rfl := SJ h
     refine ⟨Or.inr rfl, _, _, _, (Ad (Bd.agg _ _ _ _ _ Abq rfl (.lp _ _ _ rfl) (Nbl rfl)) (Ad (Bd.tmp _ _ rfl) Af)), (Nt rfl), ?_⟩
     rfl
    ·refine Bl (Ah ?_)
     exact ⟨(), _, h, ⟨rfl, rfl, rfl, trivial⟩, rfl⟩
def Jy (a0 : List UInt8) : Option (List UInt8) :=
 if (([] : List UInt8).length + a0.length) * 1 ≤ 140737488355328 then (some (([] : List UInt8) ++ a0)) else none
theorem Tu {a0 : List UInt8} {r : (List UInt8)} (h : Jy a0 = some r) : Bp Tryz.prog 85 [.one (.sl a0.length (a0.flatMap eU8))] (· = .s (.one (.sl r.length (r.flatMap eU8)))) := by
 unfold Jy at h
 refine A2 Tryz.func85 rfl (nt := 8) rfl (Nbl rfl) ?_
 intro w0 S0
 refine Aq (Ab (sv rfl (Ak rfl) (Ar (Aq (Aq (Ab (sv rfl (Ag rfl) (Amk rfl Tryz.underlying33 rfl (fun nq hnq => ?_)))))))))
 cases nq
 ·skip
  refine Ar (Hq rfl (fun hx => Bool.noConfusion hx) (fun _ => ?_))
  refine Bl (Ah (Aq (Ab (Acl rfl Tryz.underlying33 ei5 (sv rfl (Ag rfl) ?_)))))
  obtain ⟨hb1, h⟩ := D9 h
  refine Aif (f := eU8) (xs := ([] : List UInt8)) (us := a0) rfl Tryz.underlying33 ei5 Arw (fun _ => rfl) rfl rfl (.one _ _ _ _ (.id _ rfl)) rfl rfl rfl (.sl _ _ _ (Bg (f := eU8) (fun _ => rfl) _)) rfl rfl hb1 (by decide) ?_
  refine sv rfl (Ak rfl) (Ar (Bk ?_))
  obtain rfl := SJ h
  refine ⟨Or.inr rfl, _, _, _, (Ad (Bd.tmp _ _ rfl) Af), (by (repeat' first | exact Kb.nil _ | apply Kb.cons | apply J4.one | apply J4.agg | exact E8.nil | exact E8.ls _ _ _ _ _ _ rfl (Bg (f := eU8) (fun _ => rfl) _).symm | exact E8.id _ rfl | exact D2.nil _ | apply D2.cons)), ?_⟩
  rfl
 ·obtain rfl := List.eq_nil_of_length_eq_zero (hnq rfl)
  replace h : (some ([] : List UInt8)) = some r := by first | exact h | (rw [if_pos (by decide)] at h; exact h)
  refine Ar (Hq rfl (fun _ => ?_) (fun hx => Bool.noConfusion hx))
  refine Aq (Ab (sv rfl (Ak rfl) (Ar (Bk (Au ?_)))))
  obtain rfl := SJ h
  refine ⟨Or.inr rfl, _, _, _, (Ad (Bd.tmp _ _ rfl) Af), (Nt rfl), ?_⟩
  rfl
def Lc (a0 : List UInt8) (a1 : Int) (b1 : Unit) : Option ((List UInt8) × Int × Int) :=
 (cut a0 a1 (a0.length : Int)).bind fun c2 => (L2 c2).bind fun v3 => if (!decide (v3.2 = 0)) then (some (([] : List UInt8), 0, v3.2)) else ((Jy v3.1.payload_).bind fun v4 => some (v4, (wI ((wI (a1 + 6)) + v3.1.head_.size_)), 0))
def Kc (a0 : List UInt8) (a1 : Int) : Option ((List UInt8) × Int × Int) :=
 if (decide (a1 < 0)) then (some (([] : List UInt8), 0, 1)) else (if (decide ((a0.length : Int) < a1)) then (some (([] : List UInt8), 0, 1)) else (Lc a0 a1 ()))
theorem Qc {a0 : List UInt8} {a1 : Int} {r : (List UInt8) × Int × Int} (h : Kc a0 a1 = some r) : Bp Tryz.prog 66 [.one (.sl a0.length (a0.flatMap eU8)), .one (Ii6 a1)] (· = .tup [.one (.sl r.1.length (r.1.flatMap eU8)), .one (Ii6 r.2.1), .one (Ii6 r.2.2)]) := by
 unfold Kc at h
 refine A2 Tryz.func66 rfl (nt := 36) rfl (Nbl rfl) ?_
 intro w0 S0
 refine Aq (Ab (sv rfl (Ak rfl) (sv rfl (Ak rfl) (sv rfl (Ak rfl) (Ar (Aq (Aq (Lh (Unit) (fun b1 => [(0, .s (.one (.sl a0.length (a0.flatMap eU8)))), (1, .s (.one (Ii6 a1)))]) (fun b1 => []) (fun b1 => Lc a0 a1 b1 = some r) (fun _ _ => Be rfl) (fun _ _ => Az rfl) (fun _ _ => Nbl rfl) (fun b1 h => ?_) ?_))))))))
 ·unfold Lc at h
  refine Aq (Ab (sv rfl (Ag rfl) (sv rfl (Ag rfl) ?_)))
  obtain ⟨c2, hc2, h⟩ := Am h
  refine sv rfl (Ss (f := eU8) (lo := a1) (hi := (a0.length : Int)) Li (fun _ => rfl) rfl rfl rfl (Hm rfl (Kq hc2).1.1) (by exact rfl) hc2) ?_
  obtain ⟨v3, hv3, h⟩ := Am h
  refine A3 rfl Avh (Ac rfl Al) (Aj rfl) (Vh hv3) (sv rfl (Gn rfl) (sv rfl (Bb rfl rfl) (sv rfl (Bb rfl rfl) (B1 rfl W7 (Ax Y6 rfl rfl rfl rfl (Nbl rfl) (Bu [.box (EL.el v3.1)] rfl (sv rfl (Ak rfl) (Ar (Aq (Aq (Ab (sv rfl (Ag rfl) (sv rfl (Ce rfl rfl) (Ar (ccI h rfl (fun h => ?_) (fun h => ?_))))))))))))))))
  ·refine Aq (Ab (sv rfl (Ag rfl) (sv rfl (Ak rfl) (sv rfl (Ak rfl) (sv rfl (Ak rfl) (Ar (Bk (Au ?_))))))))
   obtain rfl := SJ h
   refine ⟨Or.inr rfl, _, _, _, (Ad (Bd.tmp _ _ rfl) (Ad (Bd.tmp _ _ rfl) (Ad (Bd.tmp _ _ rfl) Af))), (Nt rfl), ?_⟩
   rfl
  ·refine Bl (Ah (Aq ?_))
   obtain ⟨v4, hv4, h⟩ := Am h
   refine Ke [] [0, 1, 3, 0, 8, 0, 32, 96, 248, 7, 1023, 2047] [[.box (EL.el v3.1)]] (by kernel_rfl) Lm (by kernel_rfl) (by decide) rfl rfl rfl rfl ?_
   refine ev (Bi 0 rfl rfl) rfl rfl (Aa Y0 rfl) (ev (Bi 0 rfl rfl) rfl rfl (Ae L5 rfl (.lp _ _ _ rfl) rfl) (ed (Bi 0 rfl rfl) rfl rfl (D3 Aun (Ac rfl Al) rfl (Tu hv4)) (ev (Bi 0 rfl rfl) rfl rfl (Ag rfl) (ev (Bi 0 rfl rfl) rfl rfl (B0 rfl rfl) (ev (Bi 0 rfl rfl) rfl rfl (Aa Pu rfl) (ev (Bi 0 rfl rfl) rfl rfl (Aa Ue rfl) (ev (Bi 0 rfl rfl) rfl rfl (Ae ti3 rfl (.lp _ _ _ rfl) rfl) (ev (Bi 0 rfl rfl) rfl rfl (B0 rfl rfl) (ev (Bi 0 rfl rfl) rfl rfl (Ak rfl) (ev (Bi 0 rfl rfl) rfl rfl (Ak rfl) (ev (Bi 0 rfl rfl) rfl rfl (Ak rfl) (Y9 (Ah (Bk ?_))))))))))))))
   obtain rfl := SJ h
   refine ⟨Or.inr rfl, _, _, _, (Ad (Bd.tmp _ _ rfl) (Ad (Bd.tmp _ _ rfl) (Ad (Bd.tmp _ _ rfl) Af))), (Aj rfl), ?_⟩
   rfl
 ·skip
  refine Ab (sv rfl (Ag rfl) (sv rfl (Cm rfl rfl) (sv rfl (Ag rfl) (Bq 11 rfl (fun hc => ?_) (fun hc => ?_)))))
  ·replace h := B2 hc h
   clear hc
   refine Aw rfl rfl rfl rfl (Aw rfl rfl rfl rfl (Aw rfl rfl rfl rfl (Aw rfl rfl rfl rfl (sv rfl (Av rfl rfl) (Ar (Hq rfl (fun _ => ?_) (fun hx => Bool.noConfusion hx)))))))
   refine Aq (Ab (sv rfl (Ak rfl) (sv rfl (Ak rfl) (sv rfl (Ak rfl) (Ar (Bk (Au ?_)))))))
   obtain rfl := SJ h
   refine ⟨Or.inr rfl, _, _, _, (Ad (Bd.tmp _ _ rfl) (Ad (Bd.tmp _ _ rfl) (Ad (Bd.tmp _ _ rfl) Af))), (Nt rfl), ?_⟩
   rfl
  ·replace h := B3 hc h
   clear hc
   refine son rfl rfl rfl (sv rfl (Ag rfl) (son rfl rfl rfl (sv rfl (Ag rfl) (son rfl rfl rfl (sv rfl (A0 Li rfl) (son rfl rfl rfl (sv rfl (Di rfl rfl) (sv rfl (An rfl rfl) (Ar (ccI h rfl (fun h => ?_) (fun h => ?_)))))))))))
   ·refine Aq (Ab (sv rfl (Ak rfl) (sv rfl (Ak rfl) (sv rfl (Ak rfl) (Ar (Bk (Au ?_)))))))
    obtain rfl := SJ h
    refine ⟨Or.inr rfl, _, _, _, (Ad (Bd.tmp _ _ rfl) (Ad (Bd.tmp _ _ rfl) (Ad (Bd.tmp _ _ rfl) Af))), (Nt rfl), ?_⟩
    rfl
   ·refine Bl (Ah ?_)
    exact ⟨(), _, h, ⟨rfl, rfl, trivial⟩, rfl⟩
def G0 (a0 : Bo) : Option Bool :=
 (Hs a0.Dead).bind fun v1 => if v1 then (some (decide ((a0.Buf.length : Int) = 0))) else (if (!decide (a0.Dead = 0)) then (some false) else ((Kc a0.Buf 0).bind fun v2 => if (decide ((a0.Buf.length : Int) = 0)) then (some true) else (some (decide (v2.2.2 = 2)))))
theorem M2 {a0 : Bo} {r : Bool} (h : G0 a0 = some r) : Bp Tryz.prog 34 [.agg (EL.el a0)] (· = .s (.one (.b r))) := by
 unfold G0 at h
 refine A2 Tryz.func34 rfl (nt := 31) rfl (Nbl rfl) ?_
 intro w0 S0
 refine Aq (Ab (Jj rfl rfl (sv rfl (Ak rfl) (Ar (Aq (Aq (Ab (sv rfl (Aa Ah3 rfl) (sv rfl (Ae Aba rfl (.lp _ _ _ rfl) rfl) ?_)))))))))
 obtain ⟨v1, hv1, h⟩ := Am h
 refine A3 rfl Auq (Ac rfl Al) (Aj rfl) (Oo hv1) (Ar (ccI h rfl (fun h => ?_) (fun h => ?_)))
 ·refine Aq (Ab (sv rfl (Aa Adr rfl) (sv rfl (Ae L5 rfl (.lp _ _ _ rfl) rfl) (sv rfl (A0 Li rfl) (sv rfl (Br rfl rfl) (sv rfl (Ak rfl) (Ar (Bk (Au ?_)))))))))
  obtain rfl := SJ h
  refine ⟨Or.inr rfl, _, _, _, (Ad (Bd.tmp _ _ rfl) Af), (Aj rfl), ?_⟩
  rfl
 ·refine Bl (Ah (Aq (Aq (Ab (sv rfl (Aa Ah3 rfl) (sv rfl (Ae Aba rfl (.lp _ _ _ rfl) rfl) (sv rfl (Ce rfl rfl) (Ar (ccI h rfl (fun h => ?_) (fun h => ?_))))))))))
  ·refine Aq (Ab (sv rfl (Ak rfl) (Ar (Bk (Au ?_)))))
   obtain rfl := SJ h
   refine ⟨Or.inr rfl, _, _, _, (Ad (Bd.tmp _ _ rfl) Af), (Aj rfl), ?_⟩
   rfl
  ·refine Bl (Ah (Aq (Ab (sv rfl (Aa Adr rfl) (sv rfl (Ae L5 rfl (.lp _ _ _ rfl) rfl) ?_)))))
   obtain ⟨v2, hv2, h⟩ := Am h
   refine A3 rfl At7 (Ac rfl (Ac rfl Al)) (Aj rfl) (Qc hv2) (sv rfl (Gn rfl) (sv rfl (Bb rfl rfl) (sv rfl (Bb rfl rfl) (sv rfl (Bb rfl rfl) (sv rfl (Ak rfl) (sv rfl (Ak rfl) (sv rfl (Ak rfl) (Ar (Aq (Ab (sv rfl (Aa Adr rfl) (sv rfl (Ae L5 rfl (.lp _ _ _ rfl) rfl) (sv rfl (A0 Li rfl) (sv rfl (Br rfl rfl) (sv rfl (Ag rfl) (Bq 27 rfl (fun hc => ?_) (fun hc => ?_)))))))))))))))))
   ·replace h := B2 hc h
    clear hc
    refine Aw rfl rfl rfl rfl (Aw rfl rfl rfl rfl (sv rfl (Av rfl rfl) (sv rfl (Ak rfl) (Ar (Bk ?_)))))
    obtain rfl := SJ h
    refine ⟨Or.inr rfl, _, _, _, (Ad (Bd.tmp _ _ rfl) Af), (Aj rfl), ?_⟩
    rfl
   ·replace h := B3 hc h
    clear hc
    refine son rfl rfl rfl (sv rfl (Ag rfl) (son rfl rfl rfl (sv rfl (Br rfl rfl) (sv rfl (An rfl rfl) (sv rfl (Ak rfl) (Ar (Bk ?_)))))))
    obtain rfl := SJ h
    refine ⟨Or.inr rfl, _, _, _, (Ad (Bd.tmp _ _ rfl) Af), (Aj rfl), ?_⟩
    rfl
def Hk (a0 : Int) : Option Bool :=
 if (decide (1 ≤ a0)) then (some (decide (a0 ≤ 11))) else (some false)
theorem L8 {a0 : Int} {r : Bool} (h : Hk a0 = some r) : Bp Tryz.prog 60 [.one (Ii6 a0)] (· = .s (.one (.b r))) := by
 unfold Hk at h
 refine A2 Tryz.func60 rfl (nt := 9) rfl (Nbl rfl) ?_
 intro w0 S0
 refine Aq (Ab (sv rfl (Ak rfl) (Ar (Aq (Ab (sv rfl (Ag rfl) (sv rfl (Lp rfl rfl) (sv rfl (Ag rfl) (Bq 5 rfl (fun hc => ?_) (fun hc => ?_))))))))))
 ·replace h := B2 hc h
  clear hc
  refine son rfl rfl rfl (sv rfl (Ag rfl) (son rfl rfl rfl (sv rfl (F3 rfl rfl) (sv rfl (Av rfl rfl) (sv rfl (Ak rfl) (Ar (Bk ?_)))))))
  obtain rfl := SJ h
  refine ⟨Or.inr rfl, _, _, _, (Ad (Bd.tmp _ _ rfl) Af), (Aj rfl), ?_⟩
  rfl
 ·replace h := B3 hc h
  clear hc
  refine Aw rfl rfl rfl rfl (Aw rfl rfl rfl rfl (sv rfl (An rfl rfl) (sv rfl (Ak rfl) (Ar (Bk ?_)))))
  obtain rfl := SJ h
  refine ⟨Or.inr rfl, _, _, _, (Ad (Bd.tmp _ _ rfl) Af), (Aj rfl), ?_⟩
  rfl
def Jc (a0 : Int) : Option G1 :=
 (Hk a0).bind fun v1 => if (!v1) then (some (G1.mk false false false false false false)) else ((idx Aqn a0).bind fun u2 => some u2)
theorem Pi {a0 : Int} {r : G1} (h : Jc a0 = some r) : Bp Tryz.prog 59 [.one (Ii6 a0)] (· = .s (.agg (EL.el r))) := by
 unfold Jc at h
 refine A2 Tryz.func59 rfl (nt := 10) rfl (Nbl rfl) ?_
 intro w0 S0
 refine Aq (Ab (B1 rfl Akc (Ar (Aq (Aq (Ab (sv rfl (Ag rfl) ?_)))))))
 obtain ⟨v1, hv1, h⟩ := Am h
 refine A3 rfl Aq2 (Ac rfl Al) (Aj rfl) (L8 hv1) (sv rfl (Ca rfl) (Ar (ccI h rfl (fun h => ?_) (fun h => ?_))))
 ·refine Aq (Ab (sv rfl (Bj Akc Arv Ba (.nil _)) (Ax Aik rfl rfl rfl rfl (Nbl rfl) (Bu [.box [.b false, .b false, .b false, .b false, .b false, .b false]] rfl (Ar (Bk (Au ?_)))))))
  obtain rfl := SJ h
  refine ⟨Or.inr rfl, _, _, _, (Ad (Bd.agg _ _ _ _ _ Alq rfl (.lp _ _ _ rfl) (Nbl rfl)) Af), (Aj rfl), ?_⟩
  rfl
 ·refine Bl (Ah (Aq (Ab (sv rfl (Ag rfl) ?_))))
  obtain ⟨u2, hu2, h⟩ := Am h
  refine sv rfl (Amu (f := Un) Ars (fun _ => rfl) Aly rfl rfl rfl hu2) ?_
  refine sv rfl (C6 (ys := [.b u2.token_, .b u2.attempt_, .b u2.ro_, .b u2.key_, .b u2.val_, .b u2.rng_]) Alq rfl (.cp _) rfl rfl) (Ax Aik rfl rfl rfl rfl (Nbl rfl) (Bu [.box (EL.el u2)] rfl (Ar (Bk ?_))))
  obtain rfl := SJ h
  refine ⟨Or.inr rfl, _, _, _, (Ad (Bd.agg _ _ _ _ _ Alq rfl (.lp _ _ _ rfl) (Nbl rfl)) Af), (Aj rfl), ?_⟩
  rfl
def Eb (a0 : Int) (a1 : Int) : Option Bool :=
 if (decide (0 ≤ a0)) then (some (decide (a0 ≤ a1))) else (some false)
theorem F2 {a0 : Int} {a1 : Int} {r : Bool} (h : Eb a0 a1 = some r) : Bp Tryz.prog 61 [.one (Ii6 a0), .one (Ii6 a1)] (· = .s (.one (.b r))) := by
 unfold Eb at h
 refine A2 Tryz.func61 rfl (nt := 12) rfl (Nbl rfl) ?_
 intro w0 S0
 refine Aq (Ab (sv rfl (Ak rfl) (Ar (Aq (Ab (sv rfl (Ag rfl) (sv rfl (Lp rfl rfl) (sv rfl (Ag rfl) (Bq 7 rfl (fun hc => ?_) (fun hc => ?_))))))))))
 ·replace h := B2 hc h
  clear hc
  refine son rfl rfl rfl (sv rfl (Ag rfl) (son rfl rfl rfl (sv rfl (Ag rfl) (son rfl rfl rfl (sv rfl (F3 rfl rfl) (sv rfl (Av rfl rfl) (sv rfl (Ak rfl) (Ar (Bk ?_)))))))))
  obtain rfl := SJ h
  refine ⟨Or.inr rfl, _, _, _, (Ad (Bd.tmp _ _ rfl) Af), (Aj rfl), ?_⟩
  rfl
 ·replace h := B3 hc h
  clear hc
  refine Aw rfl rfl rfl rfl (Aw rfl rfl rfl rfl (Aw rfl rfl rfl rfl (sv rfl (An rfl rfl) (sv rfl (Ak rfl) (Ar (Bk ?_))))))
  obtain rfl := SJ h
  refine ⟨Or.inr rfl, _, _, _, (Ad (Bd.tmp _ _ rfl) Af), (Aj rfl), ?_⟩
  rfl
def I5 (a0 : Bool) (a1 : Int) (a2 : Int) : Option Bool :=
 if (!a0) then (some (decide (a1 = 0))) else ((Eb a1 a2).bind fun v1 => some v1)
theorem Pc {a0 : Bool} {a1 : Int} {a2 : Int} {r : Bool} (h : I5 a0 a1 a2 = some r) : Bp Tryz.prog 62 [.one (.b a0), .one (Ii6 a1), .one (Ii6 a2)] (· = .s (.one (.b r))) := by
 unfold I5 at h
 refine A2 Tryz.func62 rfl (nt := 14) rfl (Nbl rfl) ?_
 intro w0 S0
 refine Aq (Ab (sv rfl (Ak rfl) (Ar (Aq (Aq (Ab (sv rfl (Ag rfl) (sv rfl (Ca rfl) (Ar (ccI h rfl (fun h => ?_) (fun h => ?_)))))))))))
 ·refine Aq (Ab (sv rfl (Ag rfl) (sv rfl (Br rfl rfl) (sv rfl (Ak rfl) (Ar (Bk (Au ?_)))))))
  obtain rfl := SJ h
  refine ⟨Or.inr rfl, _, _, _, (Ad (Bd.tmp _ _ rfl) Af), (Aj rfl), ?_⟩
  rfl
 ·refine Bl (Ah (Aq (Ab (sv rfl (Ag rfl) (sv rfl (Ag rfl) ?_)))))
  obtain ⟨v1, hv1, h⟩ := Am h
  refine A3 rfl Alm (Ac rfl (Ac rfl Al)) (Aj rfl) (F2 hv1) (sv rfl (Ak rfl) (Ar (Bk ?_)))
  obtain rfl := SJ h
  refine ⟨Or.inr rfl, _, _, _, (Ad (Bd.tmp _ _ rfl) Af), (Aj rfl), ?_⟩
  rfl
def Ct (a0 : Bool) (a1 : List UInt8) (a2 : Int) (a3 : Int) : Option Bool :=
 if (!a0) then (some (decide ((a1.length : Int) = 0))) else (if (decide (a2 ≤ (a1.length : Int))) then (some (decide ((a1.length : Int) ≤ a3))) else (some false))
theorem D6 {a0 : Bool} {a1 : List UInt8} {a2 : Int} {a3 : Int} {r : Bool} (h : Ct a0 a1 a2 a3 = some r) : Bp Tryz.prog 63 [.one (.b a0), .one (.sl a1.length (a1.flatMap eU8)), .one (Ii6 a2), .one (Ii6 a3)] (· = .s (.one (.b r))) := by
 unfold Ct at h
 refine A2 Tryz.func63 rfl (nt := 24) rfl (Nbl rfl) ?_
 intro w0 S0
 refine Aq (Ab (sv rfl (Ak rfl) (Ar (Aq (Aq (Ab (sv rfl (Ag rfl) (sv rfl (Ca rfl) (Ar (ccI h rfl (fun h => ?_) (fun h => ?_)))))))))))
 ·refine Aq (Ab (sv rfl (Ag rfl) (sv rfl (A0 Li rfl) (sv rfl (Br rfl rfl) (sv rfl (Ak rfl) (Ar (Bk (Au ?_))))))))
  obtain rfl := SJ h
  refine ⟨Or.inr rfl, _, _, _, (Ad (Bd.tmp _ _ rfl) Af), (Aj rfl), ?_⟩
  rfl
 ·refine Bl (Ah (Aq (Ab (sv rfl (Ag rfl) (sv rfl (A0 Li rfl) (sv rfl (Ag rfl) (sv rfl (Lp rfl rfl) (sv rfl (Ag rfl) (Bq 18 rfl (fun hc => ?_) (fun hc => ?_))))))))))
  ·replace h := B2 hc h
   clear hc
   refine son rfl rfl rfl (sv rfl (Ag rfl) (son rfl rfl rfl (sv rfl (A0 Li rfl) (son rfl rfl rfl (sv rfl (Ag rfl) (son rfl rfl rfl (sv rfl (F3 rfl rfl) (sv rfl (Av rfl rfl) (sv rfl (Ak rfl) (Ar (Bk ?_)))))))))))
   obtain rfl := SJ h
   refine ⟨Or.inr rfl, _, _, _, (Ad (Bd.tmp _ _ rfl) Af), (Aj rfl), ?_⟩
   rfl
  ·replace h := B3 hc h
   clear hc
   refine Aw rfl rfl rfl rfl (Aw rfl rfl rfl rfl (Aw rfl rfl rfl rfl (Aw rfl rfl rfl rfl (sv rfl (An rfl rfl) (sv rfl (Ak rfl) (Ar (Bk ?_)))))))
   obtain rfl := SJ h
   refine ⟨Or.inr rfl, _, _, _, (Ad (Bd.tmp _ _ rfl) Af), (Aj rfl), ?_⟩
   rfl
def I8 (a0 : Bool) (a1 : B9) : Option Bool :=
 if (!a0) then (if (decide ((a1.Lo.length : Int) = 0)) then (if (decide ((a1.Hi.length : Int) = 0)) then (some (!a1.Open)) else (some false)) else (some false)) else (if (decide ((a1.Lo.length : Int) ≤ 16)) then ((Ct (!a1.Open) a1.Hi 0 16).bind fun v1 => some v1) else (some false))
theorem Pr {a0 : Bool} {a1 : B9} {r : Bool} (h : I8 a0 a1 = some r) : Bp Tryz.prog 64 [.one (.b a0), .agg (EL.el a1)] (· = .s (.one (.b r))) := by
 unfold I8 at h
 refine A2 Tryz.func64 rfl (nt := 34) rfl (Nbl rfl) ?_
 intro w0 S0
 refine Aq (Ab (Jj rfl rfl (sv rfl (Ak rfl) (Ar (Aq (Aq (Ab (sv rfl (Ag rfl) (sv rfl (Ca rfl) (Ar (ccI h rfl (fun h => ?_) (fun h => ?_))))))))))))
 ·refine Aq (Ab (sv rfl (Aa Tz rfl) (sv rfl (Ae L5 rfl (.lp _ _ _ rfl) rfl) (sv rfl (A0 Li rfl) (sv rfl (Br rfl rfl) (sv rfl (Ag rfl) (Bq 11 rfl (fun hc => ?_) (fun hc => ?_))))))))
  ·replace h := B2 hc h
   clear hc
   refine son rfl rfl rfl (sv rfl (Aa Qx rfl) (son rfl rfl rfl (sv rfl (Ae L5 rfl (.lp _ _ _ rfl) rfl) (son rfl rfl rfl (sv rfl (A0 Li rfl) (son rfl rfl rfl (sv rfl (Br rfl rfl) (sv rfl (Av rfl rfl) (sv rfl (Ag rfl) (Bq 17 rfl (fun hc => ?_) (fun hc => ?_)))))))))))
   ·replace h := B2 hc h
    clear hc
    refine son rfl rfl rfl (sv rfl (Aa X9 rfl) (son rfl rfl rfl (sv rfl (Ae ti4 rfl (.lp _ _ _ rfl) rfl) (son rfl rfl rfl (sv rfl (Ca rfl) (sv rfl (Av rfl rfl) (sv rfl (Ak rfl) (Ar (Bk (Au ?_))))))))))
    obtain rfl := SJ h
    refine ⟨Or.inr rfl, _, _, _, (Ad (Bd.tmp _ _ rfl) Af), (Aj rfl), ?_⟩
    rfl
   ·replace h := B3 hc h
    clear hc
    refine Aw rfl rfl rfl rfl (Aw rfl rfl rfl rfl (Aw rfl rfl rfl rfl (sv rfl (An rfl rfl) (sv rfl (Ak rfl) (Ar (Bk (Au ?_)))))))
    obtain rfl := SJ h
    refine ⟨Or.inr rfl, _, _, _, (Ad (Bd.tmp _ _ rfl) Af), (Aj rfl), ?_⟩
    rfl
  ·replace h := B3 hc h
   clear hc
   refine Aw rfl rfl rfl rfl (Aw rfl rfl rfl rfl (Aw rfl rfl rfl rfl (Aw rfl rfl rfl rfl (sv rfl (An rfl rfl) (sv rfl (Ag rfl) (Aw rfl rfl rfl rfl (Aw rfl rfl rfl rfl (Aw rfl rfl rfl rfl (sv rfl (An rfl rfl) (sv rfl (Ak rfl) (Ar (Bk (Au ?_)))))))))))))
   obtain rfl := SJ h
   refine ⟨Or.inr rfl, _, _, _, (Ad (Bd.tmp _ _ rfl) Af), (Aj rfl), ?_⟩
   rfl
 ·refine Bl (Ah (Aq (Ab (sv rfl (Aa Tz rfl) (sv rfl (Ae L5 rfl (.lp _ _ _ rfl) rfl) (sv rfl (A0 Li rfl) (sv rfl (F3 rfl rfl) (sv rfl (Ag rfl) (Bq 26 rfl (fun hc => ?_) (fun hc => ?_))))))))))
  ·replace h := B2 hc h
   clear hc
   refine son rfl rfl rfl (sv rfl (Aa X9 rfl) (son rfl rfl rfl (sv rfl (Ae ti4 rfl (.lp _ _ _ rfl) rfl) (son rfl rfl rfl (sv rfl (Ca rfl) (son rfl rfl rfl (sv rfl (Aa Qx rfl) (son rfl rfl rfl (sv rfl (Ae L5 rfl (.lp _ _ _ rfl) rfl) (son rfl rfl rfl ?_))))))))))
   obtain ⟨v1, hv1, h⟩ := Am h
   refine A3 rfl Alk (Ac rfl (Ac rfl (Ac rfl (Ac rfl Al)))) (Aj rfl) (D6 hv1) (sv rfl (Av rfl rfl) (sv rfl (Ak rfl) (Ar (Bk ?_))))
   obtain rfl := SJ h
   refine ⟨Or.inr rfl, _, _, _, (Ad (Bd.tmp _ _ rfl) Af), (Aj rfl), ?_⟩
   rfl
  ·replace h := B3 hc h
   clear hc
   refine Aw rfl rfl rfl rfl (Aw rfl rfl rfl rfl (Aw rfl rfl rfl rfl (Aw rfl rfl rfl rfl (Aw rfl rfl rfl rfl (Aw rfl rfl rfl rfl (sv rfl (An rfl rfl) (sv rfl (Ak rfl) (Ar (Bk ?_)))))))))
   obtain rfl := SJ h
   refine ⟨Or.inr rfl, _, _, _, (Ad (Bd.tmp _ _ rfl) Af), (Aj rfl), ?_⟩
   rfl
def I4 (a0 : B6) : Option Bool :=
 (Jc a0.Kind).bind fun v1 => (Hk a0.Kind).bind fun v2 => if v2 then ((Eb a0.Seq 4294967295).bind fun v3 => if v3 then ((I5 v1.token_ a0.Token 1099511627776).bind fun v4 => if v4 then ((I5 v1.attempt_ a0.Attempt 65535).bind fun v5 => if v5 then (if v1.ro_ then ((Ct v1.key_ a0.Key 1 16).bind fun v6 => if v6 then ((Ct v1.val_ a0.Val 0 32).bind fun v7 => if v7 then ((I8 v1.rng_ a0.Rng).bind fun v8 => some v8) else (some false)) else (some false)) else (if (!a0.RO) then ((Ct v1.key_ a0.Key 1 16).bind fun v9 => if v9 then ((Ct v1.val_ a0.Val 0 32).bind fun v10 => if v10 then ((I8 v1.rng_ a0.Rng).bind fun v11 => some v11) else (some false)) else (some false)) else (some false))) else (some false)) else (some false)) else (some false)) else (some false)
theorem Po {a0 : B6} {r : Bool} (h : I4 a0 = some r) : Bp Tryz.prog 33 [.agg (EL.el a0)] (· = .s (.one (.b r))) := by
 unfold I4 at h
 refine A2 Tryz.func33 rfl (nt := 59) rfl (Nbl rfl) ?_
 intro w0 S0
 refine Aq (Ab (Jj rfl rfl (sv rfl (Ak rfl) (Ar (Aq (Ab (sv rfl (Aa P8 rfl) (sv rfl (Ae ti3 rfl (.lp _ _ _ rfl) rfl) ?_))))))))
 obtain ⟨v1, hv1, h⟩ := Am h
 refine A3 rfl Atu (Ac rfl Al) (Aj rfl) (Pi hv1) (B1 rfl Akc (Ax Aik rfl rfl rfl rfl (Nbl rfl) (Bu [.box (EL.el a0), .box (EL.el v1)] rfl (Ar (Aq (Ab (sv rfl (Aa P8 rfl) (sv rfl (Ae ti3 rfl (.lp _ _ _ rfl) rfl) ?_))))))))
 obtain ⟨v2, hv2, h⟩ := Am h
 refine A3 rfl Aq2 (Ac rfl Al) (Aj rfl) (L8 hv2) (sv rfl (Ag rfl) (Bq 10 rfl (fun hc => ?_) (fun hc => ?_)))
 ·replace h := B2 hc h
  clear hc
  refine son rfl rfl rfl (sv rfl (Aa Qq rfl) (son rfl rfl rfl (sv rfl (Ae ti3 rfl (.lp _ _ _ rfl) rfl) (son rfl rfl rfl ?_))))
  obtain ⟨v3, hv3, h⟩ := Am h
  refine A3 rfl Alm (Ac rfl (Ac rfl Al)) (Aj rfl) (F2 hv3) (sv rfl (Av rfl rfl) (sv rfl (Ag rfl) (Bq 15 rfl (fun hc => ?_) (fun hc => ?_))))
  ·replace h := B2 hc h
   clear hc
   refine son rfl rfl rfl (sv rfl (Aa Agv rfl) (son rfl rfl rfl (sv rfl (Ae ti4 rfl (.lp _ _ _ rfl) rfl) (son rfl rfl rfl (sv rfl (Aa Akt rfl) (son rfl rfl rfl (sv rfl (Ae ti3 rfl (.lp _ _ _ rfl) rfl) (son rfl rfl rfl ?_))))))))
   obtain ⟨v4, hv4, h⟩ := Am h
   refine A3 rfl At9 (Ac rfl (Ac rfl (Ac rfl Al))) (Aj rfl) (Pc hv4) (sv rfl (Av rfl rfl) (sv rfl (Ag rfl) (Bq 22 rfl (fun hc => ?_) (fun hc => ?_))))
   ·replace h := B2 hc h
    clear hc
    refine son rfl rfl rfl (sv rfl (Aa Ag4 rfl) (son rfl rfl rfl (sv rfl (Ae ti4 rfl (.lp _ _ _ rfl) rfl) (son rfl rfl rfl (sv rfl (Aa Ak3 rfl) (son rfl rfl rfl (sv rfl (Ae ti3 rfl (.lp _ _ _ rfl) rfl) (son rfl rfl rfl ?_))))))))
    obtain ⟨v5, hv5, h⟩ := Am h
    refine A3 rfl At9 (Ac rfl (Ac rfl (Ac rfl Al))) (Aj rfl) (Pc hv5) (sv rfl (Av rfl rfl) (sv rfl (Ag rfl) (Bq 29 rfl (fun hc => ?_) (fun hc => ?_))))
    ·replace h := B2 hc h
     clear hc
     refine son rfl rfl rfl (sv rfl (Aa Agq rfl) (son rfl rfl rfl (sv rfl (Ae ti4 rfl (.lp _ _ _ rfl) rfl) (son rfl rfl rfl (sv rfl (Ag rfl) (Bq 32 rfl (fun hc => ?_) (fun hc => ?_)))))))
     ·replace h := B2 hc h
      clear hc
      refine Aw rfl rfl rfl rfl (Aw rfl rfl rfl rfl (Aw rfl rfl rfl rfl (son rfl rfl rfl (sv rfl (Av rfl rfl) (sv rfl (Av rfl rfl) (sv rfl (Ag rfl) (son rfl rfl rfl (sv rfl (Aa Abp rfl) (son rfl rfl rfl (sv rfl (Ae ti4 rfl (.lp _ _ _ rfl) rfl) (son rfl rfl rfl (sv rfl (Aa Ag5 rfl) (son rfl rfl rfl (sv rfl (Ae L5 rfl (.lp _ _ _ rfl) rfl) (son rfl rfl rfl ?_)))))))))))))))
      obtain ⟨v6, hv6, h⟩ := Am h
      refine A3 rfl Alk (Ac rfl (Ac rfl (Ac rfl (Ac rfl Al)))) (Aj rfl) (D6 hv6) (sv rfl (Av rfl rfl) (sv rfl (Ag rfl) (Bq 45 rfl (fun hc => ?_) (fun hc => ?_))))
      ·replace h := B2 hc h
       clear hc
       refine son rfl rfl rfl (sv rfl (Aa Abg rfl) (son rfl rfl rfl (sv rfl (Ae ti4 rfl (.lp _ _ _ rfl) rfl) (son rfl rfl rfl (sv rfl (Aa Agj rfl) (son rfl rfl rfl (sv rfl (Ae L5 rfl (.lp _ _ _ rfl) rfl) (son rfl rfl rfl ?_))))))))
       obtain ⟨v7, hv7, h⟩ := Am h
       refine A3 rfl Alk (Ac rfl (Ac rfl (Ac rfl (Ac rfl Al)))) (Aj rfl) (D6 hv7) (sv rfl (Av rfl rfl) (sv rfl (Ag rfl) (Bq 52 rfl (fun hc => ?_) (fun hc => ?_))))
       ·replace h := B2 hc h
        clear hc
        refine son rfl rfl rfl (sv rfl (Aa Abu rfl) (son rfl rfl rfl (sv rfl (Ae ti4 rfl (.lp _ _ _ rfl) rfl) (son rfl rfl rfl (sv rfl (Aa Aaz rfl) (son rfl rfl rfl (sv rfl (Ao Ain rfl (.lp _ _ _ rfl) (Nbl rfl)) (son rfl rfl rfl ?_))))))))
        obtain ⟨v8, hv8, h⟩ := Am h
        refine A3 rfl Auw (Ac rfl (Ac rfl Al)) (Aj rfl) (Pr hv8) (sv rfl (Av rfl rfl) (sv rfl (Ak rfl) (Ar (Bk ?_))))
        obtain rfl := SJ h
        refine ⟨Or.inr rfl, _, _, _, (Ad (Bd.tmp _ _ rfl) Af), (Aj rfl), ?_⟩
        rfl
       ·replace h := B3 hc h
        clear hc
        refine Aw rfl rfl rfl rfl (Aw rfl rfl rfl rfl (Aw rfl rfl rfl rfl (Aw rfl rfl rfl rfl (Aw rfl rfl rfl rfl (sv rfl (An rfl rfl) (sv rfl (Ak rfl) (Ar (Bk ?_))))))))
        obtain rfl := SJ h
        refine ⟨Or.inr rfl, _, _, _, (Ad (Bd.tmp _ _ rfl) Af), (Aj rfl), ?_⟩
        rfl
      ·replace h := B3 hc h
       clear hc
       refine Aw rfl rfl rfl rfl (Aw rfl rfl rfl rfl (Aw rfl rfl rfl rfl (Aw rfl rfl rfl rfl (Aw rfl rfl rfl rfl (sv rfl (An rfl rfl) (sv rfl (Ag rfl) (Aw rfl rfl rfl rfl (Aw rfl rfl rfl rfl (Aw rfl rfl rfl rfl (Aw rfl rfl rfl rfl (Aw rfl rfl rfl rfl (sv rfl (An rfl rfl) (sv rfl (Ak rfl) (Ar (Bk ?_)))))))))))))))
       obtain rfl := SJ h
       refine ⟨Or.inr rfl, _, _, _, (Ad (Bd.tmp _ _ rfl) Af), (Aj rfl), ?_⟩
       rfl
     ·replace h := B3 hc h
      clear hc
      refine son rfl rfl rfl (sv rfl (Aa Alb rfl) (son rfl rfl rfl (sv rfl (Ae ti4 rfl (.lp _ _ _ rfl) rfl) (son rfl rfl rfl (sv rfl (Ca rfl) (son rfl rfl rfl (sv rfl (An rfl rfl) (sv rfl (Av rfl rfl) (sv rfl (Ag rfl) (Bq 38 rfl (fun hc => ?_) (fun hc => ?_)))))))))))
      ·replace h := B2 hc h
       clear hc
       refine son rfl rfl rfl (sv rfl (Aa Abp rfl) (son rfl rfl rfl (sv rfl (Ae ti4 rfl (.lp _ _ _ rfl) rfl) (son rfl rfl rfl (sv rfl (Aa Ag5 rfl) (son rfl rfl rfl (sv rfl (Ae L5 rfl (.lp _ _ _ rfl) rfl) (son rfl rfl rfl ?_))))))))
       obtain ⟨v9, hv9, h⟩ := Am h
       refine A3 rfl Alk (Ac rfl (Ac rfl (Ac rfl (Ac rfl Al)))) (Aj rfl) (D6 hv9) (sv rfl (Av rfl rfl) (sv rfl (Ag rfl) (Bq 45 rfl (fun hc => ?_) (fun hc => ?_))))
       ·replace h := B2 hc h
        clear hc
        refine son rfl rfl rfl (sv rfl (Aa Abg rfl) (son rfl rfl rfl (sv rfl (Ae ti4 rfl (.lp _ _ _ rfl) rfl) (son rfl rfl rfl (sv rfl (Aa Agj rfl) (son rfl rfl rfl (sv rfl (Ae L5 rfl (.lp _ _ _ rfl) rfl) (son rfl rfl rfl ?_))))))))
        obtain ⟨v10, hv10, h⟩ := Am h
        refine A3 rfl Alk (Ac rfl (Ac rfl (Ac rfl (Ac rfl Al)))) (Aj rfl) (D6 hv10) (sv rfl (Av rfl rfl) (sv rfl (Ag rfl) (Bq 52 rfl (fun hc => ?_) (fun hc => ?_))))
        ·replace h := B2 hc h
         clear hc
         refine son rfl rfl rfl (sv rfl (Aa Abu rfl) (son rfl rfl rfl (sv rfl (Ae ti4 rfl (.lp _ _ _ rfl) rfl) (son rfl rfl rfl (sv rfl (Aa Aaz rfl) (son rfl rfl rfl (sv rfl (Ao Ain rfl (.lp _ _ _ rfl) (Nbl rfl)) (son rfl rfl rfl ?_))))))))
         obtain ⟨v11, hv11, h⟩ := Am h
         refine A3 rfl Auw (Ac rfl (Ac rfl Al)) (Aj rfl) (Pr hv11) (sv rfl (Av rfl rfl) (sv rfl (Ak rfl) (Ar (Bk ?_))))
         obtain rfl := SJ h
         refine ⟨Or.inr rfl, _, _, _, (Ad (Bd.tmp _ _ rfl) Af), (Aj rfl), ?_⟩
         rfl
        ·replace h := B3 hc h
         clear hc
         refine Aw rfl rfl rfl rfl (Aw rfl rfl rfl rfl (Aw rfl rfl rfl rfl (Aw rfl rfl rfl rfl (Aw rfl rfl rfl rfl (sv rfl (An rfl rfl) (sv rfl (Ak rfl) (Ar (Bk ?_))))))))
         obtain rfl := SJ h
         refine ⟨Or.inr rfl, _, _, _, (Ad (Bd.tmp _ _ rfl) Af), (Aj rfl), ?_⟩
         rfl
       ·replace h := B3 hc h
        clear hc
        refine Aw rfl rfl rfl rfl (Aw rfl rfl rfl rfl (Aw rfl rfl rfl rfl (Aw rfl rfl rfl rfl (Aw rfl rfl rfl rfl (sv rfl (An rfl rfl) (sv rfl (Ag rfl) (Aw rfl rfl rfl rfl (Aw rfl rfl rfl rfl (Aw rfl rfl rfl rfl (Aw rfl rfl rfl rfl (Aw rfl rfl rfl rfl (sv rfl (An rfl rfl) (sv rfl (Ak rfl) (Ar (Bk ?_)))))))))))))))
        obtain rfl := SJ h
        refine ⟨Or.inr rfl, _, _, _, (Ad (Bd.tmp _ _ rfl) Af), (Aj rfl), ?_⟩
        rfl
      ·replace h := B3 hc h
       clear hc
       refine Aw rfl rfl rfl rfl (Aw rfl rfl rfl rfl (Aw rfl rfl rfl rfl (Aw rfl rfl rfl rfl (Aw rfl rfl rfl rfl (sv rfl (An rfl rfl) (sv rfl (Ag rfl) (Aw rfl rfl rfl rfl (Aw rfl rfl rfl rfl (Aw rfl rfl rfl rfl (Aw rfl rfl rfl rfl (Aw rfl rfl rfl rfl (sv rfl (An rfl rfl) (sv rfl (Ag rfl) (Aw rfl rfl rfl rfl (Aw rfl rfl rfl rfl (Aw rfl rfl rfl rfl (Aw rfl rfl rfl rfl (Aw rfl rfl rfl rfl (sv rfl (An rfl rfl) (sv rfl (Ak rfl) (Ar (Bk ?_))))))))))))))))))))))
       obtain rfl := SJ h
       refine ⟨Or.inr rfl, _, _, _, (Ad (Bd.tmp _ _ rfl) Af), (Aj rfl), ?_⟩
       rfl
    ·replace h := B3 hc h
     clear hc
     refine Aw rfl rfl rfl rfl (Aw rfl rfl rfl rfl (Aw rfl rfl rfl rfl (Iw rfl rfl rfl (Iw rfl rfl rfl (Iw rfl rfl rfl (Aw rfl rfl rfl rfl (sv rfl (An rfl rfl) (sv rfl (Ag rfl) (Aw rfl rfl rfl rfl (Aw rfl rfl rfl rfl (Aw rfl rfl rfl rfl (Aw rfl rfl rfl rfl (Aw rfl rfl rfl rfl (sv rfl (An rfl rfl) (sv rfl (Ag rfl) (Aw rfl rfl rfl rfl (Aw rfl rfl rfl rfl (Aw rfl rfl rfl rfl (Aw rfl rfl rfl rfl (Aw rfl rfl rfl rfl (sv rfl (An rfl rfl) (sv rfl (Ag rfl) (Aw rfl rfl rfl rfl (Aw rfl rfl rfl rfl (Aw rfl rfl rfl rfl (Aw rfl rfl rfl rfl (Aw rfl rfl rfl rfl (sv rfl (An rfl rfl) (sv rfl (Ak rfl) (Ar (Bk ?_)))))))))))))))))))))))))))))))
     obtain rfl := SJ h
     refine ⟨Or.inr rfl, _, _, _, (Ad (Bd.tmp _ _ rfl) Af), (Aj rfl), ?_⟩
     rfl
   ·replace h := B3 hc h
    clear hc
    refine Aw rfl rfl rfl rfl (Aw rfl rfl rfl rfl (Aw rfl rfl rfl rfl (Aw rfl rfl rfl rfl (Aw rfl rfl rfl rfl (sv rfl (An rfl rfl) (sv rfl (Ag rfl) (Aw rfl rfl rfl rfl (Aw rfl rfl rfl rfl (Aw rfl rfl rfl rfl (Iw rfl rfl rfl (Iw rfl rfl rfl (Iw rfl rfl rfl (Aw rfl rfl rfl rfl (sv rfl (An rfl rfl) (sv rfl (Ag rfl) (Aw rfl rfl rfl rfl (Aw rfl rfl rfl rfl (Aw rfl rfl rfl rfl (Aw rfl rfl rfl rfl (Aw rfl rfl rfl rfl (sv rfl (An rfl rfl) (sv rfl (Ag rfl) (Aw rfl rfl rfl rfl (Aw rfl rfl rfl rfl (Aw rfl rfl rfl rfl (Aw rfl rfl rfl rfl (Aw rfl rfl rfl rfl (sv rfl (An rfl rfl) (sv rfl (Ag rfl) (Aw rfl rfl rfl rfl (Aw rfl rfl rfl rfl (Aw rfl rfl rfl rfl (Aw rfl rfl rfl rfl (Aw rfl rfl rfl rfl (sv rfl (An rfl rfl) (sv rfl (Ak rfl) (Ar (Bk ?_))))))))))))))))))))))))))))))))))))))
    obtain rfl := SJ h
    refine ⟨Or.inr rfl, _, _, _, (Ad (Bd.tmp _ _ rfl) Af), (Aj rfl), ?_⟩
    rfl
  ·replace h := B3 hc h
   clear hc
   refine Aw rfl rfl rfl rfl (Aw rfl rfl rfl rfl (Aw rfl rfl rfl rfl (Aw rfl rfl rfl rfl (Aw rfl rfl rfl rfl (sv rfl (An rfl rfl) (sv rfl (Ag rfl) (Aw rfl rfl rfl rfl (Aw rfl rfl rfl rfl (Aw rfl rfl rfl rfl (Aw rfl rfl rfl rfl (Aw rfl rfl rfl rfl (sv rfl (An rfl rfl) (sv rfl (Ag rfl) (Aw rfl rfl rfl rfl (Aw rfl rfl rfl rfl (Aw rfl rfl rfl rfl (Iw rfl rfl rfl (Iw rfl rfl rfl (Iw rfl rfl rfl (Aw rfl rfl rfl rfl (sv rfl (An rfl rfl) (sv rfl (Ag rfl) (Aw rfl rfl rfl rfl (Aw rfl rfl rfl rfl (Aw rfl rfl rfl rfl (Aw rfl rfl rfl rfl (Aw rfl rfl rfl rfl (sv rfl (An rfl rfl) (sv rfl (Ag rfl) (Aw rfl rfl rfl rfl (Aw rfl rfl rfl rfl (Aw rfl rfl rfl rfl (Aw rfl rfl rfl rfl (Aw rfl rfl rfl rfl (sv rfl (An rfl rfl) (sv rfl (Ag rfl) (Aw rfl rfl rfl rfl (Aw rfl rfl rfl rfl (Aw rfl rfl rfl rfl (Aw rfl rfl rfl rfl (Aw rfl rfl rfl rfl (sv rfl (An rfl rfl) (sv rfl (Ak rfl) (Ar (Bk ?_)))))))))))))))))))))))))))))))))))))))))))))
   obtain rfl := SJ h
   refine ⟨Or.inr rfl, _, _, _, (Ad (Bd.tmp _ _ rfl) Af), (Aj rfl), ?_⟩
   rfl
 ·replace h := B3 hc h
  clear hc
  refine Aw rfl rfl rfl rfl (Aw rfl rfl rfl rfl (Aw rfl rfl rfl rfl (sv rfl (An rfl rfl) (sv rfl (Ag rfl) (Aw rfl rfl rfl rfl (Aw rfl rfl rfl rfl (Aw rfl rfl rfl rfl (Aw rfl rfl rfl rfl (Aw rfl rfl rfl rfl (sv rfl (An rfl rfl) (sv rfl (Ag rfl) (Aw rfl rfl rfl rfl (Aw rfl rfl rfl rfl (Aw rfl rfl rfl rfl (Aw rfl rfl rfl rfl (Aw rfl rfl rfl rfl (sv rfl (An rfl rfl) (sv rfl (Ag rfl) (Aw rfl rfl rfl rfl (Aw rfl rfl rfl rfl (Aw rfl rfl rfl rfl (Iw rfl rfl rfl (Iw rfl rfl rfl (Iw rfl rfl rfl (Aw rfl rfl rfl rfl (sv rfl (An rfl rfl) (sv rfl (Ag rfl) (Aw rfl rfl rfl rfl (Aw rfl rfl rfl rfl (Aw rfl rfl rfl rfl (Aw rfl rfl rfl rfl (Aw rfl rfl rfl rfl (sv rfl (An rfl rfl) (sv rfl (Ag rfl) (Aw rfl rfl rfl rfl (Aw rfl rfl rfl rfl (Aw rfl rfl rfl rfl (Aw rfl rfl rfl rfl (Aw rfl rfl rfl rfl (sv rfl (An rfl rfl) (sv rfl (Ag rfl) (Aw rfl rfl rfl rfl (Aw rfl rfl rfl rfl (Aw rfl rfl rfl rfl (Aw rfl rfl rfl rfl (Aw rfl rfl rfl rfl (sv rfl (An rfl rfl) (sv rfl (Ak rfl) (Ar (Bk ?_))))))))))))))))))))))))))))))))))))))))))))))))))
  obtain rfl := SJ h
  refine ⟨Or.inr rfl, _, _, _, (Ad (Bd.tmp _ _ rfl) Af), (Aj rfl), ?_⟩
  rfl
def E1 (a0 : Ai) : Option Bool :=
 (G4 a0.Cfg).bind fun v1 => if v1 then ((Ga a0).bind fun v2 => if v2 then ((He a0.Tasks).bind fun v3 => if v3 then ((Hz a0).bind fun v4 => if v4 then ((Co a0.Phase).bind fun v5 => if (!v5) then ((G0 a0.In).bind fun v6 => if v6 then (some (decide ((a0.Out.length : Int) ≤ 65536))) else (some false)) else ((I4 a0.Req).bind fun v7 => if v7 then ((G0 a0.In).bind fun v8 => if v8 then (some (decide ((a0.Out.length : Int) ≤ 65536))) else (some false)) else (some false))) else (some false)) else (some false)) else (some false)) else (some false)
theorem Ht {a0 : Ai} {r : Bool} (h : E1 a0 = some r) : Bp Tryz.prog 12 [.agg (EL.el a0)] (· = .s (.one (.b r))) := by
 unfold E1 at h
 refine A2 Tryz.func12 rfl (nt := 41) rfl (Nbl rfl) ?_
 intro w0 S0
 refine Aq (Ab (Jj rfl rfl (sv rfl (Ak rfl) (Ar (Aq (Ab (sv rfl (Aa Q8 rfl) (sv rfl (Ao Aqo rfl (.lp _ _ _ rfl) (Nbl rfl)) ?_))))))))
 obtain ⟨v1, hv1, h⟩ := Am h
 refine A3 rfl Auh (Ac rfl Al) (Aj rfl) (Mn hv1) (sv rfl (Ag rfl) (Bq 6 rfl (fun hc => ?_) (fun hc => ?_)))
 ·replace h := B2 hc h
  clear hc
  refine son rfl rfl rfl (sv rfl (Ao B8 rfl (.lp _ _ _ rfl) (Nbl rfl)) (son rfl rfl rfl ?_))
  obtain ⟨v2, hv2, h⟩ := Am h
  refine A3 rfl Awg (Ac rfl Al) (Aj rfl) (Pm hv2) (sv rfl (Av rfl rfl) (sv rfl (Ag rfl) (Bq 10 rfl (fun hc => ?_) (fun hc => ?_))))
  ·replace h := B2 hc h
   clear hc
   refine son rfl rfl rfl (sv rfl (Aa Mz rfl) (son rfl rfl rfl (sv rfl (Ae Zk rfl (.lp _ _ _ rfl) rfl) (son rfl rfl rfl ?_))))
   obtain ⟨v3, hv3, h⟩ := Am h
   refine A3 rfl Avk (Ac rfl Al) (Aj rfl) (Qf hv3) (sv rfl (Av rfl rfl) (sv rfl (Ag rfl) (Bq 15 rfl (fun hc => ?_) (fun hc => ?_))))
   ·replace h := B2 hc h
    clear hc
    refine son rfl rfl rfl (sv rfl (Ao B8 rfl (.lp _ _ _ rfl) (Nbl rfl)) (son rfl rfl rfl ?_))
    obtain ⟨v4, hv4, h⟩ := Am h
    refine A3 rfl Au6 (Ac rfl Al) (Aj rfl) (Qy hv4) (sv rfl (Av rfl rfl) (sv rfl (Ag rfl) (Bq 19 rfl (fun hc => ?_) (fun hc => ?_))))
    ·replace h := B2 hc h
     clear hc
     refine son rfl rfl rfl (sv rfl (Aa Hf rfl) (son rfl rfl rfl (sv rfl (Ae ti3 rfl (.lp _ _ _ rfl) rfl) (son rfl rfl rfl ?_))))
     obtain ⟨v5, hv5, h⟩ := Am h
     refine A3 rfl Ai1 (Ac rfl Al) (Aj rfl) (D1 hv5) (son rfl rfl rfl (sv rfl (Ca rfl) (son rfl rfl rfl (sv rfl (Ag rfl) (Bq 24 rfl (fun hc => ?_) (fun hc => ?_))))))
     ·replace h := B2 hc h
      clear hc
      refine Aw rfl rfl rfl rfl (Aw rfl rfl rfl rfl (Aw rfl rfl rfl rfl (son rfl rfl rfl (sv rfl (Av rfl rfl) (sv rfl (Av rfl rfl) (sv rfl (Ag rfl) (son rfl rfl rfl (sv rfl (Aa V3 rfl) (son rfl rfl rfl (sv rfl (Ao Ah9 rfl (.lp _ _ _ rfl) (Nbl rfl)) (son rfl rfl rfl ?_)))))))))))
      obtain ⟨v6, hv6, h⟩ := Am h
      refine A3 rfl Ass (Ac rfl Al) (Aj rfl) (M2 hv6) (sv rfl (Av rfl rfl) (sv rfl (Ag rfl) (Bq 35 rfl (fun hc => ?_) (fun hc => ?_))))
      ·replace h := B2 hc h
       clear hc
       refine son rfl rfl rfl (sv rfl (Aa Rf rfl) (son rfl rfl rfl (sv rfl (Ae L5 rfl (.lp _ _ _ rfl) rfl) (son rfl rfl rfl (sv rfl (A0 Li rfl) (son rfl rfl rfl (sv rfl (F3 rfl rfl) (sv rfl (Av rfl rfl) (sv rfl (Ak rfl) (Ar (Bk ?_)))))))))))
       obtain rfl := SJ h
       refine ⟨Or.inr rfl, _, _, _, (Ad (Bd.tmp _ _ rfl) Af), (Aj rfl), ?_⟩
       rfl
      ·replace h := B3 hc h
       clear hc
       refine Aw rfl rfl rfl rfl (Aw rfl rfl rfl rfl (Aw rfl rfl rfl rfl (Aw rfl rfl rfl rfl (sv rfl (An rfl rfl) (sv rfl (Ak rfl) (Ar (Bk ?_)))))))
       obtain rfl := SJ h
       refine ⟨Or.inr rfl, _, _, _, (Ad (Bd.tmp _ _ rfl) Af), (Aj rfl), ?_⟩
       rfl
     ·replace h := B3 hc h
      clear hc
      refine son rfl rfl rfl (sv rfl (Aa Jp rfl) (son rfl rfl rfl (sv rfl (Ao Aex rfl (.lp _ _ _ rfl) (Nbl rfl)) (son rfl rfl rfl ?_))))
      obtain ⟨v7, hv7, h⟩ := Am h
      refine A3 rfl At8 (Ac rfl Al) (Aj rfl) (Po hv7) (son rfl rfl rfl (sv rfl (An rfl rfl) (sv rfl (Av rfl rfl) (sv rfl (Ag rfl) (Bq 30 rfl (fun hc => ?_) (fun hc => ?_))))))
      ·replace h := B2 hc h
       clear hc
       refine son rfl rfl rfl (sv rfl (Aa V3 rfl) (son rfl rfl rfl (sv rfl (Ao Ah9 rfl (.lp _ _ _ rfl) (Nbl rfl)) (son rfl rfl rfl ?_))))
       obtain ⟨v8, hv8, h⟩ := Am h
       refine A3 rfl Ass (Ac rfl Al) (Aj rfl) (M2 hv8) (sv rfl (Av rfl rfl) (sv rfl (Ag rfl) (Bq 35 rfl (fun hc => ?_) (fun hc => ?_))))
       ·replace h := B2 hc h
        clear hc
        refine son rfl rfl rfl (sv rfl (Aa Rf rfl) (son rfl rfl rfl (sv rfl (Ae L5 rfl (.lp _ _ _ rfl) rfl) (son rfl rfl rfl (sv rfl (A0 Li rfl) (son rfl rfl rfl (sv rfl (F3 rfl rfl) (sv rfl (Av rfl rfl) (sv rfl (Ak rfl) (Ar (Bk ?_)))))))))))
        obtain rfl := SJ h
        refine ⟨Or.inr rfl, _, _, _, (Ad (Bd.tmp _ _ rfl) Af), (Aj rfl), ?_⟩
        rfl
       ·replace h := B3 hc h
        clear hc
        refine Aw rfl rfl rfl rfl (Aw rfl rfl rfl rfl (Aw rfl rfl rfl rfl (Aw rfl rfl rfl rfl (sv rfl (An rfl rfl) (sv rfl (Ak rfl) (Ar (Bk ?_)))))))
        obtain rfl := SJ h
        refine ⟨Or.inr rfl, _, _, _, (Ad (Bd.tmp _ _ rfl) Af), (Aj rfl), ?_⟩
        rfl
      ·replace h := B3 hc h
       clear hc
       refine Aw rfl rfl rfl rfl (Aw rfl rfl rfl rfl (Aw rfl rfl rfl rfl (sv rfl (An rfl rfl) (sv rfl (Ag rfl) (Aw rfl rfl rfl rfl (Aw rfl rfl rfl rfl (Aw rfl rfl rfl rfl (Aw rfl rfl rfl rfl (sv rfl (An rfl rfl) (sv rfl (Ak rfl) (Ar (Bk ?_))))))))))))
       obtain rfl := SJ h
       refine ⟨Or.inr rfl, _, _, _, (Ad (Bd.tmp _ _ rfl) Af), (Aj rfl), ?_⟩
       rfl
    ·replace h := B3 hc h
     clear hc
     refine Aw rfl rfl rfl rfl (Aw rfl rfl rfl rfl (Aw rfl rfl rfl rfl (Aw rfl rfl rfl rfl (Aw rfl rfl rfl rfl (Iw rfl rfl rfl (Iw rfl rfl rfl (Iw rfl rfl rfl (Aw rfl rfl rfl rfl (sv rfl (An rfl rfl) (sv rfl (Ag rfl) (Aw rfl rfl rfl rfl (Aw rfl rfl rfl rfl (Aw rfl rfl rfl rfl (sv rfl (An rfl rfl) (sv rfl (Ag rfl) (Aw rfl rfl rfl rfl (Aw rfl rfl rfl rfl (Aw rfl rfl rfl rfl (Aw rfl rfl rfl rfl (sv rfl (An rfl rfl) (sv rfl (Ak rfl) (Ar (Bk ?_)))))))))))))))))))))))
     obtain rfl := SJ h
     refine ⟨Or.inr rfl, _, _, _, (Ad (Bd.tmp _ _ rfl) Af), (Aj rfl), ?_⟩
     rfl
   ·replace h := B3 hc h
    clear hc
    refine Aw rfl rfl rfl rfl (Aw rfl rfl rfl rfl (sv rfl (An rfl rfl) (sv rfl (Ag rfl) (Aw rfl rfl rfl rfl (Aw rfl rfl rfl rfl (Aw rfl rfl rfl rfl (Aw rfl rfl rfl rfl (Aw rfl rfl rfl rfl (Iw rfl rfl rfl (Iw rfl rfl rfl (Iw rfl rfl rfl (Aw rfl rfl rfl rfl (sv rfl (An rfl rfl) (sv rfl (Ag rfl) (Aw rfl rfl rfl rfl (Aw rfl rfl rfl rfl (Aw rfl rfl rfl rfl (sv rfl (An rfl rfl) (sv rfl (Ag rfl) (Aw rfl rfl rfl rfl (Aw rfl rfl rfl rfl (Aw rfl rfl rfl rfl (Aw rfl rfl rfl rfl (sv rfl (An rfl rfl) (sv rfl (Ak rfl) (Ar (Bk ?_)))))))))))))))))))))))))))
    obtain rfl := SJ h
    refine ⟨Or.inr rfl, _, _, _, (Ad (Bd.tmp _ _ rfl) Af), (Aj rfl), ?_⟩
    rfl
  ·replace h := B3 hc h
   clear hc
   refine Aw rfl rfl rfl rfl (Aw rfl rfl rfl rfl (Aw rfl rfl rfl rfl (sv rfl (An rfl rfl) (sv rfl (Ag rfl) (Aw rfl rfl rfl rfl (Aw rfl rfl rfl rfl (sv rfl (An rfl rfl) (sv rfl (Ag rfl) (Aw rfl rfl rfl rfl (Aw rfl rfl rfl rfl (Aw rfl rfl rfl rfl (Aw rfl rfl rfl rfl (Aw rfl rfl rfl rfl (Iw rfl rfl rfl (Iw rfl rfl rfl (Iw rfl rfl rfl (Aw rfl rfl rfl rfl (sv rfl (An rfl rfl) (sv rfl (Ag rfl) (Aw rfl rfl rfl rfl (Aw rfl rfl rfl rfl (Aw rfl rfl rfl rfl (sv rfl (An rfl rfl) (sv rfl (Ag rfl) (Aw rfl rfl rfl rfl (Aw rfl rfl rfl rfl (Aw rfl rfl rfl rfl (Aw rfl rfl rfl rfl (sv rfl (An rfl rfl) (sv rfl (Ak rfl) (Ar (Bk ?_))))))))))))))))))))))))))))))))
   obtain rfl := SJ h
   refine ⟨Or.inr rfl, _, _, _, (Ad (Bd.tmp _ _ rfl) Af), (Aj rfl), ?_⟩
   rfl
 ·replace h := B3 hc h
  clear hc
  refine Aw rfl rfl rfl rfl (Aw rfl rfl rfl rfl (sv rfl (An rfl rfl) (sv rfl (Ag rfl) (Aw rfl rfl rfl rfl (Aw rfl rfl rfl rfl (Aw rfl rfl rfl rfl (sv rfl (An rfl rfl) (sv rfl (Ag rfl) (Aw rfl rfl rfl rfl (Aw rfl rfl rfl rfl (sv rfl (An rfl rfl) (sv rfl (Ag rfl) (Aw rfl rfl rfl rfl (Aw rfl rfl rfl rfl (Aw rfl rfl rfl rfl (Aw rfl rfl rfl rfl (Aw rfl rfl rfl rfl (Iw rfl rfl rfl (Iw rfl rfl rfl (Iw rfl rfl rfl (Aw rfl rfl rfl rfl (sv rfl (An rfl rfl) (sv rfl (Ag rfl) (Aw rfl rfl rfl rfl (Aw rfl rfl rfl rfl (Aw rfl rfl rfl rfl (sv rfl (An rfl rfl) (sv rfl (Ag rfl) (Aw rfl rfl rfl rfl (Aw rfl rfl rfl rfl (Aw rfl rfl rfl rfl (Aw rfl rfl rfl rfl (sv rfl (An rfl rfl) (sv rfl (Ak rfl) (Ar (Bk ?_))))))))))))))))))))))))))))))))))))
  obtain rfl := SJ h
  refine ⟨Or.inr rfl, _, _, _, (Ad (Bd.tmp _ _ rfl) Af), (Aj rfl), ?_⟩
  rfl
def I2 (a0 : Int) (b1 : Unit) : Option (List A9) :=
 if (decide (0 < (wI (a0 - (wI (0 - 0)))))) then (if 0 < (wI (a0 - (wI (0 - 0)))) ∧ (wI (a0 - (wI (0 - 0)))) * ((96 : Nat) : Int) ≤ 281474976710656 then (if (0 : Int) ≤ 0 ∧ 0 ≤ ((List.replicate (wI (a0 - (wI (0 - 0)))).toNat Lx).length : Int) then (some ((List.replicate (wI (a0 - (wI (0 - 0)))).toNat Lx).take (0 : Int).toNat)) else none) else none) else (some ([] : List A9))
def Jb (a0 : Int) : Option (List A9) :=
 if (decide (a0 < 0)) then none else (I2 a0 ())
theorem S9 {a0 : Int} {r : (List A9)} (h : Jb a0 = some r) : G3 Tryz.prog 125 [] [.one (Znl), .one (Ii6 a0)] (fun y m' => y = .s (.one (.ls 0 r.length)) ∧ m' = [.arr 61 12 0 (r.flatMap A5)]) := by
 unfold Jb at h
 refine Cv Tryz.func125 rfl (nt := 27) rfl (Nbl rfl) ?_
 intro w0 S0 X0 H0
 refine Aq (Ab (sv rfl (Ak rfl) (Ar (Aq (Aq (Ab (sv rfl (Ag rfl) (sv rfl (Cm rfl rfl) (Ar (G6 (Unit) (fun b1 => [(0, .s (.one (Znl))), (1, .s (.one (Ii6 a0)))]) (fun b1 => []) (fun b1 => I2 a0 b1 = some r) (fun _ _ => Be rfl) (fun _ _ => Az rfl) (fun _ _ => Nbl rfl) (fun b1 h => ?_) ?_))))))))))
 ·unfold I2 at h
  refine Aq (Aq (Ab (sv rfl (Ag rfl) (sv rfl (Ag rfl) (sv rfl (Kt Zm rfl) (sv rfl (Ag rfl) (sv rfl (Ks Zm rfl) (sv rfl (M1 rfl rfl) (sv rfl (M1 rfl rfl) (sv rfl (Ak rfl) (Ar (Aq (Ab (sv rfl (Ag rfl) (sv rfl (Di rfl rfl) (Ar (ccI h rfl (fun h => ?_) (fun h => ?_))))))))))))))))))
  ·refine Ab (sv rfl (Ag rfl) (sv rfl (Ag rfl) (sv rfl (Kt Zm rfl) (sv rfl (N2 Zm rfl rfl) (sv rfl (Ag rfl) ?_)))))
   obtain ⟨hm2, h⟩ := D9 h
   refine Al4 (f := A5) (z := Lx) rfl Tryz.underlying41 Arp Tryz.underlying3 (fun _ => rfl) rfl rfl rfl hm2 (by decide) ?_
   refine sv rfl (Ag rfl) (sv rfl (Ks Zm rfl) ?_)
   obtain ⟨hs3, h⟩ := D9 h
   refine Adw (f := A5) rfl Zm (fun _ => rfl) rfl rfl rfl rfl rfl hs3 ?_
   refine sv rfl (Ak rfl) (Ar (Aq (Ab (sv rfl (Ag rfl) (sv rfl (Ak rfl) (Ar (Bk ?_)))))))
   obtain rfl := SJ h
   exact ⟨Or.inr rfl, _, [1], [.one (.ls 0 ((List.replicate (wI (a0 - (wI (0 - 0)))).toNat Lx).take (0 : Int).toNat).length)], [.arr 61 12 0 (((List.replicate (wI (a0 - (wI (0 - 0)))).toNat Lx).take (0 : Int).toNat).flatMap A5)], (Ad (Bd.tmp _ _ rfl) Af), rfl, rfl, ⟨by decide, rfl⟩, rfl, rfl, ⟨rfl, rfl⟩⟩
  ·refine Bl (Ah (Aq (Ab (sv rfl (Ag rfl) (sv rfl (Ak rfl) (Ar ?_))))))
   refine O2 61 12 4 (by decide) rfl ?_
   refine Bk ?_
   obtain rfl := SJ h
   exact ⟨Or.inr rfl, _, [0], [.one (.ls 0 ([] : List A9).length)], [.arr 61 12 0 (([] : List A9).flatMap A5)], (Ad (Bd.tmp _ _ rfl) Af), rfl, rfl, ⟨by decide, rfl⟩, rfl, rfl, ⟨rfl, rfl⟩⟩
 ·skip
  refine ccI h rfl (fun h => ?_) (fun h => ?_)
  ·cases h
  ·refine Bl (Ah ?_)
   exact ⟨(), _, h, ⟨rfl, rfl, trivial⟩, rfl⟩
def Kg (b3 : (List A9)) : Option (List A9) :=
 some b3
def Et (a0 : List (List A9)) (s4 : Int × (List A9)) : Option (LB (Int × (List A9)) ((List A9))) :=
 if (decide (s4.1 < (a0.length : Int))) then ((idx a0 s4.1).bind fun u5 => if (s4.2.length + u5.length) * 96 ≤ 140737488355328 then (some (.cont ((wI (s4.1 + 1)), (s4.2 ++ u5)))) else none) else (some (.brk s4.2))
def H8 (a0 : List (List A9)) (b1 : Int) : Option (List A9) :=
 (Jb b1).bind fun v2 => (Ej (Et a0) fuel (0, v2)).bind fun e7 => Kg e7
def Er (a0 : List (List A9)) (s8 : Int × Int) : Option (LB (Int × Int) (Int)) :=
 if (decide (s8.2 < (a0.length : Int))) then ((idx a0 s8.2).bind fun u9 => if (decide ((wI (s8.1 + (u9.length : Int))) < 0)) then none else (some (.cont ((wI (s8.1 + (u9.length : Int))), (wI (s8.2 + 1)))))) else (some (.brk s8.1))
def H6 (a0 : List (List A9)) : Option (List A9) :=
 (Ej (Er a0) fuel (0, 0)).bind fun e10 => H8 a0 e10
theorem Qr {a0 : List (List A9)} {r : (List A9)} (h : H6 a0 = some r) : G3 Tryz.prog 109 [] [.one (.sl a0.length (a0.flatMap (eL A5)))] (fun y m' => y = .s (.one (.ls 0 r.length)) ∧ m' = [.arr 61 12 0 (r.flatMap A5)]) := by
 unfold H6 at h
 refine Cv Tryz.func109 rfl (nt := 36) rfl (Nbl rfl) ?_
 intro w0 S0 X0 H0
 refine Aq (Ab (sv rfl (Ak rfl) (Ar (Aq (Ab (sv rfl (Ak rfl) (Ar (Aq (Aq (Ab (sv rfl (Ag rfl) (sv rfl (A0 Ajk rfl) (sv rfl (Ag rfl) (Ar (G6 (Int) (fun b1 => [(0, .s (.one (.sl a0.length (a0.flatMap (eL A5))))), (3, .s (.one (Ii6 b1)))]) (fun b1 => []) (fun b1 => H8 a0 b1 = some r) (fun _ _ => Be rfl) (fun _ _ => Az rfl) (fun _ _ => Nbl rfl) (fun b1 h => ?_) ?_)))))))))))))))
 ·unfold H8 at h
  refine Aq (Ab (sv rfl (Ag rfl) ?_))
  obtain ⟨v2, hv2, h⟩ := Am h
  refine C3 (x' := .s (.one (.ls 0 v2.length))) (M' := [.arr 61 12 0 (v2.flatMap A5)]) [] rfl Ark (.func _) (Ac rfl (Ac rfl Al)) (S9 hv2) rfl rfl (by decide) rfl rfl rfl ?_
  refine sv rfl (Ak rfl) (Ar (Aq (Aq (Ab (sv rfl (Ag rfl) (sv rfl (A0 Ajk rfl) (sv rfl (Ag rfl) (Ar (G6 ((List A9)) (fun b3 => [(6, .s (.one (.ls 0 b3.length)))]) (fun b3 => [.arr 61 12 0 (b3.flatMap A5)]) (fun b3 => Kg b3 = some r) (fun _ _ => Be rfl) (fun _ _ => Az rfl) (fun _ _ => Nbl rfl) (fun b3 h => ?_) ?_)))))))))
  ·unfold Kg at h
   refine Aq (Ab (sv rfl (Ag rfl) (sv rfl (Ak rfl) (Ar (Bk ?_)))))
   obtain rfl := SJ h
   exact ⟨Or.inr rfl, _, [0], [.one (.ls 0 b3.length)], [.arr 61 12 0 (b3.flatMap A5)], (Ad (Bd.tmp _ _ rfl) Af), rfl, rfl, ⟨by decide, rfl⟩, rfl, rfl, ⟨rfl, rfl⟩⟩
  ·skip
   refine B4 ?_
   obtain ⟨x4, hx4, ho4⟩ := Am h
   refine C2 (G := Nat × (Int × (List A9))) (fun g => [(6, .s (.one (.ls 0 g.2.2.length))), (25, .s (.one (.sl a0.length (a0.flatMap (eL A5))))), (26, .s (.one (Ii6 (a0.length : Int)))), (27, .s (.one (Ii6 g.2.1)))]) (fun g => [.arr 61 12 0 (g.2.2.flatMap A5)]) (fun g => Ej (Et a0) g.1 g.2 = some x4) (fun g => g.1) (fuel, (0, v2)) hx4 ⟨rfl, rfl, rfl, rfl, trivial⟩ [] rfl (fun _ _ => Be rfl) (fun _ _ => Az rfl) (fun _ _ => Nbl rfl) ?_
   clear hx4 h
   rintro ⟨n4, s4⟩ h
   obtain ⟨n4, y4, rfl, h, hk4⟩ := F5 h
   unfold Et at h
   refine Aq (Ab (sv rfl (Cm rfl rfl) (Ar (Aq (ccI h rfl (fun h => ?_) (fun h => ?_))))))
   ·refine Bl (Ah (Aq (B4 (Aq (Ab ?_)))))
    obtain ⟨u5, hu5, h⟩ := Am h
    refine sv rfl (Dp (f := (eL A5)) Ajk (fun _ => rfl) rfl rfl rfl rfl hu5) ?_
    refine sv rfl (Ae Aep rfl (.cp _) rfl) (sv rfl (Ak rfl) (Ar (Ab (sv rfl (Ag rfl) (sv rfl (Ag rfl) ?_)))))
    obtain ⟨hb6, h⟩ := D9 h
    refine Aif (f := A5) (xs := s4.2) (us := u5) rfl Tryz.underlying41 Arp Au1 (fun _ => rfl) rfl rfl (.one _ _ _ _ (.id _ rfl)) rfl rfl rfl (.sl _ _ _ (Bg (f := A5) (fun _ => rfl) _)) rfl rfl hb6 (by decide) ?_
    refine sv rfl (Ak rfl) (Lz (A1 (Ah (Ab (sv rfl (B0 rfl rfl) (sv rfl (Ag rfl) (Ar ?_)))))))
    obtain rfl := SJ h
    exact ⟨(n4, ((wI (s4.1 + 1)), (s4.2 ++ u5))), _, hk4, ⟨rfl, rfl, rfl, rfl, trivial⟩, rfl, Nat.lt_succ_self _⟩
   ·refine Kn (Bh (Bh (Cd (Ah ?_))))
    obtain rfl := SJ h
    obtain rfl : _ = x4 := hk4
    exact ⟨s4.2, _, ho4, ⟨rfl, trivial⟩, rfl⟩
 ·skip
  refine B4 ?_
  obtain ⟨x8, hx8, ho8⟩ := Am h
  refine C2 (G := Nat × (Int × Int)) (fun g => [(0, .s (.one (.sl a0.length (a0.flatMap (eL A5))))), (3, .s (.one (Ii6 g.2.1))), (9, .s (.one (.sl a0.length (a0.flatMap (eL A5))))), (10, .s (.one (Ii6 (a0.length : Int)))), (11, .s (.one (Ii6 g.2.2)))]) (fun g => []) (fun g => Ej (Er a0) g.1 g.2 = some x8) (fun g => g.1) (fuel, (0, 0)) hx8 ⟨rfl, rfl, rfl, rfl, rfl, trivial⟩ [] rfl (fun _ _ => Be rfl) (fun _ _ => Az rfl) (fun _ _ => Nbl rfl) ?_
  clear hx8 h
  rintro ⟨n8, s8⟩ h
  obtain ⟨n8, y8, rfl, h, hk8⟩ := F5 h
  unfold Er at h
  refine Aq (Ab (sv rfl (Cm rfl rfl) (Ar (Aq (ccI h rfl (fun h => ?_) (fun h => ?_))))))
  ·refine Bl (Ah (Aq (B4 (Aq (Ab ?_)))))
   obtain ⟨u9, hu9, h⟩ := Am h
   refine sv rfl (Dp (f := (eL A5)) Ajk (fun _ => rfl) rfl rfl rfl rfl hu9) ?_
   refine sv rfl (Ae Aep rfl (.cp _) rfl) (sv rfl (Ak rfl) (Ar (Aq (Ab (sv rfl (Ag rfl) (sv rfl (Ag rfl) (sv rfl (A0 Zm rfl) (sv rfl (B0 rfl rfl) (sv rfl (Ak rfl) (Ar (Aq (Ab (sv rfl (Ag rfl) (sv rfl (Cm rfl rfl) (Ar (ccI h rfl (fun h => ?_) (fun h => ?_)))))))))))))))))
   ·cases h
   ·refine Bl (A1 (Ah (Ab (sv rfl (B0 rfl rfl) (sv rfl (Ag rfl) (Ar ?_))))))
    obtain rfl := SJ h
    exact ⟨(n8, ((wI (s8.1 + (u9.length : Int))), (wI (s8.2 + 1)))), _, hk8, ⟨rfl, rfl, rfl, rfl, rfl, trivial⟩, rfl, Nat.lt_succ_self _⟩
  ·refine Kn (Bh (Bh (Cd (Ah ?_))))
   obtain rfl := SJ h
   obtain rfl : _ = x8 := hk8
   exact ⟨s8.1, _, ho8, ⟨rfl, rfl, trivial⟩, rfl⟩
end Go.Proofs.YtbjckaahoacbfaaGreatDoor.Abs
