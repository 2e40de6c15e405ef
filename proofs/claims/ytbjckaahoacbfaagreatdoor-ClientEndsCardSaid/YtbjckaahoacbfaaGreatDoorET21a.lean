/-
 t
-/
import Derived.Test.YtbjckaahoacbfaaGreatDoorEAbsC
import Derived.Test.YtbjckaahoacbfaaGreatDoorProg
set_option linter.unusedVariables false
set_option linter.unusedSimpArgs false
namespace Go.Proofs.YtbjckaahoacbfaaGreatDoor.Abs
open Go.RowKit Go.Proofs
set_option maxRecDepth 100000
structure B7 where
 Lo : List UInt8
 Hi : List UInt8
 Open : Bool
def Xx (x : B7) : List Lf := [.sl x.Lo.length (x.Lo.flatMap eU8), .sl x.Hi.length (x.Hi.flatMap eU8), .b x.Open]
structure Vr where
 What : Int
 A : Int
 B : Int
 N : Int
 Key : List UInt8
 Rng : B7
def Ox (x : Vr) : List Lf := [.i .i64 x.What, .i .i64 x.A, .i .i64 x.B, .i .i64 x.N, .sl x.Key.length (x.Key.flatMap eU8), .sl x.Rng.Lo.length (x.Rng.Lo.flatMap eU8), .sl x.Rng.Hi.length (x.Rng.Hi.flatMap eU8), .b x.Rng.Open]
structure Iz where
 RO : Bool
 Ops : List Vr
def Aae (x : Iz) : List Lf := [.b x.RO, .sl x.Ops.length (x.Ops.flatMap Ox)]
structure Tl where
 Token : Int
 Prog : Iz
def Z4 (x : Tl) : List Lf := [.i .i64 x.Token, .b x.Prog.RO, .sl x.Prog.Ops.length (x.Prog.Ops.flatMap Ox)]
structure C9 where
 Key : List UInt8
 Val : List UInt8
def Dr (x : C9) : List Lf := [.sl x.Key.length (x.Key.flatMap eU8), .sl x.Val.length (x.Val.flatMap eU8)]
structure Hx where
 Kind : Int
 Seq : Int
 Code : Int
 N : Int
 Found : Bool
 Val : List UInt8
 List : List C9
def Xy (x : Hx) : List Lf := [.i .i64 x.Kind, .i .i64 x.Seq, .i .i64 x.Code, .i .i64 x.N, .b x.Found, .sl x.Val.length (x.Val.flatMap eU8), .sl x.List.length (x.List.flatMap Dr)]
structure Ka where
 What : Int
 N : Int
 Task : Tl
 Reply : Hx
 Bytes : List UInt8
def M6 (x : Ka) : List Lf := [.i .i64 x.What, .i .i64 x.N, .i .i64 x.Task.Token, .b x.Task.Prog.RO, .sl x.Task.Prog.Ops.length (x.Task.Prog.Ops.flatMap Ox), .i .i64 x.Reply.Kind, .i .i64 x.Reply.Seq, .i .i64 x.Reply.Code, .i .i64 x.Reply.N, .b x.Reply.Found, .sl x.Reply.Val.length (x.Reply.Val.flatMap eU8), .sl x.Reply.List.length (x.Reply.List.flatMap Dr), .sl x.Bytes.length (x.Bytes.flatMap eU8)]
structure Dk where
 Wait : Int
 Most : Int
 Tries : Int
def Ab7 (x : Dk) : List Lf := [.i .i64 x.Wait, .i .i64 x.Most, .i .i64 x.Tries]
structure Cp where
 Who : Int
 Plan : Dk
 Attempts : Int
 Budget : Int
def W3 (x : Cp) : List Lf := [.i .i64 x.Who, .i .i64 x.Plan.Wait, .i .i64 x.Plan.Most, .i .i64 x.Plan.Tries, .i .i64 x.Attempts, .i .i64 x.Budget]
structure B5 where
 What : Int
 A : Int
 B : Int
 N : Int
 Key : List UInt8
 Rng : B7
def Cf (x : B5) : List Lf := [.i .i64 x.What, .i .i64 x.A, .i .i64 x.B, .i .i64 x.N, .sl x.Key.length (x.Key.flatMap eU8), .sl x.Rng.Lo.length (x.Rng.Lo.flatMap eU8), .sl x.Rng.Hi.length (x.Rng.Hi.flatMap eU8), .b x.Rng.Open]
structure Co where
 RO : Bool
 Ops : List B5
def Adp (x : Co) : List Lf := [.b x.RO, .sl x.Ops.length (x.Ops.flatMap Cf)]
structure Av where
 Token : Int
 Prog : Co
def Ay (x : Av) : List Lf := [.i .i64 x.Token, .b x.Prog.RO, .sl x.Prog.Ops.length (x.Prog.Ops.flatMap Cf)]
structure Ev where
 R0 : Int
 R1 : Int
 R2 : Int
 R3 : Int
 R4 : Int
 R5 : Int
 R6 : Int
 R7 : Int
def Yl (x : Ev) : List Lf := [.i .i64 x.R0, .i .i64 x.R1, .i .i64 x.R2, .i .i64 x.R3, .i .i64 x.R4, .i .i64 x.R5, .i .i64 x.R6, .i .i64 x.R7]
structure A6 where
 PC : Int
 Regs : Ev
 Stopped : Bool
def Abz (x : A6) : List Lf := [.i .i64 x.PC, .i .i64 x.Regs.R0, .i .i64 x.Regs.R1, .i .i64 x.Regs.R2, .i .i64 x.Regs.R3, .i .i64 x.Regs.R4, .i .i64 x.Regs.R5, .i .i64 x.Regs.R6, .i .i64 x.Regs.R7, .b x.Stopped]
structure B6 where
 Kind : Int
 Seq : Int
 Token : Int
 Attempt : Int
 RO : Bool
 Key : List UInt8
 Val : List UInt8
 Rng : B7
def Air (x : B6) : List Lf := [.i .i64 x.Kind, .i .i64 x.Seq, .i .i64 x.Token, .i .i64 x.Attempt, .b x.RO, .sl x.Key.length (x.Key.flatMap eU8), .sl x.Val.length (x.Val.flatMap eU8), .sl x.Rng.Lo.length (x.Rng.Lo.flatMap eU8), .sl x.Rng.Hi.length (x.Rng.Hi.flatMap eU8), .b x.Rng.Open]
structure Bn where
 Buf : List UInt8
 Dead : Int
def W9 (x : Bn) : List Lf := [.sl x.Buf.length (x.Buf.flatMap eU8), .i .i64 x.Dead]
structure Ba where
 Token : Int
 Code : Int
 Attempt : Int
 Ts : Int
 Regs : Ev
def A8 (x : Ba) : List Lf := [.i .i64 x.Token, .i .i64 x.Code, .i .i64 x.Attempt, .i .i64 x.Ts, .i .i64 x.Regs.R0, .i .i64 x.Regs.R1, .i .i64 x.Regs.R2, .i .i64 x.Regs.R3, .i .i64 x.Regs.R4, .i .i64 x.Regs.R5, .i .i64 x.Regs.R6, .i .i64 x.Regs.R7]
structure A4 where
 Token : Int
 Attempt : Int
 Regs : Ev
def Bb (x : A4) : List Lf := [.i .i64 x.Token, .i .i64 x.Attempt, .i .i64 x.Regs.R0, .i .i64 x.Regs.R1, .i .i64 x.Regs.R2, .i .i64 x.Regs.R3, .i .i64 x.Regs.R4, .i .i64 x.Regs.R5, .i .i64 x.Regs.R6, .i .i64 x.Regs.R7]
structure Ag where
 Cfg : Cp
 Tasks : List Av
 Phase : Int
 Epoch : Int
 Seq : Int
 Attempt : Int
 Sent : Int
 Left : Int
 Resets : Int
 Risk : Bool
 St : A6
 Req : B6
 In : Bn
 Out : List UInt8
 Done : List Ba
 Tried : List A4
def W8 (x : Ag) : List Lf := [.i .i64 x.Cfg.Who, .i .i64 x.Cfg.Plan.Wait, .i .i64 x.Cfg.Plan.Most, .i .i64 x.Cfg.Plan.Tries, .i .i64 x.Cfg.Attempts, .i .i64 x.Cfg.Budget, .sl x.Tasks.length (x.Tasks.flatMap Ay), .i .i64 x.Phase, .i .i64 x.Epoch, .i .i64 x.Seq, .i .i64 x.Attempt, .i .i64 x.Sent, .i .i64 x.Left, .i .i64 x.Resets, .b x.Risk, .i .i64 x.St.PC, .i .i64 x.St.Regs.R0, .i .i64 x.St.Regs.R1, .i .i64 x.St.Regs.R2, .i .i64 x.St.Regs.R3, .i .i64 x.St.Regs.R4, .i .i64 x.St.Regs.R5, .i .i64 x.St.Regs.R6, .i .i64 x.St.Regs.R7, .b x.St.Stopped, .i .i64 x.Req.Kind, .i .i64 x.Req.Seq, .i .i64 x.Req.Token, .i .i64 x.Req.Attempt, .b x.Req.RO, .sl x.Req.Key.length (x.Req.Key.flatMap eU8), .sl x.Req.Val.length (x.Req.Val.flatMap eU8), .sl x.Req.Rng.Lo.length (x.Req.Rng.Lo.flatMap eU8), .sl x.Req.Rng.Hi.length (x.Req.Rng.Hi.flatMap eU8), .b x.Req.Rng.Open, .sl x.In.Buf.length (x.In.Buf.flatMap eU8), .i .i64 x.In.Dead, .sl x.Out.length (x.Out.flatMap eU8), .sl x.Done.length (x.Done.flatMap A8), .sl x.Tried.length (x.Tried.flatMap Bb)]
structure La where
 R0 : Bool
 R1 : Bool
 R2 : Bool
def Abj (x : La) : List Lf := [.b x.R0, .b x.R1, .b x.R2]
structure K5 where
 size_ : Int
 sum_ : BitVec 32
def Aba (x : K5) : List Lf := [.i .i64 x.size_, .i .u32 (x.sum_.toNat : Int)]
structure Gj where
 head_ : K5
 payload_ : List UInt8
def Y2 (x : Gj) : List Lf := [.i .i64 x.head_.size_, .i .u32 (x.head_.sum_.toNat : Int), .sl x.payload_.length (x.payload_.flatMap eU8)]
structure Gx where
 token_ : Bool
 attempt_ : Bool
 ro_ : Bool
 key_ : Bool
 val_ : Bool
 rng_ : Bool
def Uk (x : Gx) : List Lf := [.b x.token_, .b x.attempt_, .b x.ro_, .b x.key_, .b x.val_, .b x.rng_]
def Aqh : List Gx := [⟨false, false, false, false, false, false⟩, ⟨true, true, false, false, false, false⟩, ⟨true, true, true, false, false, false⟩, ⟨false, false, false, true, false, false⟩, ⟨false, false, false, true, true, false⟩, ⟨false, false, false, true, false, false⟩, ⟨false, false, false, false, false, true⟩, ⟨false, false, false, false, false, false⟩, ⟨false, false, false, false, false, false⟩, ⟨true, true, false, false, false, false⟩, ⟨true, false, false, false, false, false⟩, ⟨false, false, false, false, false, false⟩]
structure Be where
 Kind : Int
 Seq : Int
 Code : Int
 N : Int
 Found : Bool
 Val : List UInt8
 List : List C9
def Adq (x : Be) : List Lf := [.i .i64 x.Kind, .i .i64 x.Seq, .i .i64 x.Code, .i .i64 x.N, .b x.Found, .sl x.Val.length (x.Val.flatMap eU8), .sl x.List.length (x.List.flatMap Dr)]
def Ib (a : Ev) (j : Int) (v : Int) : Option Ev :=
 if j = 0 then some ⟨v, a.R1, a.R2, a.R3, a.R4, a.R5, a.R6, a.R7⟩ else if j = 1 then some ⟨a.R0, v, a.R2, a.R3, a.R4, a.R5, a.R6, a.R7⟩ else if j = 2 then some ⟨a.R0, a.R1, v, a.R3, a.R4, a.R5, a.R6, a.R7⟩ else if j = 3 then some ⟨a.R0, a.R1, a.R2, v, a.R4, a.R5, a.R6, a.R7⟩ else if j = 4 then some ⟨a.R0, a.R1, a.R2, a.R3, v, a.R5, a.R6, a.R7⟩ else if j = 5 then some ⟨a.R0, a.R1, a.R2, a.R3, a.R4, v, a.R6, a.R7⟩ else if j = 6 then some ⟨a.R0, a.R1, a.R2, a.R3, a.R4, a.R5, v, a.R7⟩ else if j = 7 then some ⟨a.R0, a.R1, a.R2, a.R3, a.R4, a.R5, a.R6, v⟩ else none
class EL (α : Type) where
 el : α → List Lf
instance : EL B7 := ⟨Xx⟩
instance : EL Vr := ⟨Ox⟩
instance : EL Iz := ⟨Aae⟩
instance : EL Tl := ⟨Z4⟩
instance : EL C9 := ⟨Dr⟩
instance : EL Hx := ⟨Xy⟩
instance : EL Ka := ⟨M6⟩
instance : EL Dk := ⟨Ab7⟩
instance : EL Cp := ⟨W3⟩
instance : EL B5 := ⟨Cf⟩
instance : EL Co := ⟨Adp⟩
instance : EL Av := ⟨Ay⟩
instance : EL Ev := ⟨Yl⟩
instance : EL A6 := ⟨Abz⟩
instance : EL B6 := ⟨Air⟩
instance : EL Bn := ⟨W9⟩
instance : EL Ba := ⟨A8⟩
instance : EL A4 := ⟨Bb⟩
instance : EL Ag := ⟨W8⟩
instance : EL La := ⟨Abj⟩
instance : EL K5 := ⟨Aba⟩
instance : EL Gj := ⟨Y2⟩
instance : EL Gx := ⟨Uk⟩
instance : EL Be := ⟨Adq⟩
abbrev Bs : B7 := (B7.mk ([] : List UInt8) ([] : List UInt8) false)
abbrev Nd : Av := (Av.mk 0 (Co.mk false ([] : List B5)))
abbrev G4 : A6 := (A6.mk 0 (Ev.mk 0 0 0 0 0 0 0 0) false)
abbrev Om : B6 := (B6.mk 0 0 0 0 false ([] : List UInt8) ([] : List UInt8) (B7.mk ([] : List UInt8) ([] : List UInt8) false))
abbrev Lx : Ba := (Ba.mk 0 0 0 0 (Ev.mk 0 0 0 0 0 0 0 0))
abbrev Mm : A4 := (A4.mk 0 0 (Ev.mk 0 0 0 0 0 0 0 0))
abbrev Cw : Ag := (Ag.mk (Cp.mk 0 (Dk.mk 0 0 0) 0 0) ([] : List Av) 0 0 0 0 0 0 0 false (A6.mk 0 (Ev.mk 0 0 0 0 0 0 0 0) false) (B6.mk 0 0 0 0 false ([] : List UInt8) ([] : List UInt8) (B7.mk ([] : List UInt8) ([] : List UInt8) false)) (Bn.mk ([] : List UInt8) 0) ([] : List UInt8) ([] : List Ba) ([] : List A4))
abbrev Xn : Be := (Be.mk 0 0 0 0 false ([] : List UInt8) ([] : List C9))
abbrev Znl : Lf := .raw (.slice none 0 0)
abbrev Ii6 (n : Int) : Lf := .i .i64 n
theorem SJ {α : Type} {a b : α} (h : some a = some b) : a = b := Option.some.inj h
abbrev Nfu : Lf := .raw .nilFunc
abbrev Zba : List Lf := [Ii6 0, Ii6 0, Ii6 0, Ii6 0, Ii6 0, Ii6 0, Znl, Ii6 0, Ii6 0, Ii6 0, Ii6 0, Ii6 0, Ii6 0, Ii6 0, .b false, Ii6 0, Ii6 0, Ii6 0, Ii6 0, Ii6 0, Ii6 0, Ii6 0, Ii6 0, Ii6 0, .b false, Ii6 0, Ii6 0, Ii6 0, Ii6 0, .b false, Znl, Znl, Znl, Znl, .b false, Znl, Ii6 0, Znl, Znl, Znl]
abbrev Zbb : List Lf := [Ii6 0, Ii6 0, Ii6 0, Ii6 0, Ii6 0, Ii6 0, Ii6 0, Ii6 0, Ii6 0, .b false]
abbrev Zbc : List Lf := [Ii6 0, Ii6 0, Ii6 0, Ii6 0, .b false, Znl, Znl, Znl, Znl, .b false]
abbrev Zbd : List Lf := [Ii6 0, Ii6 0, Ii6 0, Ii6 0, .b false, Znl, Znl]
theorem Nbl {n m : Nat} (h : Nat.ble n m = true) : n ≤ m := Nat.le_of_ble_eq_true h
theorem At4 : ZI Tryz.prog 28 ([Ii6 0, Ii6 0, Ii6 0, Ii6 0, Ii6 0, Ii6 0]) := Nv (by kernel_rfl)
theorem Avo : ZI Tryz.prog 26 ([Ii6 0, Ii6 0, Ii6 0]) := Nv (by kernel_rfl)
theorem Auv : PI Tryz.prog 26 [(0, 1), (1, 1), (2, 1)] := P7 Tryz.underlying26 (by kernel_rfl) (by kernel_rfl)
theorem Avp : PI Tryz.prog 28 [(0, 1), (1, 3), (4, 1), (5, 1)] := P7 Tryz.underlying28 (by kernel_rfl) (by kernel_rfl)
theorem Avb : (Tryz.prog.info? 28).map (·.size) = some 6 := by kernel_rfl
theorem Aqj : TI Tryz.prog 28 true 6 := ⟨⟨_, Tryz.underlying28, rfl⟩, by kernel_rfl⟩
theorem Atk : FnI Tryz.prog 10 := ⟨⟨_, Tryz.func10, by kernel_rfl, by kernel_rfl⟩⟩
theorem Nc : ZI Tryz.prog 44 (Zba) := Nv (by kernel_rfl)
theorem Agk : FI Tryz.prog 28 0 0 := ⟨⟨_, _, 1, Tryz.underlying28, rfl, rfl, by kernel_rfl, by decide⟩⟩
theorem ti3 : TI Tryz.prog 3 false 1 := ⟨⟨_, Tryz.underlying3, rfl⟩, by kernel_rfl⟩
theorem Aen : FnI Tryz.prog 36 := ⟨⟨_, Tryz.func36, by kernel_rfl, by kernel_rfl⟩⟩
theorem Wm : FI Tryz.prog 28 1 1 := ⟨⟨_, _, 3, Tryz.underlying28, rfl, rfl, by kernel_rfl, by decide⟩⟩
theorem Aj9 : TI Tryz.prog 26 true 3 := ⟨⟨_, Tryz.underlying26, rfl⟩, by kernel_rfl⟩
theorem Acs : FI Tryz.prog 26 0 0 := ⟨⟨_, _, 1, Tryz.underlying26, rfl, rfl, by kernel_rfl, by decide⟩⟩
theorem Agc : FI Tryz.prog 26 1 1 := ⟨⟨_, _, 1, Tryz.underlying26, rfl, rfl, by kernel_rfl, by decide⟩⟩
theorem Aaa : FI Tryz.prog 26 2 2 := ⟨⟨_, _, 1, Tryz.underlying26, rfl, rfl, by kernel_rfl, by decide⟩⟩
theorem Aud : FnI Tryz.prog 58 := ⟨⟨_, Tryz.func58, by kernel_rfl, by kernel_rfl⟩⟩
theorem Agp : FI Tryz.prog 28 2 4 := ⟨⟨_, _, 1, Tryz.underlying28, rfl, rfl, by kernel_rfl, by decide⟩⟩
theorem Akv : FI Tryz.prog 28 3 5 := ⟨⟨_, _, 1, Tryz.underlying28, rfl, rfl, by kernel_rfl, by decide⟩⟩
theorem At6 : FnI Tryz.prog 25 := ⟨⟨_, Tryz.func25, by kernel_rfl, by kernel_rfl⟩⟩
theorem Add : PI Tryz.prog 44 [(0, 6), (6, 1), (7, 1), (8, 1), (9, 1), (10, 1), (11, 1), (12, 1), (13, 1), (14, 1), (15, 10), (25, 10), (35, 2), (37, 1), (38, 1), (39, 1)] := P7 Tryz.underlying44 (by kernel_rfl) (by kernel_rfl)
theorem Em : (Tryz.prog.info? 44).map (·.size) = some 40 := by kernel_rfl
theorem B4 : TI Tryz.prog 44 true 40 := ⟨⟨_, Tryz.underlying44, rfl⟩, by kernel_rfl⟩
theorem fn9 : FnI Tryz.prog 9 := ⟨⟨_, Tryz.func9, by kernel_rfl, by kernel_rfl⟩⟩
theorem Qp : FI Tryz.prog 44 0 0 := ⟨⟨_, _, 6, Tryz.underlying44, rfl, rfl, by kernel_rfl, by decide⟩⟩
theorem F7 : FI Tryz.prog 44 2 7 := ⟨⟨_, _, 1, Tryz.underlying44, rfl, rfl, by kernel_rfl, by decide⟩⟩
theorem Z1 : FI Tryz.prog 44 3 8 := ⟨⟨_, _, 1, Tryz.underlying44, rfl, rfl, by kernel_rfl, by decide⟩⟩
theorem Xl : FI Tryz.prog 44 4 9 := ⟨⟨_, _, 1, Tryz.underlying44, rfl, rfl, by kernel_rfl, by decide⟩⟩
theorem Of : FI Tryz.prog 44 5 10 := ⟨⟨_, _, 1, Tryz.underlying44, rfl, rfl, by kernel_rfl, by decide⟩⟩
theorem Aai : FI Tryz.prog 44 6 11 := ⟨⟨_, _, 1, Tryz.underlying44, rfl, rfl, by kernel_rfl, by decide⟩⟩
theorem Q4 : FI Tryz.prog 44 7 12 := ⟨⟨_, _, 1, Tryz.underlying44, rfl, rfl, by kernel_rfl, by decide⟩⟩
theorem Adk : FI Tryz.prog 44 8 13 := ⟨⟨_, _, 1, Tryz.underlying44, rfl, rfl, by kernel_rfl, by decide⟩⟩
theorem Av7 : FnI Tryz.prog 29 := ⟨⟨_, Tryz.func29, by kernel_rfl, by kernel_rfl⟩⟩
theorem Mb : FI Tryz.prog 44 1 6 := ⟨⟨_, _, 1, Tryz.underlying44, rfl, rfl, by kernel_rfl, by decide⟩⟩
theorem Y0 : TI Tryz.prog 29 false 1 := ⟨⟨_, Tryz.underlying29, rfl⟩, by kernel_rfl⟩
theorem Uf : SI Tryz.prog 29 94 3 := ⟨Tryz.underlying29, by kernel_rfl, by decide⟩
theorem Ana : TI Tryz.prog 94 true 3 := ⟨⟨_, Tryz.underlying94, rfl⟩, by kernel_rfl⟩
theorem Anv : ZI Tryz.prog 94 ([Ii6 0, .b false, Znl]) := Nv (by kernel_rfl)
theorem Aqf : (Tryz.prog.info? 94).map (·.size) = some 3 := by kernel_rfl
theorem Sa : FI Tryz.prog 94 0 0 := ⟨⟨_, _, 1, Tryz.underlying94, rfl, rfl, by kernel_rfl, by decide⟩⟩
theorem Acl : FI Tryz.prog 94 1 1 := ⟨⟨_, _, 2, Tryz.underlying94, rfl, rfl, by kernel_rfl, by decide⟩⟩
theorem Alu : TI Tryz.prog 92 true 2 := ⟨⟨_, Tryz.underlying92, rfl⟩, by kernel_rfl⟩
theorem Rx : FI Tryz.prog 92 1 1 := ⟨⟨_, _, 1, Tryz.underlying92, rfl, rfl, by kernel_rfl, by decide⟩⟩
theorem Aja : TI Tryz.prog 90 false 1 := ⟨⟨_, Tryz.underlying90, rfl⟩, by kernel_rfl⟩
theorem Ah7 : SI Tryz.prog 90 89 8 := ⟨Tryz.underlying90, by kernel_rfl, by decide⟩
theorem Ak5 : TI Tryz.prog 89 true 8 := ⟨⟨_, Tryz.underlying89, rfl⟩, by kernel_rfl⟩
theorem Aps : ZI Tryz.prog 89 ([Ii6 0, Ii6 0, Ii6 0, Ii6 0, Znl, Znl, Znl, .b false]) := Nv (by kernel_rfl)
theorem Aq7 : (Tryz.prog.info? 89).map (·.size) = some 8 := by kernel_rfl
theorem Akn : FI Tryz.prog 92 0 0 := ⟨⟨_, _, 1, Tryz.underlying92, rfl, rfl, by kernel_rfl, by decide⟩⟩
theorem ti4 : TI Tryz.prog 4 false 1 := ⟨⟨_, Tryz.underlying4, rfl⟩, by kernel_rfl⟩
theorem V3 : FI Tryz.prog 89 0 0 := ⟨⟨_, _, 1, Tryz.underlying89, rfl, rfl, by kernel_rfl, by decide⟩⟩
theorem Afc : FnI Tryz.prog 120 := ⟨⟨_, Tryz.func120, by kernel_rfl, by kernel_rfl⟩⟩
theorem Uz : FI Tryz.prog 89 1 1 := ⟨⟨_, _, 1, Tryz.underlying89, rfl, rfl, by kernel_rfl, by decide⟩⟩
theorem Xt : FI Tryz.prog 89 2 2 := ⟨⟨_, _, 1, Tryz.underlying89, rfl, rfl, by kernel_rfl, by decide⟩⟩
theorem Y5 : FI Tryz.prog 89 3 3 := ⟨⟨_, _, 1, Tryz.underlying89, rfl, rfl, by kernel_rfl, by decide⟩⟩
theorem Zs : ZI Tryz.prog 201 ([.b false, .b false, .b false]) := Nv (by kernel_rfl)
theorem Ab6 : AI Tryz.prog 201 3 4 1 := ⟨Tryz.underlying201, by kernel_rfl, by decide, by decide⟩
theorem Ae8 : (Tryz.prog.info? 201).map (·.size) = some 3 := by kernel_rfl
theorem Ahl : TI Tryz.prog 201 true 3 := ⟨⟨_, Tryz.underlying201, rfl⟩, by kernel_rfl⟩
theorem Ao9 : FnI Tryz.prog 121 := ⟨⟨_, Tryz.func121, by kernel_rfl, by kernel_rfl⟩⟩
theorem Lz : Tryz.prog.follows .mixedOrders = true := by kernel_rfl
theorem Zl : FI Tryz.prog 89 4 4 := ⟨⟨_, _, 1, Tryz.underlying89, rfl, rfl, by kernel_rfl, by decide⟩⟩
theorem L2 : TI Tryz.prog 33 false 1 := ⟨⟨_, Tryz.underlying33, rfl⟩, by kernel_rfl⟩
theorem Lc : SI Tryz.prog 33 5 1 := ⟨Tryz.underlying33, by kernel_rfl, by decide⟩
theorem Aht : FI Tryz.prog 89 5 5 := ⟨⟨_, _, 3, Tryz.underlying89, rfl, rfl, by kernel_rfl, by decide⟩⟩
theorem Ajl : TI Tryz.prog 35 true 3 := ⟨⟨_, Tryz.underlying35, rfl⟩, by kernel_rfl⟩
theorem Ti : FI Tryz.prog 35 0 0 := ⟨⟨_, _, 1, Tryz.underlying35, rfl, rfl, by kernel_rfl, by decide⟩⟩
theorem Qv : FI Tryz.prog 35 1 1 := ⟨⟨_, _, 1, Tryz.underlying35, rfl, rfl, by kernel_rfl, by decide⟩⟩
theorem X2 : FI Tryz.prog 35 2 2 := ⟨⟨_, _, 1, Tryz.underlying35, rfl, rfl, by kernel_rfl, by decide⟩⟩
theorem Ari : FnI Tryz.prog 122 := ⟨⟨_, Tryz.func122, by kernel_rfl, by kernel_rfl⟩⟩
theorem App : EqD Tryz.prog 201 [1, 1, 1] := ⟨by kernel_rfl, by kernel_rfl, by kernel_rfl, by kernel_rfl⟩
theorem Arz : FnI Tryz.prog 123 := ⟨⟨_, Tryz.func123, by kernel_rfl, by kernel_rfl⟩⟩
theorem As3 : FnI Tryz.prog 133 := ⟨⟨_, Tryz.func133, by kernel_rfl, by kernel_rfl⟩⟩
theorem ti5 : TI Tryz.prog 5 false 1 := ⟨⟨_, Tryz.underlying5, rfl⟩, by kernel_rfl⟩
theorem Asu : XI Tryz.prog 142 Extern.BytealgCompare.compare := ⟨⟨Tryz.f142, Tryz.func142, by kernel_rfl, by kernel_rfl, by kernel_rfl, by kernel_rfl⟩⟩
theorem Arv : FnI Tryz.prog 141 := ⟨⟨_, Tryz.func141, by kernel_rfl, by kernel_rfl⟩⟩
theorem Ar0 : FnI Tryz.prog 139 := ⟨⟨_, Tryz.func139, by kernel_rfl, by kernel_rfl⟩⟩
theorem Arn : FnI Tryz.prog 134 := ⟨⟨_, Tryz.func134, by kernel_rfl, by kernel_rfl⟩⟩
theorem Asj : FnI Tryz.prog 124 := ⟨⟨_, Tryz.func124, by kernel_rfl, by kernel_rfl⟩⟩
theorem Ask : FnI Tryz.prog 107 := ⟨⟨_, Tryz.func107, by kernel_rfl, by kernel_rfl⟩⟩
theorem Asr : FnI Tryz.prog 82 := ⟨⟨_, Tryz.func82, by kernel_rfl, by kernel_rfl⟩⟩
theorem Auc : FnI Tryz.prog 53 := ⟨⟨_, Tryz.func53, by kernel_rfl, by kernel_rfl⟩⟩
theorem Aui : FnI Tryz.prog 54 := ⟨⟨_, Tryz.func54, by kernel_rfl, by kernel_rfl⟩⟩
theorem Awe : FnI Tryz.prog 30 := ⟨⟨_, Tryz.func30, by kernel_rfl, by kernel_rfl⟩⟩
theorem Au3 : FnI Tryz.prog 31 := ⟨⟨_, Tryz.func31, by kernel_rfl, by kernel_rfl⟩⟩
theorem Ajp : FnI Tryz.prog 32 := ⟨⟨_, Tryz.func32, by kernel_rfl, by kernel_rfl⟩⟩
theorem Ws : FI Tryz.prog 44 12 35 := ⟨⟨_, _, 2, Tryz.underlying44, rfl, rfl, by kernel_rfl, by decide⟩⟩
theorem Ah0 : TI Tryz.prog 40 true 2 := ⟨⟨_, Tryz.underlying40, rfl⟩, by kernel_rfl⟩
theorem Agv : FI Tryz.prog 40 1 1 := ⟨⟨_, _, 1, Tryz.underlying40, rfl, rfl, by kernel_rfl, by decide⟩⟩
theorem Aaz : TI Tryz.prog 38 false 1 := ⟨⟨_, Tryz.underlying38, rfl⟩, by kernel_rfl⟩
theorem Auf : FnI Tryz.prog 65 := ⟨⟨_, Tryz.func65, by kernel_rfl, by kernel_rfl⟩⟩
theorem Ac7 : FI Tryz.prog 40 0 0 := ⟨⟨_, _, 1, Tryz.underlying40, rfl, rfl, by kernel_rfl, by decide⟩⟩
theorem Wg : ZI Tryz.prog 121 ([Ii6 0, .i .u32 0, Znl]) := Nv (by kernel_rfl)
theorem zi3 : ZI Tryz.prog 3 ([Ii6 0]) := Nv (by kernel_rfl)
theorem sz3 : (Tryz.prog.info? 3).map (·.size) = some 1 := by kernel_rfl
theorem Aq1 : ZI Tryz.prog 193 ([Nfu, Ii6 0]) := Nv (by kernel_rfl)
theorem Ass : PI Tryz.prog 193 [(0, 1), (1, 1)] := P7 Tryz.underlying193 (by kernel_rfl) (by kernel_rfl)
theorem Asg : FnI Tryz.prog 92 := ⟨⟨_, Tryz.func92, by kernel_rfl, by kernel_rfl⟩⟩
theorem Adn : PI Tryz.prog 121 [(0, 2), (2, 1)] := P7 Tryz.underlying121 (by kernel_rfl) (by kernel_rfl)
theorem Ya : (Tryz.prog.info? 121).map (·.size) = some 3 := by kernel_rfl
theorem Abh : FI Tryz.prog 193 1 1 := ⟨⟨_, _, 1, Tryz.underlying193, rfl, rfl, by kernel_rfl, by decide⟩⟩
theorem Ai8 : FnI Tryz.prog 108 := ⟨⟨_, Tryz.func108, by kernel_rfl, by kernel_rfl⟩⟩
theorem At8 : (Tryz.prog.info? 38).map (·.size) = some 1 := by kernel_rfl
theorem Al0 : FnI Tryz.prog 94 := ⟨⟨_, Tryz.func94, by kernel_rfl, by kernel_rfl⟩⟩
theorem Abx : FI Tryz.prog 193 0 0 := ⟨⟨_, _, 1, Tryz.underlying193, rfl, rfl, by kernel_rfl, by decide⟩⟩
theorem Ald : TI Tryz.prog 191 false 1 := ⟨⟨_, Tryz.underlying191, rfl⟩, by kernel_rfl⟩
theorem Apd : FnI Tryz.prog 112 := ⟨⟨_, Tryz.func112, by kernel_rfl, by kernel_rfl⟩⟩
theorem Apl : FnI Tryz.prog 114 := ⟨⟨_, Tryz.func114, by kernel_rfl, by kernel_rfl⟩⟩
theorem Apu : FnI Tryz.prog 113 := ⟨⟨_, Tryz.func113, by kernel_rfl, by kernel_rfl⟩⟩
theorem Ah4 : FnI Tryz.prog 93 := ⟨⟨_, Tryz.func93, by kernel_rfl, by kernel_rfl⟩⟩
theorem Pp : FI Tryz.prog 121 0 0 := ⟨⟨_, _, 2, Tryz.underlying121, rfl, rfl, by kernel_rfl, by decide⟩⟩
theorem T5 : FI Tryz.prog 119 0 0 := ⟨⟨_, _, 1, Tryz.underlying119, rfl, rfl, by kernel_rfl, by decide⟩⟩
theorem Acj : TI Tryz.prog 121 true 3 := ⟨⟨_, Tryz.underlying121, rfl⟩, by kernel_rfl⟩
theorem Aa9 : FI Tryz.prog 119 1 1 := ⟨⟨_, _, 1, Tryz.underlying119, rfl, rfl, by kernel_rfl, by decide⟩⟩
theorem Ap3 : (Tryz.prog.info? 117).map (·.size) = some 1 := by kernel_rfl
theorem Yf : FI Tryz.prog 121 1 2 := ⟨⟨_, _, 1, Tryz.underlying121, rfl, rfl, by kernel_rfl, by decide⟩⟩
theorem Apr : (Tryz.prog.info? 33).map (·.size) = some 1 := by kernel_rfl
theorem Alk : TI Tryz.prog 117 false 1 := ⟨⟨_, Tryz.underlying117, rfl⟩, by kernel_rfl⟩
theorem ei5 : EI Tryz.prog 5 1 1 [.i .u8 0] := W5 (by kernel_rfl) (by decide)
theorem sz5 : (Tryz.prog.info? 5).map (·.size) = some 1 := by kernel_rfl
theorem Anq : EI Tryz.prog 33 1 24 [Znl] := W5 (by kernel_rfl) (by decide)
theorem Adz : SI Tryz.prog 124 33 1 := ⟨Tryz.underlying124, by kernel_rfl, by decide⟩
theorem Ava : FnI Tryz.prog 75 := ⟨⟨_, Tryz.func75, by kernel_rfl, by kernel_rfl⟩⟩
theorem Arq : NI Tryz.prog 33 := ⟨.inl ⟨_, Tryz.underlying33⟩⟩
theorem Aqg : FnI Tryz.prog 44 := ⟨⟨_, Tryz.func44, by kernel_rfl, by kernel_rfl⟩⟩
theorem Aa1 : FnI Tryz.prog 40 := ⟨⟨_, Tryz.func40, by kernel_rfl, by kernel_rfl⟩⟩
theorem Alj : ZI Tryz.prog 188 (List.replicate 256 (.i .u32 0)) := Nv (by kernel_rfl)
theorem Arw : FnI Tryz.prog 126 := ⟨⟨_, Tryz.func126, by kernel_rfl, by kernel_rfl⟩⟩
theorem An3 : AI Tryz.prog 188 256 117 1 := ⟨Tryz.underlying188, by kernel_rfl, by decide, by decide⟩
theorem Apf : TI Tryz.prog 188 true 256 := ⟨⟨_, Tryz.underlying188, rfl⟩, by kernel_rfl⟩
theorem Apa : (Tryz.prog.info? 188).map (·.size) = some 256 := by kernel_rfl
theorem Ary : FnI Tryz.prog 111 := ⟨⟨_, Tryz.func111, by kernel_rfl, by kernel_rfl⟩⟩
theorem Atm : FnI Tryz.prog 90 := ⟨⟨_, Tryz.func90, by kernel_rfl, by kernel_rfl⟩⟩
theorem Avt : FnI Tryz.prog 91 := ⟨⟨_, Tryz.func91, by kernel_rfl, by kernel_rfl⟩⟩
theorem Atq : FnI Tryz.prog 74 := ⟨⟨_, Tryz.func74, by kernel_rfl, by kernel_rfl⟩⟩
theorem Aut : FnI Tryz.prog 84 := ⟨⟨_, Tryz.func84, by kernel_rfl, by kernel_rfl⟩⟩
theorem At7 : FnI Tryz.prog 85 := ⟨⟨_, Tryz.func85, by kernel_rfl, by kernel_rfl⟩⟩
theorem Atw : FnI Tryz.prog 66 := ⟨⟨_, Tryz.func66, by kernel_rfl, by kernel_rfl⟩⟩
theorem Asn : FnI Tryz.prog 34 := ⟨⟨_, Tryz.func34, by kernel_rfl, by kernel_rfl⟩⟩
theorem Qh : FI Tryz.prog 44 13 37 := ⟨⟨_, _, 1, Tryz.underlying44, rfl, rfl, by kernel_rfl, by decide⟩⟩
theorem Ji : FI Tryz.prog 44 11 25 := ⟨⟨_, _, 10, Tryz.underlying44, rfl, rfl, by kernel_rfl, by decide⟩⟩
theorem Aei : TI Tryz.prog 37 true 10 := ⟨⟨_, Tryz.underlying37, rfl⟩, by kernel_rfl⟩
theorem Pw : FI Tryz.prog 37 0 0 := ⟨⟨_, _, 1, Tryz.underlying37, rfl, rfl, by kernel_rfl, by decide⟩⟩
theorem Aix : ZI Tryz.prog 142 ([.b false, .b false, .b false, .b false, .b false, .b false]) := Nv (by kernel_rfl)
theorem Aqn : FnI Tryz.prog 60 := ⟨⟨_, Tryz.func60, by kernel_rfl, by kernel_rfl⟩⟩
theorem Asx : PI Tryz.prog 142 [(0, 1), (1, 1), (2, 1), (3, 1), (4, 1), (5, 1)] := P7 Tryz.underlying142 (by kernel_rfl) (by kernel_rfl)
theorem Aje : (Tryz.prog.info? 142).map (·.size) = some 6 := by kernel_rfl
theorem Alq : TI Tryz.prog 142 true 6 := ⟨⟨_, Tryz.underlying142, rfl⟩, by kernel_rfl⟩
theorem Anb : (0, Aqh.flatMap Uk) ∈ GL := List.mem_cons.2 (.inl rfl)
theorem Asc : AI Tryz.prog 165 12 142 6 := ⟨Tryz.underlying165, by kernel_rfl, by decide, by decide⟩
theorem Aug : FnI Tryz.prog 59 := ⟨⟨_, Tryz.func59, by kernel_rfl, by kernel_rfl⟩⟩
theorem Qq : FI Tryz.prog 37 1 1 := ⟨⟨_, _, 1, Tryz.underlying37, rfl, rfl, by kernel_rfl, by decide⟩⟩
theorem Aks : FnI Tryz.prog 61 := ⟨⟨_, Tryz.func61, by kernel_rfl, by kernel_rfl⟩⟩
theorem Agu : FI Tryz.prog 142 0 0 := ⟨⟨_, _, 1, Tryz.underlying142, rfl, rfl, by kernel_rfl, by decide⟩⟩
theorem Aj8 : FI Tryz.prog 37 2 2 := ⟨⟨_, _, 1, Tryz.underlying37, rfl, rfl, by kernel_rfl, by decide⟩⟩
theorem Atu : FnI Tryz.prog 62 := ⟨⟨_, Tryz.func62, by kernel_rfl, by kernel_rfl⟩⟩
theorem Ahu : FI Tryz.prog 142 1 1 := ⟨⟨_, _, 1, Tryz.underlying142, rfl, rfl, by kernel_rfl, by decide⟩⟩
theorem Aj5 : FI Tryz.prog 37 3 3 := ⟨⟨_, _, 1, Tryz.underlying37, rfl, rfl, by kernel_rfl, by decide⟩⟩
theorem Ag6 : FI Tryz.prog 142 2 2 := ⟨⟨_, _, 1, Tryz.underlying142, rfl, rfl, by kernel_rfl, by decide⟩⟩
theorem Aa3 : FI Tryz.prog 142 3 3 := ⟨⟨_, _, 1, Tryz.underlying142, rfl, rfl, by kernel_rfl, by decide⟩⟩
theorem Aff : FI Tryz.prog 37 5 5 := ⟨⟨_, _, 1, Tryz.underlying37, rfl, rfl, by kernel_rfl, by decide⟩⟩
theorem Aj3 : FnI Tryz.prog 63 := ⟨⟨_, Tryz.func63, by kernel_rfl, by kernel_rfl⟩⟩
theorem Abg : FI Tryz.prog 142 4 4 := ⟨⟨_, _, 1, Tryz.underlying142, rfl, rfl, by kernel_rfl, by decide⟩⟩
theorem Afs : FI Tryz.prog 37 6 6 := ⟨⟨_, _, 1, Tryz.underlying37, rfl, rfl, by kernel_rfl, by decide⟩⟩
theorem Aci : FI Tryz.prog 142 5 5 := ⟨⟨_, _, 1, Tryz.underlying142, rfl, rfl, by kernel_rfl, by decide⟩⟩
theorem Za : FI Tryz.prog 37 7 7 := ⟨⟨_, _, 3, Tryz.underlying37, rfl, rfl, by kernel_rfl, by decide⟩⟩
theorem Auq : FnI Tryz.prog 64 := ⟨⟨_, Tryz.func64, by kernel_rfl, by kernel_rfl⟩⟩
theorem Akz : FI Tryz.prog 37 4 4 := ⟨⟨_, _, 1, Tryz.underlying37, rfl, rfl, by kernel_rfl, by decide⟩⟩
theorem Atl : FnI Tryz.prog 33 := ⟨⟨_, Tryz.func33, by kernel_rfl, by kernel_rfl⟩⟩
theorem Anm : FnI Tryz.prog 12 := ⟨⟨_, Tryz.func12, by kernel_rfl, by kernel_rfl⟩⟩
theorem Z7 : ZI Tryz.prog 37 (Zbc) := Nv (by kernel_rfl)
theorem Aeb : PI Tryz.prog 37 [(0, 1), (1, 1), (2, 1), (3, 1), (4, 1), (5, 1), (6, 1), (7, 3)] := P7 Tryz.underlying37 (by kernel_rfl) (by kernel_rfl)
theorem Aqi : ZI Tryz.prog 61 ([Ii6 0, Ii6 0, Ii6 0, Ii6 0, Ii6 0, Ii6 0, Ii6 0, Ii6 0, Ii6 0, Ii6 0, Ii6 0, Ii6 0]) := Nv (by kernel_rfl)
theorem Ar9 : PI Tryz.prog 61 [(0, 1), (1, 1), (2, 1), (3, 1), (4, 8)] := P7 Tryz.underlying61 (by kernel_rfl) (by kernel_rfl)
theorem Vt : FI Tryz.prog 44 14 38 := ⟨⟨_, _, 1, Tryz.underlying44, rfl, rfl, by kernel_rfl, by decide⟩⟩
theorem Ant : TI Tryz.prog 41 false 1 := ⟨⟨_, Tryz.underlying41, rfl⟩, by kernel_rfl⟩
theorem At0 : TI Tryz.prog 61 true 12 := ⟨⟨_, Tryz.underlying61, rfl⟩, by kernel_rfl⟩
theorem Atb : EI Tryz.prog 61 12 96 [Ii6 0, Ii6 0, Ii6 0, Ii6 0, Ii6 0, Ii6 0, Ii6 0, Ii6 0, Ii6 0, Ii6 0, Ii6 0, Ii6 0] := W5 (by kernel_rfl) (by decide)
theorem Awb : EI Tryz.prog 41 1 24 [Znl] := W5 (by kernel_rfl) (by decide)
theorem Aj1 : SI Tryz.prog 204 41 1 := ⟨Tryz.underlying204, by kernel_rfl, by decide⟩
theorem Ahv : SI Tryz.prog 41 61 12 := ⟨Tryz.underlying41, by kernel_rfl, by decide⟩
theorem Asz : FnI Tryz.prog 125 := ⟨⟨_, Tryz.func125, by kernel_rfl, by kernel_rfl⟩⟩
theorem Avz : NI Tryz.prog 41 := ⟨.inl ⟨_, Tryz.underlying41⟩⟩
theorem Ash : FnI Tryz.prog 109 := ⟨⟨_, Tryz.func109, by kernel_rfl, by kernel_rfl⟩⟩
theorem Av5 : (Tryz.prog.info? 41).map (·.size) = some 1 := by kernel_rfl
theorem Aq3 : FnI Tryz.prog 86 := ⟨⟨_, Tryz.func86, by kernel_rfl, by kernel_rfl⟩⟩
theorem X1 : FI Tryz.prog 44 9 14 := ⟨⟨_, _, 1, Tryz.underlying44, rfl, rfl, by kernel_rfl, by decide⟩⟩
theorem Pu : FI Tryz.prog 44 10 15 := ⟨⟨_, _, 10, Tryz.underlying44, rfl, rfl, by kernel_rfl, by decide⟩⟩
theorem Wf : FI Tryz.prog 32 2 9 := ⟨⟨_, _, 1, Tryz.underlying32, rfl, rfl, by kernel_rfl, by decide⟩⟩
theorem Avm : FnI Tryz.prog 87 := ⟨⟨_, Tryz.func87, by kernel_rfl, by kernel_rfl⟩⟩
theorem Ar6 : (Tryz.prog.info? 29).map (·.size) = some 1 := by kernel_rfl
theorem Anh : FnI Tryz.prog 68 := ⟨⟨_, Tryz.func68, by kernel_rfl, by kernel_rfl⟩⟩
theorem At2 : FnI Tryz.prog 67 := ⟨⟨_, Tryz.func67, by kernel_rfl, by kernel_rfl⟩⟩
theorem Ahx : (Tryz.prog.info? 37).map (·.size) = some 10 := by kernel_rfl
theorem zi4 : ZI Tryz.prog 4 ([.b false]) := Nv (by kernel_rfl)
theorem Avf : FnI Tryz.prog 88 := ⟨⟨_, Tryz.func88, by kernel_rfl, by kernel_rfl⟩⟩
theorem Asd : FnI Tryz.prog 110 := ⟨⟨_, Tryz.func110, by kernel_rfl, by kernel_rfl⟩⟩
theorem sz4 : (Tryz.prog.info? 4).map (·.size) = some 1 := by kernel_rfl
theorem Aqo : FnI Tryz.prog 69 := ⟨⟨_, Tryz.func69, by kernel_rfl, by kernel_rfl⟩⟩
theorem Aqy : FnI Tryz.prog 42 := ⟨⟨_, Tryz.func42, by kernel_rfl, by kernel_rfl⟩⟩
theorem Alt : FnI Tryz.prog 41 := ⟨⟨_, Tryz.func41, by kernel_rfl, by kernel_rfl⟩⟩
theorem Avs : FnI Tryz.prog 89 := ⟨⟨_, Tryz.func89, by kernel_rfl, by kernel_rfl⟩⟩
theorem Aq5 : ZI Tryz.prog 119 ([Ii6 0, .i .u32 0]) := Nv (by kernel_rfl)
theorem As8 : PI Tryz.prog 119 [(0, 1), (1, 1)] := P7 Tryz.underlying119 (by kernel_rfl) (by kernel_rfl)
theorem Ave : FnI Tryz.prog 43 := ⟨⟨_, Tryz.func43, by kernel_rfl, by kernel_rfl⟩⟩
theorem Aub : FnI Tryz.prog 17 := ⟨⟨_, Tryz.func17, by kernel_rfl, by kernel_rfl⟩⟩
theorem Atv : FnI Tryz.prog 70 := ⟨⟨_, Tryz.func70, by kernel_rfl, by kernel_rfl⟩⟩
theorem Ank : FnI Tryz.prog 35 := ⟨⟨_, Tryz.func35, by kernel_rfl, by kernel_rfl⟩⟩
theorem Arf : FnI Tryz.prog 14 := ⟨⟨_, Tryz.func14, by kernel_rfl, by kernel_rfl⟩⟩
theorem Att : PI Tryz.prog 89 [(0, 1), (1, 1), (2, 1), (3, 1), (4, 1), (5, 3)] := P7 Tryz.underlying89 (by kernel_rfl) (by kernel_rfl)
theorem Ar4 : EI Tryz.prog 89 8 112 [Ii6 0, Ii6 0, Ii6 0, Ii6 0, Znl, Znl, Znl, .b false] := W5 (by kernel_rfl) (by decide)
theorem Aqs : ZI Tryz.prog 92 ([.b false, Znl]) := Nv (by kernel_rfl)
theorem Aue : PI Tryz.prog 92 [(0, 1), (1, 1)] := P7 Tryz.underlying92 (by kernel_rfl) (by kernel_rfl)
theorem Aua : PI Tryz.prog 94 [(0, 1), (1, 2)] := P7 Tryz.underlying94 (by kernel_rfl) (by kernel_rfl)
theorem An7 : EI Tryz.prog 94 3 40 [Ii6 0, .b false, Znl] := W5 (by kernel_rfl) (by decide)
theorem Av8 : EI Tryz.prog 29 1 24 [Znl] := W5 (by kernel_rfl) (by decide)
theorem Aik : SI Tryz.prog 163 29 1 := ⟨Tryz.underlying163, by kernel_rfl, by decide⟩
theorem Avr : FnI Tryz.prog 83 := ⟨⟨_, Tryz.func83, by kernel_rfl, by kernel_rfl⟩⟩
theorem Ato : NI Tryz.prog 29 := ⟨.inl ⟨_, Tryz.underlying29⟩⟩
theorem Avc : FnI Tryz.prog 55 := ⟨⟨_, Tryz.func55, by kernel_rfl, by kernel_rfl⟩⟩
theorem Aq6 : FnI Tryz.prog 72 := ⟨⟨_, Tryz.func72, by kernel_rfl, by kernel_rfl⟩⟩
theorem Ahk : ZI Tryz.prog 32 (Zbb) := Nv (by kernel_rfl)
theorem Apz : PI Tryz.prog 32 [(0, 1), (1, 8), (9, 1)] := P7 Tryz.underlying32 (by kernel_rfl) (by kernel_rfl)
theorem W6 : (Tryz.prog.info? 32).map (·.size) = some 10 := by kernel_rfl
theorem At1 : FnI Tryz.prog 71 := ⟨⟨_, Tryz.func71, by kernel_rfl, by kernel_rfl⟩⟩
theorem Asa : FnI Tryz.prog 56 := ⟨⟨_, Tryz.func56, by kernel_rfl, by kernel_rfl⟩⟩
theorem Atn : FnI Tryz.prog 21 := ⟨⟨_, Tryz.func21, by kernel_rfl, by kernel_rfl⟩⟩
theorem Au5 : ZI Tryz.prog 55 (Zbd) := Nv (by kernel_rfl)
theorem Avx : PI Tryz.prog 55 [(0, 1), (1, 1), (2, 1), (3, 1), (4, 1), (5, 1), (6, 1)] := P7 Tryz.underlying55 (by kernel_rfl) (by kernel_rfl)
theorem Apy : FI Tryz.prog 55 2 2 := ⟨⟨_, _, 1, Tryz.underlying55, rfl, rfl, by kernel_rfl, by decide⟩⟩
theorem Ap1 : FI Tryz.prog 55 3 3 := ⟨⟨_, _, 1, Tryz.underlying55, rfl, rfl, by kernel_rfl, by decide⟩⟩
theorem Aos : FI Tryz.prog 55 4 4 := ⟨⟨_, _, 1, Tryz.underlying55, rfl, rfl, by kernel_rfl, by decide⟩⟩
theorem Ak2 : FI Tryz.prog 55 5 5 := ⟨⟨_, _, 1, Tryz.underlying55, rfl, rfl, by kernel_rfl, by decide⟩⟩
theorem Z5 : FI Tryz.prog 55 6 6 := ⟨⟨_, _, 1, Tryz.underlying55, rfl, rfl, by kernel_rfl, by decide⟩⟩
theorem Aeq : TI Tryz.prog 53 false 1 := ⟨⟨_, Tryz.underlying53, rfl⟩, by kernel_rfl⟩
theorem Aki : ZI Tryz.prog 68 (Zbd) := Nv (by kernel_rfl)
theorem Aqk : PI Tryz.prog 68 [(0, 1), (1, 1), (2, 1), (3, 1), (4, 1), (5, 1), (6, 1)] := P7 Tryz.underlying68 (by kernel_rfl) (by kernel_rfl)
theorem Anu : (Tryz.prog.info? 68).map (·.size) = some 7 := by kernel_rfl
theorem Abc : TI Tryz.prog 68 true 7 := ⟨⟨_, Tryz.underlying68, rfl⟩, by kernel_rfl⟩
theorem Ux : FI Tryz.prog 68 6 6 := ⟨⟨_, _, 1, Tryz.underlying68, rfl, rfl, by kernel_rfl, by decide⟩⟩
theorem Ac5 : SI Tryz.prog 53 116 2 := ⟨Tryz.underlying53, by kernel_rfl, by decide⟩
theorem Al5 : TI Tryz.prog 116 true 2 := ⟨⟨_, Tryz.underlying116, rfl⟩, by kernel_rfl⟩
theorem Aia : ZI Tryz.prog 116 ([Znl, Znl]) := Nv (by kernel_rfl)
theorem Amq : (Tryz.prog.info? 116).map (·.size) = some 2 := by kernel_rfl
theorem Abo : FI Tryz.prog 116 0 0 := ⟨⟨_, _, 1, Tryz.underlying116, rfl, rfl, by kernel_rfl, by decide⟩⟩
theorem Ye : FI Tryz.prog 116 1 1 := ⟨⟨_, _, 1, Tryz.underlying116, rfl, rfl, by kernel_rfl, by decide⟩⟩
theorem P0 : FI Tryz.prog 68 0 0 := ⟨⟨_, _, 1, Tryz.underlying68, rfl, rfl, by kernel_rfl, by decide⟩⟩
theorem R8 : FI Tryz.prog 68 1 1 := ⟨⟨_, _, 1, Tryz.underlying68, rfl, rfl, by kernel_rfl, by decide⟩⟩
theorem Qd : FI Tryz.prog 68 2 2 := ⟨⟨_, _, 1, Tryz.underlying68, rfl, rfl, by kernel_rfl, by decide⟩⟩
theorem Qx : FI Tryz.prog 68 3 3 := ⟨⟨_, _, 1, Tryz.underlying68, rfl, rfl, by kernel_rfl, by decide⟩⟩
theorem Aah : FI Tryz.prog 68 4 4 := ⟨⟨_, _, 1, Tryz.underlying68, rfl, rfl, by kernel_rfl, by decide⟩⟩
theorem Zy : FI Tryz.prog 68 5 5 := ⟨⟨_, _, 1, Tryz.underlying68, rfl, rfl, by kernel_rfl, by decide⟩⟩
theorem Aul : FnI Tryz.prog 39 := ⟨⟨_, Tryz.func39, by kernel_rfl, by kernel_rfl⟩⟩
theorem Aus : FnI Tryz.prog 16 := ⟨⟨_, Tryz.func16, by kernel_rfl, by kernel_rfl⟩⟩
theorem Ats : FnI Tryz.prog 22 := ⟨⟨_, Tryz.func22, by kernel_rfl, by kernel_rfl⟩⟩
theorem Apo : FnI Tryz.prog 37 := ⟨⟨_, Tryz.func37, by kernel_rfl, by kernel_rfl⟩⟩
theorem Anl : ZI Tryz.prog 40 ([Znl, Ii6 0]) := Nv (by kernel_rfl)
theorem Aqq : PI Tryz.prog 40 [(0, 1), (1, 1)] := P7 Tryz.underlying40 (by kernel_rfl) (by kernel_rfl)
theorem Alx : (Tryz.prog.info? 40).map (·.size) = some 2 := by kernel_rfl
theorem Ard : NI Tryz.prog 124 := ⟨.inl ⟨_, Tryz.underlying124⟩⟩
theorem Av9 : FnI Tryz.prog 76 := ⟨⟨_, Tryz.func76, by kernel_rfl, by kernel_rfl⟩⟩
theorem Au1 : FnI Tryz.prog 77 := ⟨⟨_, Tryz.func77, by kernel_rfl, by kernel_rfl⟩⟩
theorem Av6 : FnI Tryz.prog 45 := ⟨⟨_, Tryz.func45, by kernel_rfl, by kernel_rfl⟩⟩
theorem Avk : FnI Tryz.prog 95 := ⟨⟨_, Tryz.func95, by kernel_rfl, by kernel_rfl⟩⟩
theorem Asl : FnI Tryz.prog 96 := ⟨⟨_, Tryz.func96, by kernel_rfl, by kernel_rfl⟩⟩
theorem Ate : PI Tryz.prog 116 [(0, 1), (1, 1)] := P7 Tryz.underlying116 (by kernel_rfl) (by kernel_rfl)
theorem Aor : EI Tryz.prog 116 2 48 [Znl, Znl] := W5 (by kernel_rfl) (by decide)
theorem Av0 : NI Tryz.prog 53 := ⟨.inl ⟨_, Tryz.underlying53⟩⟩
theorem Au8 : FnI Tryz.prog 97 := ⟨⟨_, Tryz.func97, by kernel_rfl, by kernel_rfl⟩⟩
theorem Auu : (Tryz.prog.info? 53).map (·.size) = some 1 := by kernel_rfl
theorem Avu : FnI Tryz.prog 98 := ⟨⟨_, Tryz.func98, by kernel_rfl, by kernel_rfl⟩⟩
theorem Av3 : FnI Tryz.prog 78 := ⟨⟨_, Tryz.func78, by kernel_rfl, by kernel_rfl⟩⟩
theorem Aru : FnI Tryz.prog 106 := ⟨⟨_, Tryz.func106, by kernel_rfl, by kernel_rfl⟩⟩
theorem Atr : FnI Tryz.prog 80 := ⟨⟨_, Tryz.func80, by kernel_rfl, by kernel_rfl⟩⟩
theorem Apb : FnI Tryz.prog 47 := ⟨⟨_, Tryz.func47, by kernel_rfl, by kernel_rfl⟩⟩
theorem Rt : ZI Tryz.prog 184 ([Nfu, Nfu, Nfu, Nfu, Nfu, Nfu, Nfu, Nfu, Nfu, Nfu]) := Nv (by kernel_rfl)
theorem Se : AI Tryz.prog 184 10 159 1 := ⟨Tryz.underlying184, by kernel_rfl, by decide, by decide⟩
theorem Zi : (Tryz.prog.info? 184).map (·.size) = some 10 := by kernel_rfl
theorem Ab4 : TI Tryz.prog 159 false 1 := ⟨⟨_, Tryz.underlying159, rfl⟩, by kernel_rfl⟩
theorem Ak9 : FnI Tryz.prog 79 := ⟨⟨_, Tryz.func79, by kernel_rfl, by kernel_rfl⟩⟩
theorem Awc : FnI Tryz.prog 99 := ⟨⟨_, Tryz.func99, by kernel_rfl, by kernel_rfl⟩⟩
theorem Avq : (Tryz.prog.info? 61).map (·.size) = some 12 := by kernel_rfl
theorem Oj : FI Tryz.prog 32 1 1 := ⟨⟨_, _, 8, Tryz.underlying32, rfl, rfl, by kernel_rfl, by decide⟩⟩
theorem At5 : TI Tryz.prog 30 true 8 := ⟨⟨_, Tryz.underlying30, rfl⟩, by kernel_rfl⟩
theorem Aoh : FI Tryz.prog 61 4 4 := ⟨⟨_, _, 8, Tryz.underlying61, rfl, rfl, by kernel_rfl, by decide⟩⟩
theorem Avj : (Tryz.prog.info? 30).map (·.size) = some 8 := by kernel_rfl
theorem Aqd : FI Tryz.prog 61 0 0 := ⟨⟨_, _, 1, Tryz.underlying61, rfl, rfl, by kernel_rfl, by decide⟩⟩
theorem Aat : FnI Tryz.prog 119 := ⟨⟨_, Tryz.func119, by kernel_rfl, by kernel_rfl⟩⟩
theorem Aq0 : FnI Tryz.prog 129 := ⟨⟨_, Tryz.func129, by kernel_rfl, by kernel_rfl⟩⟩
theorem Agw : FnI Tryz.prog 117 := ⟨⟨_, Tryz.func117, by kernel_rfl, by kernel_rfl⟩⟩
theorem Ape : FnI Tryz.prog 115 := ⟨⟨_, Tryz.func115, by kernel_rfl, by kernel_rfl⟩⟩
theorem Rz : TI Tryz.prog 32 true 10 := ⟨⟨_, Tryz.underlying32, rfl⟩, by kernel_rfl⟩
theorem Ou : FI Tryz.prog 32 0 0 := ⟨⟨_, _, 1, Tryz.underlying32, rfl, rfl, by kernel_rfl, by decide⟩⟩
theorem An8 : FnI Tryz.prog 130 := ⟨⟨_, Tryz.func130, by kernel_rfl, by kernel_rfl⟩⟩
theorem Aep : AI Tryz.prog 30 8 3 1 := ⟨Tryz.underlying30, by kernel_rfl, by decide, by decide⟩
theorem Ar1 : FnI Tryz.prog 140 := ⟨⟨_, Tryz.func140, by kernel_rfl, by kernel_rfl⟩⟩
theorem As0 : FnI Tryz.prog 135 := ⟨⟨_, Tryz.func135, by kernel_rfl, by kernel_rfl⟩⟩
theorem Ako : ∀ {a b : Ev} {j : Int} {v : Int}, Ib a j v = some b → ∀ pre post : List Lf, Jf (pre ++ (Yl a ++ post)) (pre.length + j.toNat) [Ii6 v] = pre ++ (Yl b ++ post) := by
 intro a b j v h pre post
 rw [Ahs]
 unfold Ib at h
 split at h
 ·rename_i hj; subst hj; cases h; rfl
 split at h
 ·rename_i hj; subst hj; cases h; rfl
 split at h
 ·rename_i hj; subst hj; cases h; rfl
 split at h
 ·rename_i hj; subst hj; cases h; rfl
 split at h
 ·rename_i hj; subst hj; cases h; rfl
 split at h
 ·rename_i hj; subst hj; cases h; rfl
 split at h
 ·rename_i hj; subst hj; cases h; rfl
 split at h
 ·rename_i hj; subst hj; cases h; rfl
 cases h
theorem Aoz : FnI Tryz.prog 138 := ⟨⟨_, Tryz.func138, by kernel_rfl, by kernel_rfl⟩⟩
theorem Aso : FnI Tryz.prog 136 := ⟨⟨_, Tryz.func136, by kernel_rfl, by kernel_rfl⟩⟩
theorem Ati : FnI Tryz.prog 127 := ⟨⟨_, Tryz.func127, by kernel_rfl, by kernel_rfl⟩⟩
theorem Atz : ZI Tryz.prog 64 ([Ii6 0, Ii6 0, Ii6 0, Ii6 0, Ii6 0, Ii6 0, Ii6 0, Ii6 0, Ii6 0, Ii6 0]) := Nv (by kernel_rfl)
theorem Au9 : PI Tryz.prog 64 [(0, 1), (1, 1), (2, 8)] := P7 Tryz.underlying64 (by kernel_rfl) (by kernel_rfl)
theorem Au7 : (Tryz.prog.info? 64).map (·.size) = some 10 := by kernel_rfl
theorem Abn : FI Tryz.prog 44 15 39 := ⟨⟨_, _, 1, Tryz.underlying44, rfl, rfl, by kernel_rfl, by decide⟩⟩
theorem Aqx : TI Tryz.prog 42 false 1 := ⟨⟨_, Tryz.underlying42, rfl⟩, by kernel_rfl⟩
theorem Avv : TI Tryz.prog 64 true 10 := ⟨⟨_, Tryz.underlying64, rfl⟩, by kernel_rfl⟩
theorem Aro : EI Tryz.prog 64 10 80 [Ii6 0, Ii6 0, Ii6 0, Ii6 0, Ii6 0, Ii6 0, Ii6 0, Ii6 0, Ii6 0, Ii6 0] := W5 (by kernel_rfl) (by decide)
theorem Avy : EI Tryz.prog 42 1 24 [Znl] := W5 (by kernel_rfl) (by decide)
theorem Ajn : SI Tryz.prog 216 42 1 := ⟨Tryz.underlying216, by kernel_rfl, by decide⟩
theorem Ak0 : SI Tryz.prog 42 64 10 := ⟨Tryz.underlying42, by kernel_rfl, by decide⟩
theorem Arp : FnI Tryz.prog 137 := ⟨⟨_, Tryz.func137, by kernel_rfl, by kernel_rfl⟩⟩
theorem Auy : NI Tryz.prog 42 := ⟨.inl ⟨_, Tryz.underlying42⟩⟩
theorem Arj : FnI Tryz.prog 128 := ⟨⟨_, Tryz.func128, by kernel_rfl, by kernel_rfl⟩⟩
theorem Avg : (Tryz.prog.info? 42).map (·.size) = some 1 := by kernel_rfl
theorem Aoa : FnI Tryz.prog 116 := ⟨⟨_, Tryz.func116, by kernel_rfl, by kernel_rfl⟩⟩
theorem As5 : FnI Tryz.prog 100 := ⟨⟨_, Tryz.func100, by kernel_rfl, by kernel_rfl⟩⟩
theorem Aoq : FnI Tryz.prog 131 := ⟨⟨_, Tryz.func131, by kernel_rfl, by kernel_rfl⟩⟩
theorem Arm : FnI Tryz.prog 132 := ⟨⟨_, Tryz.func132, by kernel_rfl, by kernel_rfl⟩⟩
theorem Aq8 : FnI Tryz.prog 118 := ⟨⟨_, Tryz.func118, by kernel_rfl, by kernel_rfl⟩⟩
theorem Arh : FnI Tryz.prog 101 := ⟨⟨_, Tryz.func101, by kernel_rfl, by kernel_rfl⟩⟩
theorem As9 : FnI Tryz.prog 102 := ⟨⟨_, Tryz.func102, by kernel_rfl, by kernel_rfl⟩⟩
theorem Arb : FnI Tryz.prog 103 := ⟨⟨_, Tryz.func103, by kernel_rfl, by kernel_rfl⟩⟩
theorem Ata : FnI Tryz.prog 104 := ⟨⟨_, Tryz.func104, by kernel_rfl, by kernel_rfl⟩⟩
theorem Ars : FnI Tryz.prog 105 := ⟨⟨_, Tryz.func105, by kernel_rfl, by kernel_rfl⟩⟩
theorem Avw : FnI Tryz.prog 46 := ⟨⟨_, Tryz.func46, by kernel_rfl, by kernel_rfl⟩⟩
theorem Arg : FnI Tryz.prog 18 := ⟨⟨_, Tryz.func18, by kernel_rfl, by kernel_rfl⟩⟩
theorem Aoj : FI Tryz.prog 61 1 1 := ⟨⟨_, _, 1, Tryz.underlying61, rfl, rfl, by kernel_rfl, by decide⟩⟩
theorem Aog : FI Tryz.prog 61 3 3 := ⟨⟨_, _, 1, Tryz.underlying61, rfl, rfl, by kernel_rfl, by decide⟩⟩
theorem fn7 : FnI Tryz.prog 7 := ⟨⟨_, Tryz.func7, by kernel_rfl, by kernel_rfl⟩⟩
theorem Amk : SI Tryz.prog 22 57 13 := ⟨Tryz.underlying22, by kernel_rfl, by decide⟩
theorem Ags : FI Tryz.prog 57 2 2 := ⟨⟨_, _, 3, Tryz.underlying57, rfl, rfl, by kernel_rfl, by decide⟩⟩
theorem Akp : FI Tryz.prog 52 1 1 := ⟨⟨_, _, 2, Tryz.underlying52, rfl, rfl, by kernel_rfl, by decide⟩⟩
theorem Atx : TI Tryz.prog 50 true 2 := ⟨⟨_, Tryz.underlying50, rfl⟩, by kernel_rfl⟩
theorem Xw : FI Tryz.prog 50 1 1 := ⟨⟨_, _, 1, Tryz.underlying50, rfl, rfl, by kernel_rfl, by decide⟩⟩
theorem Ann : TI Tryz.prog 48 false 1 := ⟨⟨_, Tryz.underlying48, rfl⟩, by kernel_rfl⟩
theorem Any : SI Tryz.prog 48 135 8 := ⟨Tryz.underlying48, by kernel_rfl, by decide⟩
theorem Aeu : FI Tryz.prog 135 4 4 := ⟨⟨_, _, 1, Tryz.underlying135, rfl, rfl, by kernel_rfl, by decide⟩⟩
theorem Afo : FI Tryz.prog 135 5 5 := ⟨⟨_, _, 3, Tryz.underlying135, rfl, rfl, by kernel_rfl, by decide⟩⟩
theorem Avi : FnI Tryz.prog 57 := ⟨⟨_, Tryz.func57, by kernel_rfl, by kernel_rfl⟩⟩
theorem Av1 : FnI Tryz.prog 23 := ⟨⟨_, Tryz.func23, by kernel_rfl, by kernel_rfl⟩⟩
theorem Ak1 : FI Tryz.prog 57 3 5 := ⟨⟨_, _, 7, Tryz.underlying57, rfl, rfl, by kernel_rfl, by decide⟩⟩
theorem Auk : TI Tryz.prog 55 true 7 := ⟨⟨_, Tryz.underlying55, rfl⟩, by kernel_rfl⟩
theorem Auz : FnI Tryz.prog 24 := ⟨⟨_, Tryz.func24, by kernel_rfl, by kernel_rfl⟩⟩
theorem Akd : FI Tryz.prog 57 4 12 := ⟨⟨_, _, 1, Tryz.underlying57, rfl, rfl, by kernel_rfl, by decide⟩⟩
theorem fn8 : FnI Tryz.prog 8 := ⟨⟨_, Tryz.func8, by kernel_rfl, by kernel_rfl⟩⟩
theorem Au4 : TI Tryz.prog 57 true 13 := ⟨⟨_, Tryz.underlying57, rfl⟩, by kernel_rfl⟩
theorem Xq : FI Tryz.prog 57 0 0 := ⟨⟨_, _, 1, Tryz.underlying57, rfl, rfl, by kernel_rfl, by decide⟩⟩
theorem Api : FI Tryz.prog 52 0 0 := ⟨⟨_, _, 1, Tryz.underlying52, rfl, rfl, by kernel_rfl, by decide⟩⟩
theorem Ap4 : FI Tryz.prog 50 0 0 := ⟨⟨_, _, 1, Tryz.underlying50, rfl, rfl, by kernel_rfl, by decide⟩⟩
theorem Aur : (Tryz.prog.info? 92).map (·.size) = some 2 := by kernel_rfl
theorem Arr : TI Tryz.prog 135 true 8 := ⟨⟨_, Tryz.underlying135, rfl⟩, by kernel_rfl⟩
theorem Atd : ZI Tryz.prog 135 ([Ii6 0, Ii6 0, Ii6 0, Ii6 0, Znl, Znl, Znl, .b false]) := Nv (by kernel_rfl)
theorem Asb : (Tryz.prog.info? 135).map (·.size) = some 8 := by kernel_rfl
theorem Anf : FI Tryz.prog 135 0 0 := ⟨⟨_, _, 1, Tryz.underlying135, rfl, rfl, by kernel_rfl, by decide⟩⟩
theorem Am2 : FI Tryz.prog 135 1 1 := ⟨⟨_, _, 1, Tryz.underlying135, rfl, rfl, by kernel_rfl, by decide⟩⟩
theorem Amr : FI Tryz.prog 135 2 2 := ⟨⟨_, _, 1, Tryz.underlying135, rfl, rfl, by kernel_rfl, by decide⟩⟩
theorem Al2 : FI Tryz.prog 135 3 3 := ⟨⟨_, _, 1, Tryz.underlying135, rfl, rfl, by kernel_rfl, by decide⟩⟩
theorem Auw : NI Tryz.prog 90 := ⟨.inl ⟨_, Tryz.underlying90⟩⟩
theorem Aux : (Tryz.prog.info? 90).map (·.size) = some 1 := by kernel_rfl
theorem Au0 : FnI Tryz.prog 26 := ⟨⟨_, Tryz.func26, by kernel_rfl, by kernel_rfl⟩⟩
theorem Awd : FnI Tryz.prog 27 := ⟨⟨_, Tryz.func27, by kernel_rfl, by kernel_rfl⟩⟩
theorem Ap2 : FI Tryz.prog 57 1 1 := ⟨⟨_, _, 1, Tryz.underlying57, rfl, rfl, by kernel_rfl, by decide⟩⟩
theorem Au6 : FnI Tryz.prog 73 := ⟨⟨_, Tryz.func73, by kernel_rfl, by kernel_rfl⟩⟩
theorem Avh : FnI Tryz.prog 38 := ⟨⟨_, Tryz.func38, by kernel_rfl, by kernel_rfl⟩⟩
theorem Auj : FnI Tryz.prog 15 := ⟨⟨_, Tryz.func15, by kernel_rfl, by kernel_rfl⟩⟩
theorem Avn : FnI Tryz.prog 28 := ⟨⟨_, Tryz.func28, by kernel_rfl, by kernel_rfl⟩⟩
theorem Av2 : FnI Tryz.prog 11 := ⟨⟨_, Tryz.func11, by kernel_rfl, by kernel_rfl⟩⟩
def Nf  : Option Cp :=
 some (Cp.mk 3 (Dk.mk 4 30 4) 3 2)
theorem R9  {r : Cp} (h : Nf = some r) : Bp Tryz.prog 10 [] (· = .s (.agg (EL.el r))) := by
 unfold Nf at h
 refine A2 Tryz.func10 rfl (nt := 3) rfl (Nbl rfl) ?_
 intro w0 S0
 refine Aq (Ab (Bz rfl At4 (Ar (Aq (Ab (sv rfl (Bk Avo Auv (Ap rfl (Ap rfl (Ap rfl A9))) (.cons _ _ _ _ _ _ _ rfl rfl (Nbl rfl) (.cons _ _ _ _ _ _ _ rfl rfl (Nbl rfl) (.cons _ _ _ _ _ _ _ rfl rfl (Nbl rfl) (.nil _))))) (sv rfl (Bk At4 Avp (Ap rfl (Ap rfl (Ap rfl (Ap rfl A9)))) (.cons _ _ _ _ _ _ _ rfl rfl (Nbl rfl) (.cons _ _ _ _ _ _ _ rfl rfl (Nbl rfl) (.cons _ _ _ _ _ _ _ rfl rfl (Nbl rfl) (.cons _ _ _ _ _ _ _ rfl rfl (Nbl rfl) (.nil _)))))) (Ax Avb rfl rfl rfl rfl (Nbl rfl) (Bt [.box [Ii6 3, Ii6 4, Ii6 30, Ii6 4, Ii6 3, Ii6 2]] rfl (Ar (Bj ?_)))))))))))
 obtain rfl := SJ h
 refine ⟨Or.inr rfl, _, _, _, (Ad (Bc.agg _ _ _ _ _ Aqj rfl (.lp _ _ _ rfl) (Nbl rfl)) Af), (Aj rfl), ?_⟩
 rfl
def Bx (a0 : Int) (a1 : Int) (a2 : Int) : Option Bool :=
 if (decide (a1 ≤ a0)) then (some (decide (a0 ≤ a2))) else (some false)
theorem Cj {a0 : Int} {a1 : Int} {a2 : Int} {r : Bool} (h : Bx a0 a1 a2 = some r) : Bp Tryz.prog 36 [.one (Ii6 a0), .one (Ii6 a1), .one (Ii6 a2)] (· = .s (.one (.b r))) := by
 unfold Bx at h
 refine A2 Tryz.func36 rfl (nt := 15) rfl (Nbl rfl) ?_
 intro w0 S0
 refine Aq (Ab (sv rfl (Ak rfl) (Ar (Aq (Ab (sv rfl (Ah rfl) (sv rfl (Ah rfl) (sv rfl (L9 rfl rfl) (sv rfl (Ah rfl) (Bq 10 rfl (fun hc => ?_) (fun hc => ?_)))))))))))
 ·replace h := B1 hc h
  clear hc
  refine son rfl rfl rfl (sv rfl (Ah rfl) (son rfl rfl rfl (sv rfl (Ah rfl) (son rfl rfl rfl (sv rfl (F1 rfl rfl) (sv rfl (Au rfl rfl) (sv rfl (Ak rfl) (Ar (Bj ?_)))))))))
  obtain rfl := SJ h
  refine ⟨Or.inr rfl, _, _, _, (Ad (Bc.tmp _ _ rfl) Af), (Aj rfl), ?_⟩
  rfl
 ·replace h := B0 hc h
  clear hc
  refine Aw rfl rfl rfl rfl (Aw rfl rfl rfl rfl (Aw rfl rfl rfl rfl (sv rfl (Am rfl rfl) (sv rfl (Ak rfl) (Ar (Bj ?_))))))
  obtain rfl := SJ h
  refine ⟨Or.inr rfl, _, _, _, (Ad (Bc.tmp _ _ rfl) Af), (Aj rfl), ?_⟩
  rfl
def J7 (a0 : Dk) : Option Bool :=
 if (decide (1 ≤ a0.Wait)) then (if (decide (a0.Wait ≤ 1048576)) then (if (decide (a0.Wait ≤ a0.Most)) then (if (decide (a0.Most ≤ 1073741824)) then (if (decide (0 ≤ a0.Tries)) then (some (decide (a0.Tries ≤ 100))) else (some false)) else (some false)) else (some false)) else (some false)) else (some false)
theorem P2 {a0 : Dk} {r : Bool} (h : J7 a0 = some r) : Bp Tryz.prog 58 [.agg (EL.el a0)] (· = .s (.one (.b r))) := by
 unfold J7 at h
 refine A2 Tryz.func58 rfl (nt := 33) rfl (Nbl rfl) ?_
 intro w0 S0
 refine Aq (Ab (Je rfl rfl (sv rfl (Ak rfl) (Ar (Aq (Ab (sv rfl (Aa Acs rfl) (sv rfl (Ae ti3 rfl (.lp _ _ _ rfl) rfl) (sv rfl (L9 rfl rfl) (sv rfl (Ah rfl) (Bq 6 rfl (fun hc => ?_) (fun hc => ?_))))))))))))
 ·replace h := B1 hc h
  clear hc
  refine son rfl rfl rfl (sv rfl (Aa Acs rfl) (son rfl rfl rfl (sv rfl (Ae ti3 rfl (.lp _ _ _ rfl) rfl) (son rfl rfl rfl (sv rfl (F1 rfl rfl) (sv rfl (Au rfl rfl) (sv rfl (Ah rfl) (Bq 11 rfl (fun hc => ?_) (fun hc => ?_)))))))))
  ·replace h := B1 hc h
   clear hc
   refine son rfl rfl rfl (sv rfl (Aa Agc rfl) (son rfl rfl rfl (sv rfl (Ae ti3 rfl (.lp _ _ _ rfl) rfl) (son rfl rfl rfl (sv rfl (Aa Acs rfl) (son rfl rfl rfl (sv rfl (Ae ti3 rfl (.lp _ _ _ rfl) rfl) (son rfl rfl rfl (sv rfl (L9 rfl rfl) (sv rfl (Au rfl rfl) (sv rfl (Ah rfl) (Bq 18 rfl (fun hc => ?_) (fun hc => ?_)))))))))))))
   ·replace h := B1 hc h
    clear hc
    refine son rfl rfl rfl (sv rfl (Aa Agc rfl) (son rfl rfl rfl (sv rfl (Ae ti3 rfl (.lp _ _ _ rfl) rfl) (son rfl rfl rfl (sv rfl (F1 rfl rfl) (sv rfl (Au rfl rfl) (sv rfl (Ah rfl) (Bq 23 rfl (fun hc => ?_) (fun hc => ?_)))))))))
    ·replace h := B1 hc h
     clear hc
     refine son rfl rfl rfl (sv rfl (Aa Aaa rfl) (son rfl rfl rfl (sv rfl (Ae ti3 rfl (.lp _ _ _ rfl) rfl) (son rfl rfl rfl (sv rfl (L9 rfl rfl) (sv rfl (Au rfl rfl) (sv rfl (Ah rfl) (Bq 28 rfl (fun hc => ?_) (fun hc => ?_)))))))))
     ·replace h := B1 hc h
      clear hc
      refine son rfl rfl rfl (sv rfl (Aa Aaa rfl) (son rfl rfl rfl (sv rfl (Ae ti3 rfl (.lp _ _ _ rfl) rfl) (son rfl rfl rfl (sv rfl (F1 rfl rfl) (sv rfl (Au rfl rfl) (sv rfl (Ak rfl) (Ar (Bj ?_)))))))))
      obtain rfl := SJ h
      refine ⟨Or.inr rfl, _, _, _, (Ad (Bc.tmp _ _ rfl) Af), (Aj rfl), ?_⟩
      rfl
     ·replace h := B0 hc h
      clear hc
      refine Aw rfl rfl rfl rfl (Aw rfl rfl rfl rfl (Aw rfl rfl rfl rfl (sv rfl (Am rfl rfl) (sv rfl (Ak rfl) (Ar (Bj ?_))))))
      obtain rfl := SJ h
      refine ⟨Or.inr rfl, _, _, _, (Ad (Bc.tmp _ _ rfl) Af), (Aj rfl), ?_⟩
      rfl
    ·replace h := B0 hc h
     clear hc
     refine Aw rfl rfl rfl rfl (Aw rfl rfl rfl rfl (Aw rfl rfl rfl rfl (sv rfl (Am rfl rfl) (sv rfl (Ah rfl) (Aw rfl rfl rfl rfl (Aw rfl rfl rfl rfl (Aw rfl rfl rfl rfl (sv rfl (Am rfl rfl) (sv rfl (Ak rfl) (Ar (Bj ?_)))))))))))
     obtain rfl := SJ h
     refine ⟨Or.inr rfl, _, _, _, (Ad (Bc.tmp _ _ rfl) Af), (Aj rfl), ?_⟩
     rfl
   ·replace h := B0 hc h
    clear hc
    refine Aw rfl rfl rfl rfl (Aw rfl rfl rfl rfl (Aw rfl rfl rfl rfl (sv rfl (Am rfl rfl) (sv rfl (Ah rfl) (Aw rfl rfl rfl rfl (Aw rfl rfl rfl rfl (Aw rfl rfl rfl rfl (sv rfl (Am rfl rfl) (sv rfl (Ah rfl) (Aw rfl rfl rfl rfl (Aw rfl rfl rfl rfl (Aw rfl rfl rfl rfl (sv rfl (Am rfl rfl) (sv rfl (Ak rfl) (Ar (Bj ?_))))))))))))))))
    obtain rfl := SJ h
    refine ⟨Or.inr rfl, _, _, _, (Ad (Bc.tmp _ _ rfl) Af), (Aj rfl), ?_⟩
    rfl
  ·replace h := B0 hc h
   clear hc
   refine Aw rfl rfl rfl rfl (Aw rfl rfl rfl rfl (Aw rfl rfl rfl rfl (Aw rfl rfl rfl rfl (Aw rfl rfl rfl rfl (sv rfl (Am rfl rfl) (sv rfl (Ah rfl) (Aw rfl rfl rfl rfl (Aw rfl rfl rfl rfl (Aw rfl rfl rfl rfl (sv rfl (Am rfl rfl) (sv rfl (Ah rfl) (Aw rfl rfl rfl rfl (Aw rfl rfl rfl rfl (Aw rfl rfl rfl rfl (sv rfl (Am rfl rfl) (sv rfl (Ah rfl) (Aw rfl rfl rfl rfl (Aw rfl rfl rfl rfl (Aw rfl rfl rfl rfl (sv rfl (Am rfl rfl) (sv rfl (Ak rfl) (Ar (Bj ?_)))))))))))))))))))))))
   obtain rfl := SJ h
   refine ⟨Or.inr rfl, _, _, _, (Ad (Bc.tmp _ _ rfl) Af), (Aj rfl), ?_⟩
   rfl
 ·replace h := B0 hc h
  clear hc
  refine Aw rfl rfl rfl rfl (Aw rfl rfl rfl rfl (Aw rfl rfl rfl rfl (sv rfl (Am rfl rfl) (sv rfl (Ah rfl) (Aw rfl rfl rfl rfl (Aw rfl rfl rfl rfl (Aw rfl rfl rfl rfl (Aw rfl rfl rfl rfl (Aw rfl rfl rfl rfl (sv rfl (Am rfl rfl) (sv rfl (Ah rfl) (Aw rfl rfl rfl rfl (Aw rfl rfl rfl rfl (Aw rfl rfl rfl rfl (sv rfl (Am rfl rfl) (sv rfl (Ah rfl) (Aw rfl rfl rfl rfl (Aw rfl rfl rfl rfl (Aw rfl rfl rfl rfl (sv rfl (Am rfl rfl) (sv rfl (Ah rfl) (Aw rfl rfl rfl rfl (Aw rfl rfl rfl rfl (Aw rfl rfl rfl rfl (sv rfl (Am rfl rfl) (sv rfl (Ak rfl) (Ar (Bj ?_))))))))))))))))))))))))))))
  obtain rfl := SJ h
  refine ⟨Or.inr rfl, _, _, _, (Ad (Bc.tmp _ _ rfl) Af), (Aj rfl), ?_⟩
  rfl
def Gq (a0 : Cp) : Option Bool :=
 (Bx a0.Who 0 1048576).bind fun v1 => if v1 then ((J7 a0.Plan).bind fun v2 => if v2 then (if (decide (0 < a0.Plan.Tries)) then ((Bx a0.Attempts 1 1000).bind fun v3 => if v3 then ((Bx a0.Budget 0 1000).bind fun v4 => some v4) else (some false)) else (some false)) else (some false)) else (some false)
theorem Mn {a0 : Cp} {r : Bool} (h : Gq a0 = some r) : Bp Tryz.prog 25 [.agg (EL.el a0)] (· = .s (.one (.b r))) := by
 unfold Gq at h
 refine A2 Tryz.func25 rfl (nt := 27) rfl (Nbl rfl) ?_
 intro w0 S0
 refine Aq (Ab (Je rfl rfl (sv rfl (Ak rfl) (Ar (Aq (Ab (sv rfl (Aa Agk rfl) (sv rfl (Ae ti3 rfl (.lp _ _ _ rfl) rfl) ?_))))))))
 obtain ⟨v1, hv1, h⟩ := An h
 refine A1 rfl Aen (Ac rfl (Ac rfl (Ac rfl Al))) (Aj rfl) (Cj hv1) (sv rfl (Ah rfl) (Bq 6 rfl (fun hc => ?_) (fun hc => ?_)))
 ·replace h := B1 hc h
  clear hc
  refine son rfl rfl rfl (sv rfl (Aa Wm rfl) (son rfl rfl rfl (sv rfl (Ao Aj9 rfl (.lp _ _ _ rfl) (Nbl rfl)) (son rfl rfl rfl ?_))))
  obtain ⟨v2, hv2, h⟩ := An h
  refine A1 rfl Aud (Ac rfl Al) (Aj rfl) (P2 hv2) (sv rfl (Au rfl rfl) (sv rfl (Ah rfl) (Bq 11 rfl (fun hc => ?_) (fun hc => ?_))))
  ·replace h := B1 hc h
   clear hc
   refine son rfl rfl rfl (sv rfl (Aa Wm rfl) (son rfl rfl rfl (sv rfl (Aa Aaa rfl) (son rfl rfl rfl (sv rfl (Ae ti3 rfl (.lp _ _ _ rfl) rfl) (son rfl rfl rfl (sv rfl (Dg rfl rfl) (sv rfl (Au rfl rfl) (sv rfl (Ah rfl) (Bq 17 rfl (fun hc => ?_) (fun hc => ?_)))))))))))
   ·replace h := B1 hc h
    clear hc
    refine son rfl rfl rfl (sv rfl (Aa Agp rfl) (son rfl rfl rfl (sv rfl (Ae ti3 rfl (.lp _ _ _ rfl) rfl) (son rfl rfl rfl ?_))))
    obtain ⟨v3, hv3, h⟩ := An h
    refine A1 rfl Aen (Ac rfl (Ac rfl (Ac rfl Al))) (Aj rfl) (Cj hv3) (sv rfl (Au rfl rfl) (sv rfl (Ah rfl) (Bq 22 rfl (fun hc => ?_) (fun hc => ?_))))
    ·replace h := B1 hc h
     clear hc
     refine son rfl rfl rfl (sv rfl (Aa Akv rfl) (son rfl rfl rfl (sv rfl (Ae ti3 rfl (.lp _ _ _ rfl) rfl) (son rfl rfl rfl ?_))))
     obtain ⟨v4, hv4, h⟩ := An h
     refine A1 rfl Aen (Ac rfl (Ac rfl (Ac rfl Al))) (Aj rfl) (Cj hv4) (sv rfl (Au rfl rfl) (sv rfl (Ak rfl) (Ar (Bj ?_))))
     obtain rfl := SJ h
     refine ⟨Or.inr rfl, _, _, _, (Ad (Bc.tmp _ _ rfl) Af), (Aj rfl), ?_⟩
     rfl
    ·replace h := B0 hc h
     clear hc
     refine Aw rfl rfl rfl rfl (Aw rfl rfl rfl rfl (Aw rfl rfl rfl rfl (sv rfl (Am rfl rfl) (sv rfl (Ak rfl) (Ar (Bj ?_))))))
     obtain rfl := SJ h
     refine ⟨Or.inr rfl, _, _, _, (Ad (Bc.tmp _ _ rfl) Af), (Aj rfl), ?_⟩
     rfl
   ·replace h := B0 hc h
    clear hc
    refine Aw rfl rfl rfl rfl (Aw rfl rfl rfl rfl (Aw rfl rfl rfl rfl (sv rfl (Am rfl rfl) (sv rfl (Ah rfl) (Aw rfl rfl rfl rfl (Aw rfl rfl rfl rfl (Aw rfl rfl rfl rfl (sv rfl (Am rfl rfl) (sv rfl (Ak rfl) (Ar (Bj ?_)))))))))))
    obtain rfl := SJ h
    refine ⟨Or.inr rfl, _, _, _, (Ad (Bc.tmp _ _ rfl) Af), (Aj rfl), ?_⟩
    rfl
  ·replace h := B0 hc h
   clear hc
   refine Aw rfl rfl rfl rfl (Aw rfl rfl rfl rfl (Aw rfl rfl rfl rfl (Aw rfl rfl rfl rfl (sv rfl (Am rfl rfl) (sv rfl (Ah rfl) (Aw rfl rfl rfl rfl (Aw rfl rfl rfl rfl (Aw rfl rfl rfl rfl (sv rfl (Am rfl rfl) (sv rfl (Ah rfl) (Aw rfl rfl rfl rfl (Aw rfl rfl rfl rfl (Aw rfl rfl rfl rfl (sv rfl (Am rfl rfl) (sv rfl (Ak rfl) (Ar (Bj ?_)))))))))))))))))
   obtain rfl := SJ h
   refine ⟨Or.inr rfl, _, _, _, (Ad (Bc.tmp _ _ rfl) Af), (Aj rfl), ?_⟩
   rfl
 ·replace h := B0 hc h
  clear hc
  refine Aw rfl rfl rfl rfl (Aw rfl rfl rfl rfl (Aw rfl rfl rfl rfl (sv rfl (Am rfl rfl) (sv rfl (Ah rfl) (Aw rfl rfl rfl rfl (Aw rfl rfl rfl rfl (Aw rfl rfl rfl rfl (Aw rfl rfl rfl rfl (sv rfl (Am rfl rfl) (sv rfl (Ah rfl) (Aw rfl rfl rfl rfl (Aw rfl rfl rfl rfl (Aw rfl rfl rfl rfl (sv rfl (Am rfl rfl) (sv rfl (Ah rfl) (Aw rfl rfl rfl rfl (Aw rfl rfl rfl rfl (Aw rfl rfl rfl rfl (sv rfl (Am rfl rfl) (sv rfl (Ak rfl) (Ar (Bj ?_))))))))))))))))))))))
  obtain rfl := SJ h
  refine ⟨Or.inr rfl, _, _, _, (Ad (Bc.tmp _ _ rfl) Af), (Aj rfl), ?_⟩
  rfl
def K6 (a0 : Cp) : Option (Ag × Int) :=
 (Gq a0).bind fun v1 => if (!v1) then (some (Cw, 1)) else (some ((Ag.mk a0 ([] : List Av) 1 1 0 0 0 0 0 false G4 Om (Bn.mk ([] : List UInt8) 0) ([] : List UInt8) ([] : List Ba) ([] : List A4)), 0))
theorem Qm {a0 : Cp} {r : Ag × Int} (h : K6 a0 = some r) : Bp Tryz.prog 9 [.agg (EL.el a0)] (· = .tup [.agg (EL.el r.1), .one (Ii6 r.2)]) := by
 unfold K6 at h
 refine A2 Tryz.func9 rfl (nt := 10) rfl (Nbl rfl) ?_
 intro w0 S0
 refine Aq (Ab (Je rfl rfl (Bz rfl Nc (sv rfl (Ak rfl) (Ar (Aq (Aq (Ab (sv rfl (Ao Aqj rfl (.lp _ _ _ rfl) (Nbl rfl)) ?_)))))))))
 obtain ⟨v1, hv1, h⟩ := An h
 refine A1 rfl At6 (Ac rfl Al) (Aj rfl) (Mn hv1) (sv rfl (B8 rfl) (Ar (ccI h rfl (fun h => ?_) (fun h => ?_))))
 ·refine Aq (Ab (sv rfl (Bk Nc Add A9 (.nil _)) (Ax Em rfl rfl rfl rfl (Nbl rfl) (Bt [.box (EL.el a0), .box Zba] rfl (sv rfl (Ak rfl) (Ar (Bj (As ?_))))))))
  obtain rfl := SJ h
  refine ⟨Or.inr rfl, _, _, _, (Ad (Bc.agg _ _ _ _ _ B4 rfl (.lp _ _ _ rfl) (Nbl rfl)) (Ad (Bc.tmp _ _ rfl) Af)), (Nl rfl), ?_⟩
  rfl
 ·refine Bl (Ai (Aq (Ab (sv rfl (Ao Aqj rfl (.lp _ _ _ rfl) (Nbl rfl)) (sv rfl (Bk Nc Add (Ap rfl (Ap rfl (Ap rfl A9))) (.cons _ _ _ _ _ _ _ rfl rfl (Nbl rfl) (.cons _ _ _ _ _ _ _ rfl rfl (Nbl rfl) (.cons _ _ _ _ _ _ _ rfl rfl (Nbl rfl) (.nil _))))) (Ax Em rfl rfl rfl rfl (Nbl rfl) (Bt [.box (EL.el a0), .box [Ii6 a0.Who, Ii6 a0.Plan.Wait, Ii6 a0.Plan.Most, Ii6 a0.Plan.Tries, Ii6 a0.Attempts, Ii6 a0.Budget, Znl, Ii6 1, Ii6 1, Ii6 0, Ii6 0, Ii6 0, Ii6 0, Ii6 0, .b false, Ii6 0, Ii6 0, Ii6 0, Ii6 0, Ii6 0, Ii6 0, Ii6 0, Ii6 0, Ii6 0, .b false, Ii6 0, Ii6 0, Ii6 0, Ii6 0, .b false, Znl, Znl, Znl, Znl, .b false, Znl, Ii6 0, Znl, Znl, Znl]] rfl (sv rfl (Ak rfl) (Ar (Bj ?_))))))))))
  obtain rfl := SJ h
  refine ⟨Or.inr rfl, _, _, _, (Ad (Bc.agg _ _ _ _ _ B4 rfl (.lp _ _ _ rfl) (Nbl rfl)) (Ad (Bc.tmp _ _ rfl) Af)), (Nl rfl), ?_⟩
  rfl
def F8 (a0 : Ag) : Option Bool :=
 (Bx a0.Phase 0 11).bind fun v1 => if v1 then ((Bx a0.Epoch 1 65535).bind fun v2 => if v2 then ((Bx a0.Seq 0 4294967296).bind fun v3 => if v3 then ((Bx a0.Attempt 0 a0.Cfg.Attempts).bind fun v4 => if v4 then (if (decide (0 ≤ a0.Sent)) then (if (decide (0 ≤ a0.Left)) then ((Bx a0.Resets 0 1001).bind fun v5 => some v5) else (some false)) else (some false)) else (some false)) else (some false)) else (some false)) else (some false)
theorem Ph {a0 : Ag} {r : Bool} (h : F8 a0 = some r) : Bp Tryz.prog 29 [.agg (EL.el a0)] (· = .s (.one (.b r))) := by
 unfold F8 at h
 refine A2 Tryz.func29 rfl (nt := 39) rfl (Nbl rfl) ?_
 intro w0 S0
 refine Aq (Ab (Je rfl rfl (sv rfl (Ak rfl) (Ar (Aq (Ab (sv rfl (Aa F7 rfl) (sv rfl (Ae ti3 rfl (.lp _ _ _ rfl) rfl) ?_))))))))
 obtain ⟨v1, hv1, h⟩ := An h
 refine A1 rfl Aen (Ac rfl (Ac rfl (Ac rfl Al))) (Aj rfl) (Cj hv1) (sv rfl (Ah rfl) (Bq 6 rfl (fun hc => ?_) (fun hc => ?_)))
 ·replace h := B1 hc h
  clear hc
  refine son rfl rfl rfl (sv rfl (Aa Z1 rfl) (son rfl rfl rfl (sv rfl (Ae ti3 rfl (.lp _ _ _ rfl) rfl) (son rfl rfl rfl ?_))))
  obtain ⟨v2, hv2, h⟩ := An h
  refine A1 rfl Aen (Ac rfl (Ac rfl (Ac rfl Al))) (Aj rfl) (Cj hv2) (sv rfl (Au rfl rfl) (sv rfl (Ah rfl) (Bq 11 rfl (fun hc => ?_) (fun hc => ?_))))
  ·replace h := B1 hc h
   clear hc
   refine son rfl rfl rfl (sv rfl (Aa Xl rfl) (son rfl rfl rfl (sv rfl (Ae ti3 rfl (.lp _ _ _ rfl) rfl) (son rfl rfl rfl ?_))))
   obtain ⟨v3, hv3, h⟩ := An h
   refine A1 rfl Aen (Ac rfl (Ac rfl (Ac rfl Al))) (Aj rfl) (Cj hv3) (sv rfl (Au rfl rfl) (sv rfl (Ah rfl) (Bq 16 rfl (fun hc => ?_) (fun hc => ?_))))
   ·replace h := B1 hc h
    clear hc
    refine son rfl rfl rfl (sv rfl (Aa Of rfl) (son rfl rfl rfl (sv rfl (Ae ti3 rfl (.lp _ _ _ rfl) rfl) (son rfl rfl rfl (sv rfl (Aa Qp rfl) (son rfl rfl rfl (sv rfl (Aa Agp rfl) (son rfl rfl rfl (sv rfl (Ae ti3 rfl (.lp _ _ _ rfl) rfl) (son rfl rfl rfl ?_))))))))))
    obtain ⟨v4, hv4, h⟩ := An h
    refine A1 rfl Aen (Ac rfl (Ac rfl (Ac rfl Al))) (Aj rfl) (Cj hv4) (sv rfl (Au rfl rfl) (sv rfl (Ah rfl) (Bq 24 rfl (fun hc => ?_) (fun hc => ?_))))
    ·replace h := B1 hc h
     clear hc
     refine son rfl rfl rfl (sv rfl (Aa Aai rfl) (son rfl rfl rfl (sv rfl (Ae ti3 rfl (.lp _ _ _ rfl) rfl) (son rfl rfl rfl (sv rfl (L9 rfl rfl) (sv rfl (Au rfl rfl) (sv rfl (Ah rfl) (Bq 29 rfl (fun hc => ?_) (fun hc => ?_)))))))))
     ·replace h := B1 hc h
      clear hc
      refine son rfl rfl rfl (sv rfl (Aa Q4 rfl) (son rfl rfl rfl (sv rfl (Ae ti3 rfl (.lp _ _ _ rfl) rfl) (son rfl rfl rfl (sv rfl (L9 rfl rfl) (sv rfl (Au rfl rfl) (sv rfl (Ah rfl) (Bq 34 rfl (fun hc => ?_) (fun hc => ?_)))))))))
      ·replace h := B1 hc h
       clear hc
       refine son rfl rfl rfl (sv rfl (Aa Adk rfl) (son rfl rfl rfl (sv rfl (Ae ti3 rfl (.lp _ _ _ rfl) rfl) (son rfl rfl rfl ?_))))
       obtain ⟨v5, hv5, h⟩ := An h
       refine A1 rfl Aen (Ac rfl (Ac rfl (Ac rfl Al))) (Aj rfl) (Cj hv5) (sv rfl (Au rfl rfl) (sv rfl (Ak rfl) (Ar (Bj ?_))))
       obtain rfl := SJ h
       refine ⟨Or.inr rfl, _, _, _, (Ad (Bc.tmp _ _ rfl) Af), (Aj rfl), ?_⟩
       rfl
      ·replace h := B0 hc h
       clear hc
       refine Aw rfl rfl rfl rfl (Aw rfl rfl rfl rfl (Aw rfl rfl rfl rfl (sv rfl (Am rfl rfl) (sv rfl (Ak rfl) (Ar (Bj ?_))))))
       obtain rfl := SJ h
       refine ⟨Or.inr rfl, _, _, _, (Ad (Bc.tmp _ _ rfl) Af), (Aj rfl), ?_⟩
       rfl
     ·replace h := B0 hc h
      clear hc
      refine Aw rfl rfl rfl rfl (Aw rfl rfl rfl rfl (Aw rfl rfl rfl rfl (sv rfl (Am rfl rfl) (sv rfl (Ah rfl) (Aw rfl rfl rfl rfl (Aw rfl rfl rfl rfl (Aw rfl rfl rfl rfl (sv rfl (Am rfl rfl) (sv rfl (Ak rfl) (Ar (Bj ?_)))))))))))
      obtain rfl := SJ h
      refine ⟨Or.inr rfl, _, _, _, (Ad (Bc.tmp _ _ rfl) Af), (Aj rfl), ?_⟩
      rfl
    ·replace h := B0 hc h
     clear hc
     refine Aw rfl rfl rfl rfl (Aw rfl rfl rfl rfl (Aw rfl rfl rfl rfl (sv rfl (Am rfl rfl) (sv rfl (Ah rfl) (Aw rfl rfl rfl rfl (Aw rfl rfl rfl rfl (Aw rfl rfl rfl rfl (sv rfl (Am rfl rfl) (sv rfl (Ah rfl) (Aw rfl rfl rfl rfl (Aw rfl rfl rfl rfl (Aw rfl rfl rfl rfl (sv rfl (Am rfl rfl) (sv rfl (Ak rfl) (Ar (Bj ?_))))))))))))))))
     obtain rfl := SJ h
     refine ⟨Or.inr rfl, _, _, _, (Ad (Bc.tmp _ _ rfl) Af), (Aj rfl), ?_⟩
     rfl
   ·replace h := B0 hc h
    clear hc
    refine Aw rfl rfl rfl rfl (Aw rfl rfl rfl rfl (Aw rfl rfl rfl rfl (Aw rfl rfl rfl rfl (Aw rfl rfl rfl rfl (Aw rfl rfl rfl rfl (sv rfl (Am rfl rfl) (sv rfl (Ah rfl) (Aw rfl rfl rfl rfl (Aw rfl rfl rfl rfl (Aw rfl rfl rfl rfl (sv rfl (Am rfl rfl) (sv rfl (Ah rfl) (Aw rfl rfl rfl rfl (Aw rfl rfl rfl rfl (Aw rfl rfl rfl rfl (sv rfl (Am rfl rfl) (sv rfl (Ah rfl) (Aw rfl rfl rfl rfl (Aw rfl rfl rfl rfl (Aw rfl rfl rfl rfl (sv rfl (Am rfl rfl) (sv rfl (Ak rfl) (Ar (Bj ?_))))))))))))))))))))))))
    obtain rfl := SJ h
    refine ⟨Or.inr rfl, _, _, _, (Ad (Bc.tmp _ _ rfl) Af), (Aj rfl), ?_⟩
    rfl
  ·replace h := B0 hc h
   clear hc
   refine Aw rfl rfl rfl rfl (Aw rfl rfl rfl rfl (Aw rfl rfl rfl rfl (sv rfl (Am rfl rfl) (sv rfl (Ah rfl) (Aw rfl rfl rfl rfl (Aw rfl rfl rfl rfl (Aw rfl rfl rfl rfl (Aw rfl rfl rfl rfl (Aw rfl rfl rfl rfl (Aw rfl rfl rfl rfl (sv rfl (Am rfl rfl) (sv rfl (Ah rfl) (Aw rfl rfl rfl rfl (Aw rfl rfl rfl rfl (Aw rfl rfl rfl rfl (sv rfl (Am rfl rfl) (sv rfl (Ah rfl) (Aw rfl rfl rfl rfl (Aw rfl rfl rfl rfl (Aw rfl rfl rfl rfl (sv rfl (Am rfl rfl) (sv rfl (Ah rfl) (Aw rfl rfl rfl rfl (Aw rfl rfl rfl rfl (Aw rfl rfl rfl rfl (sv rfl (Am rfl rfl) (sv rfl (Ak rfl) (Ar (Bj ?_)))))))))))))))))))))))))))))
   obtain rfl := SJ h
   refine ⟨Or.inr rfl, _, _, _, (Ad (Bc.tmp _ _ rfl) Af), (Aj rfl), ?_⟩
   rfl
 ·replace h := B0 hc h
  clear hc
  refine Aw rfl rfl rfl rfl (Aw rfl rfl rfl rfl (Aw rfl rfl rfl rfl (sv rfl (Am rfl rfl) (sv rfl (Ah rfl) (Aw rfl rfl rfl rfl (Aw rfl rfl rfl rfl (Aw rfl rfl rfl rfl (sv rfl (Am rfl rfl) (sv rfl (Ah rfl) (Aw rfl rfl rfl rfl (Aw rfl rfl rfl rfl (Aw rfl rfl rfl rfl (Aw rfl rfl rfl rfl (Aw rfl rfl rfl rfl (Aw rfl rfl rfl rfl (sv rfl (Am rfl rfl) (sv rfl (Ah rfl) (Aw rfl rfl rfl rfl (Aw rfl rfl rfl rfl (Aw rfl rfl rfl rfl (sv rfl (Am rfl rfl) (sv rfl (Ah rfl) (Aw rfl rfl rfl rfl (Aw rfl rfl rfl rfl (Aw rfl rfl rfl rfl (sv rfl (Am rfl rfl) (sv rfl (Ah rfl) (Aw rfl rfl rfl rfl (Aw rfl rfl rfl rfl (Aw rfl rfl rfl rfl (sv rfl (Am rfl rfl) (sv rfl (Ak rfl) (Ar (Bj ?_))))))))))))))))))))))))))))))))))
  obtain rfl := SJ h
  refine ⟨Or.inr rfl, _, _, _, (Ad (Bc.tmp _ _ rfl) Af), (Aj rfl), ?_⟩
  rfl
def E6 (a0 : Int) (a1 : Int) : Option Bool :=
 if (decide (0 ≤ a0)) then (some (decide (a0 ≤ a1))) else (some false)
theorem Il {a0 : Int} {a1 : Int} {r : Bool} (h : E6 a0 a1 = some r) : Bp Tryz.prog 120 [.one (Ii6 a0), .one (Ii6 a1)] (· = .s (.one (.b r))) := by
 unfold E6 at h
 refine A2 Tryz.func120 rfl (nt := 12) rfl (Nbl rfl) ?_
 intro w0 S0
 refine Aq (Ab (sv rfl (Ak rfl) (Ar (Aq (Ab (sv rfl (Ah rfl) (sv rfl (L9 rfl rfl) (sv rfl (Ah rfl) (Bq 7 rfl (fun hc => ?_) (fun hc => ?_))))))))))
 ·replace h := B1 hc h
  clear hc
  refine son rfl rfl rfl (sv rfl (Ah rfl) (son rfl rfl rfl (sv rfl (Ah rfl) (son rfl rfl rfl (sv rfl (F1 rfl rfl) (sv rfl (Au rfl rfl) (sv rfl (Ak rfl) (Ar (Bj ?_)))))))))
  obtain rfl := SJ h
  refine ⟨Or.inr rfl, _, _, _, (Ad (Bc.tmp _ _ rfl) Af), (Aj rfl), ?_⟩
  rfl
 ·replace h := B0 hc h
  clear hc
  refine Aw rfl rfl rfl rfl (Aw rfl rfl rfl rfl (Aw rfl rfl rfl rfl (sv rfl (Am rfl rfl) (sv rfl (Ak rfl) (Ar (Bj ?_))))))
  obtain rfl := SJ h
  refine ⟨Or.inr rfl, _, _, _, (Ad (Bc.tmp _ _ rfl) Af), (Aj rfl), ?_⟩
  rfl
def G8 (a0 : Int) (b1 : Bool) : Option La :=
 if b1 then (some (La.mk true false true)) else (if (decide (a0 = 4)) then (some (La.mk false true false)) else (some (La.mk false false false)))
def Gg (a0 : Int) : Option La :=
 if (decide (a0 = 1)) then (some (La.mk true false false)) else (if (decide (a0 = 2)) then (G8 a0 (decide (a0 = 2))) else (G8 a0 (decide (a0 = 3))))
theorem N1 {a0 : Int} {r : La} (h : Gg a0 = some r) : Bp Tryz.prog 121 [.one (Ii6 a0)] (· = .s (.agg (EL.el r))) := by
 unfold Gg at h
 refine A2 Tryz.func121 rfl (nt := 15) rfl (Nbl rfl) ?_
 intro w0 S0
 refine Aq (Ab (Bz rfl Zs (Ar (Aq (Aq (Ab (sv rfl (Ah rfl) (Ar (Ca (Aq (Ab (sv rfl (Bo rfl rfl) (sv rfl (Ak rfl) (Ar (ccI h rfl (fun h => ?_) (fun h => ?_))))))))))))))))
 ·refine Aq (Ab (sv rfl (G2 Zs Ab6 (Ap rfl (Ap rfl (Ap rfl A9))) (.cons _ _ _ _ _ _ _ rfl rfl (Nbl rfl) (.cons _ _ _ _ _ _ _ rfl rfl (Nbl rfl) (.cons _ _ _ _ _ _ _ rfl rfl (Nbl rfl) (.nil _))))) (Ax Ae8 rfl rfl rfl rfl (Nbl rfl) (Bt [.box [.b true, .b false, .b false]] rfl (Ar (Bj (Bd (As ?_))))))))
  obtain rfl := SJ h
  refine ⟨Or.inr rfl, _, _, _, (Ad (Bc.agg _ _ _ _ _ Ahl rfl (.lp _ _ _ rfl) (Nbl rfl)) Af), (Aj rfl), ?_⟩
  rfl
 ·refine Aq (Aq (Ab (sv rfl (Bo rfl rfl) (sv rfl (Ak rfl) (Ar (G5 (Bool) (fun b1 => [(2, .s (.one (.lp 0 0))), (3, .s (.one (Ii6 a0))), (7, .s (.one (.b b1)))]) (fun b1 => [.box [.b false, .b false, .b false]]) (fun b1 => G8 a0 b1 = some r) (fun _ _ => Bg rfl) (fun _ _ => A0 rfl) (fun _ _ => Nbl rfl) (fun b1 h => ?_) ?_))))))
  ·unfold G8 at h
   refine ccI h rfl (fun h => ?_) (fun h => ?_)
   ·refine Aq (Ab (sv rfl (G2 Zs Ab6 (Ap rfl (Ap rfl (Ap rfl A9))) (.cons _ _ _ _ _ _ _ rfl rfl (Nbl rfl) (.cons _ _ _ _ _ _ _ rfl rfl (Nbl rfl) (.cons _ _ _ _ _ _ _ rfl rfl (Nbl rfl) (.nil _))))) (Ax Ae8 rfl rfl rfl rfl (Nbl rfl) (Bt [.box [.b true, .b false, .b true]] rfl (Ar (Bj (Bd (As ?_))))))))
    obtain rfl := SJ h
    refine ⟨Or.inr rfl, _, _, _, (Ad (Bc.agg _ _ _ _ _ Ahl rfl (.lp _ _ _ rfl) (Nbl rfl)) Af), (Aj rfl), ?_⟩
    rfl
   ·refine Aq (Ab (sv rfl (Bo rfl rfl) (sv rfl (Ak rfl) (Ar (ccI h rfl (fun h => ?_) (fun h => ?_))))))
    ·refine Aq (Ab (sv rfl (G2 Zs Ab6 (Ap rfl (Ap rfl (Ap rfl A9))) (.cons _ _ _ _ _ _ _ rfl rfl (Nbl rfl) (.cons _ _ _ _ _ _ _ rfl rfl (Nbl rfl) (.cons _ _ _ _ _ _ _ rfl rfl (Nbl rfl) (.nil _))))) (Ax Ae8 rfl rfl rfl rfl (Nbl rfl) (Bt [.box [.b false, .b true, .b false]] rfl (Ar (Bj (Bd (As ?_))))))))
     obtain rfl := SJ h
     refine ⟨Or.inr rfl, _, _, _, (Ad (Bc.agg _ _ _ _ _ Ahl rfl (.lp _ _ _ rfl) (Nbl rfl)) Af), (Aj rfl), ?_⟩
     rfl
    ·refine Bl (A5 (Ai (Aq (Ab (sv rfl (G2 Zs Ab6 A9 (.nil _)) (Ax Ae8 rfl rfl rfl rfl (Nbl rfl) (Bt [.box [.b false, .b false, .b false]] rfl (Ar (Bj ?_)))))))))
     obtain rfl := SJ h
     refine ⟨Or.inr rfl, _, _, _, (Ad (Bc.agg _ _ _ _ _ Ahl rfl (.lp _ _ _ rfl) (Nbl rfl)) Af), (Aj rfl), ?_⟩
     rfl
  ·skip
   refine ccI h rfl (fun h => ?_) (fun h => ?_)
   ·refine Bl (Ai ?_)
    exact ⟨(decide (a0 = 2)), _, h, ⟨rfl, rfl, rfl, trivial⟩, rfl⟩
   ·refine Ab (sv rfl (Bo rfl rfl) (sv rfl (Ak rfl) (Ar ?_)))
    exact ⟨(decide (a0 = 3)), _, h, ⟨rfl, rfl, rfl, trivial⟩, rfl⟩
def Ic (a0 : B7) : Option Bool :=
 if (decide (0 < (a0.Lo.length : Int))) then (some true) else (if (decide (0 < (a0.Hi.length : Int))) then (some true) else (some a0.Open))
theorem Rs {a0 : B7} {r : Bool} (h : Ic a0 = some r) : Bp Tryz.prog 122 [.agg (EL.el a0)] (· = .s (.one (.b r))) := by
 unfold Ic at h
 refine A2 Tryz.func122 rfl (nt := 17) rfl (Nbl rfl) ?_
 intro w0 S0
 refine Aq (Ab (Je rfl rfl (sv rfl (Ak rfl) (Ar (Aq (Ab (sv rfl (Aa Ti rfl) (sv rfl (Ae L2 rfl (.lp _ _ _ rfl) rfl) (sv rfl (Az Lc rfl) (sv rfl (Dg rfl rfl) (sv rfl (Ah rfl) (Bq 7 rfl (fun hc => ?_) (fun hc => ?_)))))))))))))
 ·replace h := B1 hc h
  clear hc
  refine Aw rfl rfl rfl rfl (Aw rfl rfl rfl rfl (Aw rfl rfl rfl rfl (Aw rfl rfl rfl rfl (sv rfl (Au rfl rfl) (sv rfl (Ah rfl) (Aw rfl rfl rfl rfl (Aw rfl rfl rfl rfl (sv rfl (Au rfl rfl) (sv rfl (Ak rfl) (Ar (Bj ?_)))))))))))
  obtain rfl := SJ h
  refine ⟨Or.inr rfl, _, _, _, (Ad (Bc.tmp _ _ rfl) Af), (Aj rfl), ?_⟩
  rfl
 ·replace h := B0 hc h
  clear hc
  refine son rfl rfl rfl (sv rfl (Aa Qv rfl) (son rfl rfl rfl (sv rfl (Ae L2 rfl (.lp _ _ _ rfl) rfl) (son rfl rfl rfl (sv rfl (Az Lc rfl) (son rfl rfl rfl (sv rfl (Dg rfl rfl) (sv rfl (Am rfl rfl) (sv rfl (Ah rfl) (Bq 13 rfl (fun hc => ?_) (fun hc => ?_)))))))))))
  ·replace h := B1 hc h
   clear hc
   refine Aw rfl rfl rfl rfl (Aw rfl rfl rfl rfl (sv rfl (Au rfl rfl) (sv rfl (Ak rfl) (Ar (Bj ?_)))))
   obtain rfl := SJ h
   refine ⟨Or.inr rfl, _, _, _, (Ad (Bc.tmp _ _ rfl) Af), (Aj rfl), ?_⟩
   rfl
  ·replace h := B0 hc h
   clear hc
   refine son rfl rfl rfl (sv rfl (Aa X2 rfl) (son rfl rfl rfl (sv rfl (Ae ti4 rfl (.lp _ _ _ rfl) rfl) (sv rfl (Am rfl rfl) (sv rfl (Ak rfl) (Ar (Bj ?_)))))))
   obtain rfl := SJ h
   refine ⟨Or.inr rfl, _, _, _, (Ad (Bc.tmp _ _ rfl) Af), (Aj rfl), ?_⟩
   rfl
def J5 (a0 : List UInt8) : Option Bool :=
 if (decide (1 ≤ (a0.length : Int))) then (some (decide ((a0.length : Int) ≤ 16))) else (some false)
theorem U2 {a0 : List UInt8} {r : Bool} (h : J5 a0 = some r) : Bp Tryz.prog 123 [.one (.sl a0.length (a0.flatMap eU8))] (· = .s (.one (.b r))) := by
 unfold J5 at h
 refine A2 Tryz.func123 rfl (nt := 11) rfl (Nbl rfl) ?_
 intro w0 S0
 refine Aq (Ab (sv rfl (Ak rfl) (Ar (Aq (Ab (sv rfl (Ah rfl) (sv rfl (Az Lc rfl) (sv rfl (L9 rfl rfl) (sv rfl (Ah rfl) (Bq 6 rfl (fun hc => ?_) (fun hc => ?_)))))))))))
 ·replace h := B1 hc h
  clear hc
  refine son rfl rfl rfl (sv rfl (Ah rfl) (son rfl rfl rfl (sv rfl (Az Lc rfl) (son rfl rfl rfl (sv rfl (F1 rfl rfl) (sv rfl (Au rfl rfl) (sv rfl (Ak rfl) (Ar (Bj ?_)))))))))
  obtain rfl := SJ h
  refine ⟨Or.inr rfl, _, _, _, (Ad (Bc.tmp _ _ rfl) Af), (Aj rfl), ?_⟩
  rfl
 ·replace h := B0 hc h
  clear hc
  refine Aw rfl rfl rfl rfl (Aw rfl rfl rfl rfl (Aw rfl rfl rfl rfl (sv rfl (Am rfl rfl) (sv rfl (Ak rfl) (Ar (Bj ?_))))))
  obtain rfl := SJ h
  refine ⟨Or.inr rfl, _, _, _, (Ad (Bc.tmp _ _ rfl) Af), (Aj rfl), ?_⟩
  rfl
def Gf (a0 : B7) : Option Bool :=
 if (decide ((a0.Lo.length : Int) ≤ 17)) then (if (decide ((a0.Hi.length : Int) ≤ 17)) then (if a0.Open then (some (!(decide (0 < (a0.Hi.length : Int))))) else (some true)) else (some false)) else (some false)
theorem Qo {a0 : B7} {r : Bool} (h : Gf a0 = some r) : Bp Tryz.prog 133 [.agg (EL.el a0)] (· = .s (.one (.b r))) := by
 unfold Gf at h
 refine A2 Tryz.func133 rfl (nt := 24) rfl (Nbl rfl) ?_
 intro w0 S0
 refine Aq (Ab (Je rfl rfl (sv rfl (Ak rfl) (Ar (Aq (Ab (sv rfl (Aa Ti rfl) (sv rfl (Ae L2 rfl (.lp _ _ _ rfl) rfl) (sv rfl (Az Lc rfl) (sv rfl (F1 rfl rfl) (sv rfl (Ah rfl) (Bq 7 rfl (fun hc => ?_) (fun hc => ?_)))))))))))))
 ·replace h := B1 hc h
  clear hc
  refine son rfl rfl rfl (sv rfl (Aa Qv rfl) (son rfl rfl rfl (sv rfl (Ae L2 rfl (.lp _ _ _ rfl) rfl) (son rfl rfl rfl (sv rfl (Az Lc rfl) (son rfl rfl rfl (sv rfl (F1 rfl rfl) (sv rfl (Au rfl rfl) (sv rfl (Ah rfl) (Bq 13 rfl (fun hc => ?_) (fun hc => ?_)))))))))))
  ·replace h := B1 hc h
   clear hc
   refine son rfl rfl rfl (sv rfl (Aa X2 rfl) (son rfl rfl rfl (sv rfl (Ae ti4 rfl (.lp _ _ _ rfl) rfl) (son rfl rfl rfl (sv rfl (Ah rfl) (Bq 16 rfl (fun hc => ?_) (fun hc => ?_)))))))
   ·replace h := B1 hc h
    clear hc
    refine son rfl rfl rfl (sv rfl (Aa Qv rfl) (son rfl rfl rfl (sv rfl (Ae L2 rfl (.lp _ _ _ rfl) rfl) (son rfl rfl rfl (sv rfl (Az Lc rfl) (son rfl rfl rfl (sv rfl (Dg rfl rfl) (son rfl rfl rfl (sv rfl (Au rfl rfl) (son rfl rfl rfl (sv rfl (B8 rfl) (sv rfl (Au rfl rfl) (sv rfl (Ak rfl) (Ar (Bj ?_)))))))))))))))
    obtain rfl := SJ h
    refine ⟨Or.inr rfl, _, _, _, (Ad (Bc.tmp _ _ rfl) Af), (Aj rfl), ?_⟩
    rfl
   ·replace h := B0 hc h
    clear hc
    refine Aw rfl rfl rfl rfl (Aw rfl rfl rfl rfl (Aw rfl rfl rfl rfl (Aw rfl rfl rfl rfl (son rfl rfl rfl (sv rfl (Am rfl rfl) (son rfl rfl rfl (sv rfl (B8 rfl) (sv rfl (Au rfl rfl) (sv rfl (Ak rfl) (Ar (Bj ?_)))))))))))
    obtain rfl := SJ h
    refine ⟨Or.inr rfl, _, _, _, (Ad (Bc.tmp _ _ rfl) Af), (Aj rfl), ?_⟩
    rfl
  ·replace h := B0 hc h
   clear hc
   refine Aw rfl rfl rfl rfl (Aw rfl rfl rfl rfl (Aw rfl rfl rfl rfl (Ju rfl rfl rfl (Ju rfl rfl rfl (Ju rfl rfl rfl (Ju rfl rfl rfl (Aw rfl rfl rfl rfl (Aw rfl rfl rfl rfl (sv rfl (Am rfl rfl) (sv rfl (Ak rfl) (Ar (Bj ?_))))))))))))
   obtain rfl := SJ h
   refine ⟨Or.inr rfl, _, _, _, (Ad (Bc.tmp _ _ rfl) Af), (Aj rfl), ?_⟩
   rfl
 ·replace h := B0 hc h
  clear hc
  refine Aw rfl rfl rfl rfl (Aw rfl rfl rfl rfl (Aw rfl rfl rfl rfl (Aw rfl rfl rfl rfl (sv rfl (Am rfl rfl) (sv rfl (Ah rfl) (Aw rfl rfl rfl rfl (Aw rfl rfl rfl rfl (Aw rfl rfl rfl rfl (Ju rfl rfl rfl (Ju rfl rfl rfl (Ju rfl rfl rfl (Ju rfl rfl rfl (Aw rfl rfl rfl rfl (Aw rfl rfl rfl rfl (sv rfl (Am rfl rfl) (sv rfl (Ak rfl) (Ar (Bj ?_))))))))))))))))))
  obtain rfl := SJ h
  refine ⟨Or.inr rfl, _, _, _, (Ad (Bc.tmp _ _ rfl) Af), (Aj rfl), ?_⟩
  rfl
def Mr (a0 : List UInt8) (a1 : List UInt8) : Option Int :=
 some (Aeo a0 a1)
theorem Ro {a0 : List UInt8} {a1 : List UInt8} {r : Int} (h : Mr a0 a1 = some r) : Bp Tryz.prog 141 [.one (.sl a0.length (a0.flatMap eU8)), .one (.sl a1.length (a1.flatMap eU8))] (· = .s (.one (Ii6 r))) := by
 unfold Mr at h
 refine A2 Tryz.func141 rfl (nt := 8) rfl (Nbl rfl) ?_
 intro w0 S0
 refine Aq (Ab (sv rfl (Ak rfl) (Ar (Aq (Ab (sv rfl (Ah rfl) (sv rfl (Ah rfl) (sv rfl (Ajv (a := a0) (b := a1) Asu rfl rfl rfl rfl rfl rfl) (sv rfl (Ak rfl) (Ar (Bj ?_)))))))))))
 obtain rfl := SJ h
 refine ⟨Or.inr rfl, _, _, _, (Ad (Bc.tmp _ _ rfl) Af), (Aj rfl), ?_⟩
 rfl
def Po (a0 : List UInt8) (a1 : List UInt8) : Option Int :=
 (Mr a0 a1).bind fun v1 => some v1
theorem Wd {a0 : List UInt8} {a1 : List UInt8} {r : Int} (h : Po a0 a1 = some r) : Bp Tryz.prog 139 [.one (.sl a0.length (a0.flatMap eU8)), .one (.sl a1.length (a1.flatMap eU8))] (· = .s (.one (Ii6 r))) := by
 unfold Po at h
 refine A2 Tryz.func139 rfl (nt := 8) rfl (Nbl rfl) ?_
 intro w0 S0
 refine Aq (Ab (sv rfl (Ak rfl) (Ar (Aq (Ab (sv rfl (Ah rfl) (sv rfl (Ah rfl) ?_)))))))
 obtain ⟨v1, hv1, h⟩ := An h
 refine A1 rfl Arv (Ac rfl (Ac rfl Al)) (Aj rfl) (Ro hv1) (sv rfl (Ak rfl) (Ar (Bj ?_)))
 obtain rfl := SJ h
 refine ⟨Or.inr rfl, _, _, _, (Ad (Bc.tmp _ _ rfl) Af), (Aj rfl), ?_⟩
 rfl
def Fo (a0 : B7) (b1 : Bool) : Option Bool :=
 if b1 then (some true) else ((Po a0.Hi a0.Lo).bind fun v2 => some (decide (v2 ≤ 0)))
def Km (a0 : B7) : Option Bool :=
 if a0.Open then (some false) else (if (decide ((a0.Lo.length : Int) = 0)) then (if (decide ((a0.Hi.length : Int) = 1)) then ((idx a0.Hi 0).bind fun u3 => Fo a0 (decide ((u3.toBitVec.toNat : Int) = (0 : Int)))) else (Fo a0 false)) else (Fo a0 false))
theorem T4 {a0 : B7} {r : Bool} (h : Km a0 = some r) : Bp Tryz.prog 134 [.agg (EL.el a0)] (· = .s (.one (.b r))) := by
 unfold Km at h
 refine A2 Tryz.func134 rfl (nt := 32) rfl (Nbl rfl) ?_
 intro w0 S0
 refine Aq (Ab (Je rfl rfl (sv rfl (Ak rfl) (Ar (Aq (Aq (Ab (sv rfl (Aa X2 rfl) (sv rfl (Ae ti4 rfl (.lp _ _ _ rfl) rfl) (Ar (ccI h rfl (fun h => ?_) (fun h => ?_))))))))))))
 ·refine Aq (Ab (sv rfl (Ak rfl) (Ar (Bj (As ?_)))))
  obtain rfl := SJ h
  refine ⟨Or.inr rfl, _, _, _, (Ad (Bc.tmp _ _ rfl) Af), (Aj rfl), ?_⟩
  rfl
 ·refine Bl (Ai (Aq (G5 (Bool) (fun b1 => [(1, .s (.one (.lp 0 0))), (3, .s (.one (.b b1)))]) (fun b1 => [.box (EL.el a0)]) (fun b1 => Fo a0 b1 = some r) (fun _ _ => Bg rfl) (fun _ _ => A0 rfl) (fun _ _ => Nbl rfl) (fun b1 h => ?_) ?_)))
  ·unfold Fo at h
   refine Aq (Ab (sv rfl (Ah rfl) (sv rfl (Ah rfl) (Bq 24 rfl (fun hc => ?_) (fun hc => ?_)))))
   ·replace h := B1 hc h
    clear hc
    refine Aw rfl rfl rfl rfl (Aw rfl rfl rfl rfl (Aw rfl rfl rfl rfl (Aw rfl rfl rfl rfl (Aw rfl rfl rfl rfl (Aw rfl rfl rfl rfl (sv rfl (Au rfl rfl) (sv rfl (Ak rfl) (Ar (Bj ?_)))))))))
    obtain rfl := SJ h
    refine ⟨Or.inr rfl, _, _, _, (Ad (Bc.tmp _ _ rfl) Af), (Aj rfl), ?_⟩
    rfl
   ·replace h := B0 hc h
    clear hc
    refine son rfl rfl rfl (sv rfl (Aa Qv rfl) (son rfl rfl rfl (sv rfl (Ae L2 rfl (.lp _ _ _ rfl) rfl) (son rfl rfl rfl (sv rfl (Aa Ti rfl) (son rfl rfl rfl (sv rfl (Ae L2 rfl (.lp _ _ _ rfl) rfl) (son rfl rfl rfl ?_))))))))
    obtain ⟨v2, hv2, h⟩ := An h
    refine A1 rfl Ar0 (Ac rfl (Ac rfl Al)) (Aj rfl) (Wd hv2) (son rfl rfl rfl (sv rfl (F1 rfl rfl) (sv rfl (Am rfl rfl) (sv rfl (Ak rfl) (Ar (Bj ?_))))))
    obtain rfl := SJ h
    refine ⟨Or.inr rfl, _, _, _, (Ad (Bc.tmp _ _ rfl) Af), (Aj rfl), ?_⟩
    rfl
  ·skip
   refine Ab (sv rfl (Aa Ti rfl) (sv rfl (Ae L2 rfl (.lp _ _ _ rfl) rfl) (sv rfl (Az Lc rfl) (sv rfl (Bo rfl rfl) (sv rfl (Ah rfl) (Bq 10 rfl (fun hc => ?_) (fun hc => ?_)))))))
   ·replace h := B1 hc h
    clear hc
    refine son rfl rfl rfl (sv rfl (Aa Qv rfl) (son rfl rfl rfl (sv rfl (Ae L2 rfl (.lp _ _ _ rfl) rfl) (son rfl rfl rfl (sv rfl (Az Lc rfl) (son rfl rfl rfl (sv rfl (Bo rfl rfl) (sv rfl (Au rfl rfl) (sv rfl (Ah rfl) (Bq 16 rfl (fun hc => ?_) (fun hc => ?_)))))))))))
    ·replace h := B1 hc h
     clear hc
     refine son rfl rfl rfl (sv rfl (Aa Qv rfl) (son rfl rfl rfl (sv rfl (Ae L2 rfl (.lp _ _ _ rfl) rfl) (son rfl rfl rfl ?_))))
     obtain ⟨u3, hu3, h⟩ := An h
     refine sv rfl (Fm (f := eU8) Lc (fun _ => rfl) rfl rfl rfl rfl hu3) ?_
     refine son rfl rfl rfl (sv rfl (Ae ti5 rfl (.cp _) rfl) (son rfl rfl rfl (sv rfl (Bo rfl rfl) (sv rfl (Au rfl rfl) (sv rfl (Ak rfl) (Ar ?_))))))
     exact ⟨(decide ((u3.toBitVec.toNat : Int) = (0 : Int))), _, h, ⟨rfl, rfl, trivial⟩, rfl⟩
    ·replace h := B0 hc h
     clear hc
     refine Aw rfl rfl rfl rfl (Aw rfl rfl rfl rfl (Aw rfl rfl rfl rfl (Aw rfl rfl rfl rfl (Aw rfl rfl rfl rfl (sv rfl (Am rfl rfl) (sv rfl (Ak rfl) (Ar ?_)))))))
     exact ⟨false, _, h, ⟨rfl, rfl, trivial⟩, rfl⟩
   ·replace h := B0 hc h
    clear hc
    refine Aw rfl rfl rfl rfl (Aw rfl rfl rfl rfl (Aw rfl rfl rfl rfl (Aw rfl rfl rfl rfl (sv rfl (Am rfl rfl) (sv rfl (Ah rfl) (Aw rfl rfl rfl rfl (Aw rfl rfl rfl rfl (Aw rfl rfl rfl rfl (Aw rfl rfl rfl rfl (Aw rfl rfl rfl rfl (sv rfl (Am rfl rfl) (sv rfl (Ak rfl) (Ar ?_)))))))))))))
    exact ⟨false, _, h, ⟨rfl, rfl, trivial⟩, rfl⟩
def D8 (a0 : B7) : Option Bool :=
 (Gf a0).bind fun v1 => if v1 then (if (decide ((a0.Lo.length : Int) ≤ 16)) then (if (decide ((a0.Hi.length : Int) ≤ 16)) then ((Km a0).bind fun v2 => some (!v2)) else (some false)) else (some false)) else (some false)
theorem Qs {a0 : B7} {r : Bool} (h : D8 a0 = some r) : Bp Tryz.prog 124 [.agg (EL.el a0)] (· = .s (.one (.b r))) := by
 unfold D8 at h
 refine A2 Tryz.func124 rfl (nt := 22) rfl (Nbl rfl) ?_
 intro w0 S0
 refine Aq (Ab (Je rfl rfl (sv rfl (Ak rfl) (Ar (Aq (Ab (sv rfl (Ao Ajl rfl (.lp _ _ _ rfl) (Nbl rfl)) ?_)))))))
 obtain ⟨v1, hv1, h⟩ := An h
 refine A1 rfl As3 (Ac rfl Al) (Aj rfl) (Qo hv1) (sv rfl (Ah rfl) (Bq 5 rfl (fun hc => ?_) (fun hc => ?_)))
 ·replace h := B1 hc h
  clear hc
  refine son rfl rfl rfl (sv rfl (Aa Ti rfl) (son rfl rfl rfl (sv rfl (Ae L2 rfl (.lp _ _ _ rfl) rfl) (son rfl rfl rfl (sv rfl (Az Lc rfl) (son rfl rfl rfl (sv rfl (F1 rfl rfl) (sv rfl (Au rfl rfl) (sv rfl (Ah rfl) (Bq 11 rfl (fun hc => ?_) (fun hc => ?_)))))))))))
  ·replace h := B1 hc h
   clear hc
   refine son rfl rfl rfl (sv rfl (Aa Qv rfl) (son rfl rfl rfl (sv rfl (Ae L2 rfl (.lp _ _ _ rfl) rfl) (son rfl rfl rfl (sv rfl (Az Lc rfl) (son rfl rfl rfl (sv rfl (F1 rfl rfl) (sv rfl (Au rfl rfl) (sv rfl (Ah rfl) (Bq 17 rfl (fun hc => ?_) (fun hc => ?_)))))))))))
   ·replace h := B1 hc h
    clear hc
    refine son rfl rfl rfl (sv rfl (Ao Ajl rfl (.lp _ _ _ rfl) (Nbl rfl)) (son rfl rfl rfl ?_))
    obtain ⟨v2, hv2, h⟩ := An h
    refine A1 rfl Arn (Ac rfl Al) (Aj rfl) (T4 hv2) (son rfl rfl rfl (sv rfl (B8 rfl) (sv rfl (Au rfl rfl) (sv rfl (Ak rfl) (Ar (Bj ?_))))))
    obtain rfl := SJ h
    refine ⟨Or.inr rfl, _, _, _, (Ad (Bc.tmp _ _ rfl) Af), (Aj rfl), ?_⟩
    rfl
   ·replace h := B0 hc h
    clear hc
    refine Aw rfl rfl rfl rfl (Aw rfl rfl rfl rfl (Aw rfl rfl rfl rfl (sv rfl (Am rfl rfl) (sv rfl (Ak rfl) (Ar (Bj ?_))))))
    obtain rfl := SJ h
    refine ⟨Or.inr rfl, _, _, _, (Ad (Bc.tmp _ _ rfl) Af), (Aj rfl), ?_⟩
    rfl
  ·replace h := B0 hc h
   clear hc
   refine Aw rfl rfl rfl rfl (Aw rfl rfl rfl rfl (Aw rfl rfl rfl rfl (Aw rfl rfl rfl rfl (sv rfl (Am rfl rfl) (sv rfl (Ah rfl) (Aw rfl rfl rfl rfl (Aw rfl rfl rfl rfl (Aw rfl rfl rfl rfl (sv rfl (Am rfl rfl) (sv rfl (Ak rfl) (Ar (Bj ?_))))))))))))
   obtain rfl := SJ h
   refine ⟨Or.inr rfl, _, _, _, (Ad (Bc.tmp _ _ rfl) Af), (Aj rfl), ?_⟩
   rfl
 ·replace h := B0 hc h
  clear hc
  refine Aw rfl rfl rfl rfl (Aw rfl rfl rfl rfl (Aw rfl rfl rfl rfl (Aw rfl rfl rfl rfl (sv rfl (Am rfl rfl) (sv rfl (Ah rfl) (Aw rfl rfl rfl rfl (Aw rfl rfl rfl rfl (Aw rfl rfl rfl rfl (Aw rfl rfl rfl rfl (sv rfl (Am rfl rfl) (sv rfl (Ah rfl) (Aw rfl rfl rfl rfl (Aw rfl rfl rfl rfl (Aw rfl rfl rfl rfl (sv rfl (Am rfl rfl) (sv rfl (Ak rfl) (Ar (Bj ?_))))))))))))))))))
  obtain rfl := SJ h
  refine ⟨Or.inr rfl, _, _, _, (Ad (Bc.tmp _ _ rfl) Af), (Aj rfl), ?_⟩
  rfl
def Cy (a0 : B5) (b4 : Bool) : Option Bool :=
 if b4 then ((J5 a0.Key).bind fun v5 => some v5) else (if (decide (a0.What = 4)) then ((D8 a0.Rng).bind fun v6 => some v6) else (if (decide (a0.What = 7)) then (some (decide (a0.N ≤ 24))) else (some true)))
def Cz (a0 : B5) (b3 : Unit) : Option Bool :=
 if (decide (a0.What = 1)) then (Cy a0 (decide (a0.What = 1))) else (if (decide (a0.What = 2)) then (Cy a0 (decide (a0.What = 2))) else (Cy a0 (decide (a0.What = 3))))
def E8 (a0 : B5) (a1 : Bool) (b1 : Unit) : Option Bool :=
 (Gg a0.What).bind fun v2 => (Ic a0.Rng).bind fun v7 => if (!(((decide (0 < (a0.Key.length : Int))) == v2.R0) && ((v7 == v2.R1) && ((v2.R2 == v2.R2) && true)))) then (some false) else (if a1 then (if v2.R2 then (some false) else (Cz a0 ())) else (Cz a0 ()))
def Ci (a0 : B5) (a1 : Bool) : Option Bool :=
 (E6 (wI (a0.What - 1)) 7).bind fun v8 => if (!v8) then (some false) else ((E6 a0.A 7).bind fun v9 => if (!v9) then (some false) else ((E6 a0.B 7).bind fun v10 => if (!v10) then (some false) else ((E6 a0.N 4294967295).bind fun v11 => if (!v11) then (some false) else (E8 a0 a1 ()))))
theorem To {a0 : B5} {a1 : Bool} {r : Bool} (h : Ci a0 a1 = some r) : Bp Tryz.prog 107 [.agg (EL.el a0), .one (.b a1)] (· = .s (.one (.b r))) := by
 unfold Ci at h
 refine A2 Tryz.func107 rfl (nt := 71) rfl (Nbl rfl) ?_
 intro w0 S0
 refine Aq (Ab (Je rfl rfl (sv rfl (Ak rfl) (Ar (Aq (Aq (Ki (Unit) (fun b1 => [(1, .s (.one (.b a1))), (2, .s (.one (.lp 0 0)))]) (fun b1 => [.box (EL.el a0)]) (fun b1 => E8 a0 a1 b1 = some r) (fun _ _ => Bg rfl) (fun _ _ => A0 rfl) (fun _ _ => Nbl rfl) (fun b1 h => ?_) ?_)))))))
 ·unfold E8 at h
  refine Aq (Ab (sv rfl (Aa V3 rfl) (sv rfl (Ae ti3 rfl (.lp _ _ _ rfl) rfl) ?_)))
  obtain ⟨v2, hv2, h⟩ := An h
  refine A1 rfl Ao9 (Ac rfl Al) (Aj rfl) (N1 hv2) (Bz rfl Zs (Ax Ae8 rfl rfl rfl rfl (Nbl rfl) (Bt [.box (EL.el a0), .box (EL.el v2)] rfl (Ar (Aq (Ab ?_))))))
  refine sv rfl (Ot (o := 2) Ab6 rfl rfl (by decide)) ?_
  refine sv rfl (Ae ti4 rfl (.lp _ _ _ rfl) rfl) (sv rfl (Ak rfl) (Ar (Aq (Aq (Ki (Unit) (fun b3 => [(2, .s (.one (.lp 0 0)))]) (fun b3 => [.box (EL.el a0), .box (EL.el v2)]) (fun b3 => Cz a0 b3 = some r) (fun _ _ => Bg rfl) (fun _ _ => A0 rfl) (fun _ _ => Nbl rfl) (fun b3 h => ?_) ?_)))))
  ·unfold Cz at h
   refine Aq (Aq (Ab (sv rfl (Aa V3 rfl) (sv rfl (Ae ti3 rfl (.lp _ _ _ rfl) rfl) (Ar (Ca (Aq (Aq (Ab (sv rfl (Bo rfl rfl) (sv rfl (Ak rfl) (Ar (G5 (Bool) (fun b4 => [(2, .s (.one (.lp 0 0))), (53, .s (.one (Ii6 a0.What))), (54, .s (.one (.b b4)))]) (fun b4 => [.box (EL.el a0), .box (EL.el v2)]) (fun b4 => Cy a0 b4 = some r) (fun _ _ => Bg rfl) (fun _ _ => A0 rfl) (fun _ _ => Nbl rfl) (fun b4 h => ?_) ?_)))))))))))))
   ·unfold Cy at h
    refine ccI h rfl (fun h => ?_) (fun h => ?_)
    ·refine Aq (Ab (sv rfl (Aa Zl rfl) (sv rfl (Ae L2 rfl (.lp _ _ _ rfl) rfl) ?_)))
     obtain ⟨v5, hv5, h⟩ := An h
     refine A1 rfl Arz (Ac rfl Al) (Aj rfl) (U2 hv5) (sv rfl (Ak rfl) (Ar (Bj (Bd (As ?_)))))
     obtain rfl := SJ h
     refine ⟨Or.inr rfl, _, _, _, (Ad (Bc.tmp _ _ rfl) Af), (Aj rfl), ?_⟩
     rfl
    ·refine Aq (Ab (sv rfl (Bo rfl rfl) (sv rfl (Ak rfl) (Ar (ccI h rfl (fun h => ?_) (fun h => ?_))))))
     ·refine Aq (Ab (sv rfl (Aa Aht rfl) (sv rfl (Ao Ajl rfl (.lp _ _ _ rfl) (Nbl rfl)) ?_)))
      obtain ⟨v6, hv6, h⟩ := An h
      refine A1 rfl Asj (Ac rfl Al) (Aj rfl) (Qs hv6) (sv rfl (Ak rfl) (Ar (Bj (Bd (As ?_)))))
      obtain rfl := SJ h
      refine ⟨Or.inr rfl, _, _, _, (Ad (Bc.tmp _ _ rfl) Af), (Aj rfl), ?_⟩
      rfl
     ·refine Aq (Ab (sv rfl (Bo rfl rfl) (sv rfl (Ak rfl) (Ar (ccI h rfl (fun h => ?_) (fun h => ?_))))))
      ·refine Aq (Ab (sv rfl (Aa Y5 rfl) (sv rfl (Ae ti3 rfl (.lp _ _ _ rfl) rfl) (sv rfl (F1 rfl rfl) (sv rfl (Ak rfl) (Ar (Bj (Bd (As ?_)))))))))
       obtain rfl := SJ h
       refine ⟨Or.inr rfl, _, _, _, (Ad (Bc.tmp _ _ rfl) Af), (Aj rfl), ?_⟩
       rfl
      ·refine Bl (A5 (Ai (Aq (Ab (sv rfl (Ak rfl) (Ar (Bj ?_)))))))
       obtain rfl := SJ h
       refine ⟨Or.inr rfl, _, _, _, (Ad (Bc.tmp _ _ rfl) Af), (Aj rfl), ?_⟩
       rfl
   ·skip
    refine ccI h rfl (fun h => ?_) (fun h => ?_)
    ·refine Bl (Ai ?_)
     exact ⟨(decide (a0.What = 1)), _, h, ⟨rfl, rfl, rfl, trivial⟩, rfl⟩
    ·refine Aq (Ab (sv rfl (Bo rfl rfl) (sv rfl (Ak rfl) (Ar (ccI h rfl (fun h => ?_) (fun h => ?_))))))
     ·refine Bl (Ai ?_)
      exact ⟨(decide (a0.What = 2)), _, h, ⟨rfl, rfl, rfl, trivial⟩, rfl⟩
     ·refine Ab (sv rfl (Bo rfl rfl) (sv rfl (Ak rfl) (Ar ?_)))
      exact ⟨(decide (a0.What = 3)), _, h, ⟨rfl, rfl, rfl, trivial⟩, rfl⟩
  ·skip
   refine Afn Lz (by kernel_rfl) ?_
   refine dv rfl (Aa Zl rfl) (dv rfl (Ae L2 rfl (.lp _ _ _ rfl) rfl) (dv rfl (Az Lc rfl) (dv rfl (Dg rfl rfl) (dv rfl (Aa Aht rfl) (dv rfl (Ao Ajl rfl (.lp _ _ _ rfl) (Nbl rfl)) ?_)))))
   obtain ⟨v7, hv7, h⟩ := An h
   refine dd rfl (Dy Ari (Ac rfl Al) rfl (Rs hv7)) (dv rfl (Ah rfl) (dv rfl (G2 Zs Ab6 (Ap rfl (Ap rfl (Ap rfl A9))) (.cons _ _ _ _ _ _ _ rfl rfl (Nbl rfl) (.cons _ _ _ _ _ _ _ rfl rfl (Nbl rfl) (.cons _ _ _ _ _ _ _ rfl rfl (Nbl rfl) (.nil _))))) (dv rfl (Ao Ahl rfl (.lp _ _ _ rfl) (Nbl rfl)) (dv rfl (Ac8 App rfl rfl rfl rfl rfl) (dv rfl (Ah rfl) (Akf 46 rfl (fun hc => ?_) (fun hc => ?_)))))))
   ·replace h := B1 hc h
    clear hc
    refine Aqu rfl rfl rfl rfl (Aqu rfl rfl rfl rfl (Ast rfl rfl rfl (Aqu rfl rfl rfl rfl (dv rfl (Au rfl rfl) (Agx (Ai (Hy rfl (fun _ => ?_) (fun hx => Bool.noConfusion hx))))))))
    refine Aq (Ab (sv rfl (Ak rfl) (Ar (Bj (As ?_)))))
    obtain rfl := SJ h
    refine ⟨Or.inr rfl, _, _, _, (Ad (Bc.tmp _ _ rfl) Af), (Aj rfl), ?_⟩
    rfl
   ·replace h := B0 hc h
    clear hc
    refine dvg rfl rfl rfl (Ah rfl) (dvg rfl rfl rfl (Ah rfl) (Akf 48 rfl (fun hc => ?_) (fun hc => ?_)))
    ·replace h := B1 hc h
     clear hc
     refine dvg rfl rfl rfl (Ah rfl) (dvg rfl rfl rfl (Au rfl rfl) (dv rfl (Am rfl rfl) (Agx (Ai (ccI h rfl (fun h => ?_) (fun h => ?_))))))
     ·refine Aq (Ab (sv rfl (Ak rfl) (Ar (Bj (As ?_)))))
      obtain rfl := SJ h
      refine ⟨Or.inr rfl, _, _, _, (Ad (Bc.tmp _ _ rfl) Af), (Aj rfl), ?_⟩
      rfl
     ·refine Bl (Ai ?_)
      exact ⟨(), _, h, ⟨rfl, trivial⟩, rfl⟩
    ·replace h := B0 hc h
     clear hc
     refine Aqu rfl rfl rfl rfl (dvg rfl rfl rfl (Am rfl rfl) (dv rfl (Am rfl rfl) (Agx (Ai (Hy rfl (fun hx => Bool.noConfusion hx) (fun _ => ?_))))))
     refine Bl (Ai ?_)
     exact ⟨(), _, h, ⟨rfl, trivial⟩, rfl⟩
 ·skip
  refine Ab (sv rfl (Aa V3 rfl) (sv rfl (Ae ti3 rfl (.lp _ _ _ rfl) rfl) (sv rfl (My rfl rfl) ?_)))
  obtain ⟨v8, hv8, h⟩ := An h
  refine A1 rfl Afc (Ac rfl (Ac rfl Al)) (Aj rfl) (Il hv8) (sv rfl (B8 rfl) (sv rfl (Ah rfl) (Bq 12 rfl (fun hc => ?_) (fun hc => ?_))))
  ·replace h := B1 hc h
   clear hc
   refine Aw rfl rfl rfl rfl (Aw rfl rfl rfl rfl (Aw rfl rfl rfl rfl (Aw rfl rfl rfl rfl (sv rfl (Au rfl rfl) (sv rfl (Ah rfl) (Aw rfl rfl rfl rfl (Aw rfl rfl rfl rfl (Aw rfl rfl rfl rfl (Aw rfl rfl rfl rfl (sv rfl (Au rfl rfl) (sv rfl (Ah rfl) (Aw rfl rfl rfl rfl (Aw rfl rfl rfl rfl (Aw rfl rfl rfl rfl (Aw rfl rfl rfl rfl (sv rfl (Au rfl rfl) (Ar (Hy rfl (fun _ => ?_) (fun hx => Bool.noConfusion hx)))))))))))))))))))
   refine Aq (Ab (sv rfl (Ak rfl) (Ar (Bj (As ?_)))))
   obtain rfl := SJ h
   refine ⟨Or.inr rfl, _, _, _, (Ad (Bc.tmp _ _ rfl) Af), (Aj rfl), ?_⟩
   rfl
  ·replace h := B0 hc h
   clear hc
   refine son rfl rfl rfl (sv rfl (Aa Uz rfl) (son rfl rfl rfl (sv rfl (Ae ti3 rfl (.lp _ _ _ rfl) rfl) (son rfl rfl rfl ?_))))
   obtain ⟨v9, hv9, h⟩ := An h
   refine A1 rfl Afc (Ac rfl (Ac rfl Al)) (Aj rfl) (Il hv9) (son rfl rfl rfl (sv rfl (B8 rfl) (sv rfl (Am rfl rfl) (sv rfl (Ah rfl) (Bq 18 rfl (fun hc => ?_) (fun hc => ?_))))))
   ·replace h := B1 hc h
    clear hc
    refine Aw rfl rfl rfl rfl (Aw rfl rfl rfl rfl (Aw rfl rfl rfl rfl (Aw rfl rfl rfl rfl (sv rfl (Au rfl rfl) (sv rfl (Ah rfl) (Aw rfl rfl rfl rfl (Aw rfl rfl rfl rfl (Aw rfl rfl rfl rfl (Aw rfl rfl rfl rfl (sv rfl (Au rfl rfl) (Ar (Hy rfl (fun _ => ?_) (fun hx => Bool.noConfusion hx)))))))))))))
    refine Aq (Ab (sv rfl (Ak rfl) (Ar (Bj (As ?_)))))
    obtain rfl := SJ h
    refine ⟨Or.inr rfl, _, _, _, (Ad (Bc.tmp _ _ rfl) Af), (Aj rfl), ?_⟩
    rfl
   ·replace h := B0 hc h
    clear hc
    refine son rfl rfl rfl (sv rfl (Aa Xt rfl) (son rfl rfl rfl (sv rfl (Ae ti3 rfl (.lp _ _ _ rfl) rfl) (son rfl rfl rfl ?_))))
    obtain ⟨v10, hv10, h⟩ := An h
    refine A1 rfl Afc (Ac rfl (Ac rfl Al)) (Aj rfl) (Il hv10) (son rfl rfl rfl (sv rfl (B8 rfl) (sv rfl (Am rfl rfl) (sv rfl (Ah rfl) (Bq 24 rfl (fun hc => ?_) (fun hc => ?_))))))
    ·replace h := B1 hc h
     clear hc
     refine Aw rfl rfl rfl rfl (Aw rfl rfl rfl rfl (Aw rfl rfl rfl rfl (Aw rfl rfl rfl rfl (sv rfl (Au rfl rfl) (Ar (Hy rfl (fun _ => ?_) (fun hx => Bool.noConfusion hx)))))))
     refine Aq (Ab (sv rfl (Ak rfl) (Ar (Bj (As ?_)))))
     obtain rfl := SJ h
     refine ⟨Or.inr rfl, _, _, _, (Ad (Bc.tmp _ _ rfl) Af), (Aj rfl), ?_⟩
     rfl
    ·replace h := B0 hc h
     clear hc
     refine son rfl rfl rfl (sv rfl (Aa Y5 rfl) (son rfl rfl rfl (sv rfl (Ae ti3 rfl (.lp _ _ _ rfl) rfl) (son rfl rfl rfl ?_))))
     obtain ⟨v11, hv11, h⟩ := An h
     refine A1 rfl Afc (Ac rfl (Ac rfl Al)) (Aj rfl) (Il hv11) (son rfl rfl rfl (sv rfl (B8 rfl) (sv rfl (Am rfl rfl) (Ar (ccI h rfl (fun h => ?_) (fun h => ?_))))))
     ·refine Aq (Ab (sv rfl (Ak rfl) (Ar (Bj (As ?_)))))
      obtain rfl := SJ h
      refine ⟨Or.inr rfl, _, _, _, (Ad (Bc.tmp _ _ rfl) Af), (Aj rfl), ?_⟩
      rfl
     ·refine Bl (Ai ?_)
      exact ⟨(), _, h, ⟨rfl, rfl, trivial⟩, rfl⟩
def Nn (a0 : Co) (b1 : Unit) : Option Bool :=
 some (decide ((a0.Ops.length : Int) ≤ 24))
def E5 (a0 : Co) (s2 : Int) : Option (LR (Int) (Unit) (Bool)) :=
 if (decide (s2 < (a0.Ops.length : Int))) then ((idx a0.Ops s2).bind fun u3 => (Ci u3 a0.RO).bind fun v4 => if (!v4) then (some (.ret false)) else (some (.cont (wI (s2 + 1))))) else (some (.brk ()))
def D0 (a0 : Co) : Option Bool :=
 (Rv (E5 a0) fuel 0).bind fun x => match x with | .inl r => some r | .inr e5 => Nn a0 e5
theorem Od {a0 : Co} {r : Bool} (h : D0 a0 = some r) : Bp Tryz.prog 82 [.agg (EL.el a0)] (· = .s (.one (.b r))) := by
 unfold D0 at h
 refine A2 Tryz.func82 rfl (nt := 22) rfl (Nbl rfl) ?_
 intro w0 S0
 refine Aq (Ab (Je rfl rfl (sv rfl (Ak rfl) (Ar (Aq (Aq (Ab (sv rfl (Aa Rx rfl) (sv rfl (Ae Aja rfl (.lp _ _ _ rfl) rfl) (sv rfl (Az Ah7 rfl) (sv rfl (Ah rfl) (Ar (G5 (Unit) (fun b1 => [(1, .s (.one (.lp 0 0)))]) (fun b1 => [.box (EL.el a0)]) (fun b1 => Nn a0 b1 = some r) (fun _ _ => Bg rfl) (fun _ _ => A0 rfl) (fun _ _ => Nbl rfl) (fun b1 h => ?_) ?_)))))))))))))
 ·unfold Nn at h
  refine Aq (Ab (sv rfl (Aa Rx rfl) (sv rfl (Ae Aja rfl (.lp _ _ _ rfl) rfl) (sv rfl (Az Ah7 rfl) (sv rfl (F1 rfl rfl) (sv rfl (Ak rfl) (Ar (Bj ?_))))))))
  obtain rfl := SJ h
  refine ⟨Or.inr rfl, _, _, _, (Ad (Bc.tmp _ _ rfl) Af), (Aj rfl), ?_⟩
  rfl
 ·skip
  refine Ca ?_
  obtain ⟨x2, hx2, ho2⟩ := An h
  refine De (G := Nat × (Int)) (fun g => [(1, .s (.one (.lp 0 0))), (6, .s (.one (.sl a0.Ops.length (a0.Ops.flatMap Cf)))), (7, .s (.one (Ii6 (a0.Ops.length : Int)))), (8, .s (.one (Ii6 g.2)))]) (fun g => [.box (EL.el a0)]) (fun g => Rv (E5 a0) g.1 g.2 = some x2) (fun g => g.1) (fuel, 0) hx2 ⟨rfl, rfl, rfl, rfl, trivial⟩ [] rfl (fun _ _ => Bg rfl) (fun _ _ => A0 rfl) (fun _ _ => Nbl rfl) ?_
  clear hx2 h
  rintro ⟨n2, s2⟩ h
  obtain ⟨n2, y2, rfl, h, hk2⟩ := Oz h
  unfold E5 at h
  refine Aq (Ab (sv rfl (Cs rfl rfl) (Ar (Aq (ccI h rfl (fun h => ?_) (fun h => ?_))))))
  ·refine Bl (Ai (Aq (Ca (Aq (Ab ?_)))))
   obtain ⟨u3, hu3, h⟩ := An h
   refine sv rfl (Fm (f := Cf) Ah7 (fun _ => rfl) rfl rfl rfl rfl hu3) ?_
   refine sv rfl (Dj (ys := [Ii6 u3.What, Ii6 u3.A, Ii6 u3.B, Ii6 u3.N, .sl u3.Key.length (u3.Key.flatMap eU8), .sl u3.Rng.Lo.length (u3.Rng.Lo.flatMap eU8), .sl u3.Rng.Hi.length (u3.Rng.Hi.flatMap eU8), .b u3.Rng.Open]) Ak5 rfl (.cp _) rfl rfl) (Bz rfl Aps (Ax Aq7 rfl rfl rfl rfl (Nbl rfl) (Bt [.box (EL.el a0), .box (EL.el u3)] rfl (Ar (Aq (Ab (sv rfl (Ao Ak5 rfl (.lp _ _ _ rfl) (Nbl rfl)) (sv rfl (Aa Akn rfl) (sv rfl (Ae ti4 rfl (.lp _ _ _ rfl) rfl) ?_)))))))))
   obtain ⟨v4, hv4, h⟩ := An h
   refine A1 rfl Ask (Ac rfl (Ac rfl Al)) (Aj rfl) (To hv4) (sv rfl (B8 rfl) (Ar (ccI h rfl (fun h => ?_) (fun h => ?_))))
   ·refine Aq (Ab (sv rfl (Ak rfl) (Ar (Bj (Bd (As (As (Bd (As ?_)))))))))
    obtain rfl := SJ h
    obtain rfl : Sum.inl _ = x2 := hk2
    replace ho2 : some _ = some _ := ho2
    obtain rfl := Option.some.inj ho2
    refine ⟨Or.inr rfl, _, _, _, (Ad (Bc.tmp _ _ rfl) Af), (Aj rfl), ?_⟩
    rfl
   ·refine Bl (A5 (Ai (Ab (sv rfl (B9 rfl rfl) (sv rfl (Ah rfl) (Ar ?_))))))
    obtain rfl := SJ h
    exact ⟨(n2, (wI (s2 + 1))), _, hk2, ⟨rfl, rfl, rfl, rfl, trivial⟩, rfl, Nat.lt_succ_self _⟩
  ·refine Lw (Bi (Bi (Ck (Ai ?_))))
   obtain rfl := SJ h
   obtain rfl : _ = x2 := hk2
   exact ⟨(), _, ho2, ⟨rfl, trivial⟩, rfl⟩
def Dd (a0 : Av) : Option Bool :=
 (Bx a0.Token 0 1099511627776).bind fun v1 => if v1 then ((D0 a0.Prog).bind fun v2 => some v2) else (some false)
theorem Nh {a0 : Av} {r : Bool} (h : Dd a0 = some r) : Bp Tryz.prog 53 [.agg (EL.el a0)] (· = .s (.one (.b r))) := by
 unfold Dd at h
 refine A2 Tryz.func53 rfl (nt := 11) rfl (Nbl rfl) ?_
 intro w0 S0
 refine Aq (Ab (Je rfl rfl (sv rfl (Ak rfl) (Ar (Aq (Ab (sv rfl (Aa Sa rfl) (sv rfl (Ae ti3 rfl (.lp _ _ _ rfl) rfl) ?_))))))))
 obtain ⟨v1, hv1, h⟩ := An h
 refine A1 rfl Aen (Ac rfl (Ac rfl (Ac rfl Al))) (Aj rfl) (Cj hv1) (sv rfl (Ah rfl) (Bq 6 rfl (fun hc => ?_) (fun hc => ?_)))
 ·replace h := B1 hc h
  clear hc
  refine son rfl rfl rfl (sv rfl (Aa Acl rfl) (son rfl rfl rfl (sv rfl (Ao Alu rfl (.lp _ _ _ rfl) (Nbl rfl)) (son rfl rfl rfl ?_))))
  obtain ⟨v2, hv2, h⟩ := An h
  refine A1 rfl Asr (Ac rfl Al) (Aj rfl) (Od hv2) (sv rfl (Au rfl rfl) (sv rfl (Ak rfl) (Ar (Bj ?_))))
  obtain rfl := SJ h
  refine ⟨Or.inr rfl, _, _, _, (Ad (Bc.tmp _ _ rfl) Af), (Aj rfl), ?_⟩
  rfl
 ·replace h := B0 hc h
  clear hc
  refine Aw rfl rfl rfl rfl (Aw rfl rfl rfl rfl (Aw rfl rfl rfl rfl (sv rfl (Am rfl rfl) (sv rfl (Ak rfl) (Ar (Bj ?_))))))
  obtain rfl := SJ h
  refine ⟨Or.inr rfl, _, _, _, (Ad (Bc.tmp _ _ rfl) Af), (Aj rfl), ?_⟩
  rfl
def Lh (b1 : Unit) : Option Int :=
 some (-1)
def G9 (a0 : List Av) (a1 : Int) (s2 : Int) : Option (LR (Int) (Unit) (Int)) :=
 if (decide (s2 < (a0.length : Int))) then ((idx a0 s2).bind fun u3 => if (decide (u3.Token = a1)) then (some (.ret s2)) else (some (.cont (wI (s2 + 1))))) else (some (.brk ()))
def Ff (a0 : List Av) (a1 : Int) : Option Int :=
 (Rv (G9 a0 a1) fuel 0).bind fun x => match x with | .inl r => some r | .inr e4 => Lh e4
theorem Ob {a0 : List Av} {a1 : Int} {r : Int} (h : Ff a0 a1 = some r) : Bp Tryz.prog 54 [.one (.sl a0.length (a0.flatMap Ay)), .one (Ii6 a1)] (· = .s (.one (Ii6 r))) := by
 unfold Ff at h
 refine A2 Tryz.func54 rfl (nt := 20) rfl (Nbl rfl) ?_
 intro w0 S0
 refine Aq (Ab (sv rfl (Ak rfl) (Ar (Aq (Aq (Ab (sv rfl (Ah rfl) (sv rfl (Az Uf rfl) (sv rfl (Ah rfl) (Ar (G5 (Unit) (fun b1 => []) (fun b1 => []) (fun b1 => Lh b1 = some r) (fun _ _ => Bg rfl) (fun _ _ => A0 rfl) (fun _ _ => Nbl rfl) (fun b1 h => ?_) ?_)))))))))))
 ·unfold Lh at h
  refine Aq (Ab (sv rfl (Ak rfl) (Ar (Bj ?_))))
  obtain rfl := SJ h
  refine ⟨Or.inr rfl, _, _, _, (Ad (Bc.tmp _ _ rfl) Af), (Aj rfl), ?_⟩
  rfl
 ·skip
  refine Ca ?_
  obtain ⟨x2, hx2, ho2⟩ := An h
  refine De (G := Nat × (Int)) (fun g => [(1, .s (.one (Ii6 a1))), (7, .s (.one (.sl a0.length (a0.flatMap Ay)))), (8, .s (.one (Ii6 (a0.length : Int)))), (9, .s (.one (Ii6 g.2)))]) (fun g => []) (fun g => Rv (G9 a0 a1) g.1 g.2 = some x2) (fun g => g.1) (fuel, 0) hx2 ⟨rfl, rfl, rfl, rfl, trivial⟩ [] rfl (fun _ _ => Bg rfl) (fun _ _ => A0 rfl) (fun _ _ => Nbl rfl) ?_
  clear hx2 h
  rintro ⟨n2, s2⟩ h
  obtain ⟨n2, y2, rfl, h, hk2⟩ := Oz h
  unfold G9 at h
  refine Aq (Ab (sv rfl (Cs rfl rfl) (Ar (Aq (ccI h rfl (fun h => ?_) (fun h => ?_))))))
  ·refine Bl (Ai (Aq (Ca (Aq (Ab (sv rfl (Ah rfl) ?_))))))
   obtain ⟨u3, hu3, h⟩ := An h
   refine sv rfl (Fm (f := Ay) Uf (fun _ => rfl) rfl rfl rfl rfl hu3) ?_
   refine sv rfl (Dj (ys := [Ii6 u3.Token, .b u3.Prog.RO, .sl u3.Prog.Ops.length (u3.Prog.Ops.flatMap Cf)]) Ana rfl (.cp _) rfl rfl) (Bz rfl Anv (sv rfl (Ak rfl) (Ax Aqf rfl rfl rfl rfl (Nbl rfl) (Bt [.box (EL.el u3)] rfl (Ar (Aq (Ab (sv rfl (Aa Sa rfl) (sv rfl (Ae ti3 rfl (.lp _ _ _ rfl) rfl) (sv rfl (Ah rfl) (sv rfl (Bo rfl rfl) (Ar (ccI h rfl (fun h => ?_) (fun h => ?_))))))))))))))
   ·refine Aq (Ab (sv rfl (Ah rfl) (sv rfl (Ak rfl) (Ar (Bj (Bd (As (As (Bd (As ?_))))))))))
    obtain rfl := SJ h
    obtain rfl : Sum.inl _ = x2 := hk2
    replace ho2 : some _ = some _ := ho2
    obtain rfl := Option.some.inj ho2
    refine ⟨Or.inr rfl, _, _, _, (Ad (Bc.tmp _ _ rfl) Af), (Aj rfl), ?_⟩
    rfl
   ·refine Bl (A5 (Ai (Ab (sv rfl (B9 rfl rfl) (sv rfl (Ah rfl) (Ar ?_))))))
    obtain rfl := SJ h
    exact ⟨(n2, (wI (s2 + 1))), _, hk2, ⟨rfl, rfl, rfl, rfl, trivial⟩, rfl, Nat.lt_succ_self _⟩
  ·refine Lw (Bi (Bi (Ck (Ai ?_))))
   obtain rfl := SJ h
   obtain rfl : _ = x2 := hk2
   exact ⟨(), _, ho2, trivial, rfl⟩
def Jj (a0 : List Av) (b1 : Unit) : Option Bool :=
 some (decide ((a0.length : Int) ≤ 8))
def Fl (a0 : List Av) (s2 : Int) : Option (LR (Int) (Unit) (Bool)) :=
 if (decide (s2 < (a0.length : Int))) then ((idx a0 s2).bind fun u3 => (Dd u3).bind fun v4 => if (!v4) then (some (.ret false)) else ((Ff a0 u3.Token).bind fun v5 => if (!decide (v5 = s2)) then (some (.ret false)) else (some (.cont (wI (s2 + 1)))))) else (some (.brk ()))
def Hg (a0 : List Av) : Option Bool :=
 (Rv (Fl a0) fuel 0).bind fun x => match x with | .inl r => some r | .inr e6 => Jj a0 e6
theorem Qb {a0 : List Av} {r : Bool} (h : Hg a0 = some r) : Bp Tryz.prog 30 [.one (.sl a0.length (a0.flatMap Ay))] (· = .s (.one (.b r))) := by
 unfold Hg at h
 refine A2 Tryz.func30 rfl (nt := 27) rfl (Nbl rfl) ?_
 intro w0 S0
 refine Aq (Ab (sv rfl (Ak rfl) (Ar (Aq (Aq (Ab (sv rfl (Ah rfl) (sv rfl (Az Uf rfl) (sv rfl (Ah rfl) (Ar (G5 (Unit) (fun b1 => [(0, .s (.one (.sl a0.length (a0.flatMap Ay))))]) (fun b1 => []) (fun b1 => Jj a0 b1 = some r) (fun _ _ => Bg rfl) (fun _ _ => A0 rfl) (fun _ _ => Nbl rfl) (fun b1 h => ?_) ?_)))))))))))
 ·unfold Jj at h
  refine Aq (Ab (sv rfl (Ah rfl) (sv rfl (Az Uf rfl) (sv rfl (F1 rfl rfl) (sv rfl (Ak rfl) (Ar (Bj ?_)))))))
  obtain rfl := SJ h
  refine ⟨Or.inr rfl, _, _, _, (Ad (Bc.tmp _ _ rfl) Af), (Aj rfl), ?_⟩
  rfl
 ·skip
  refine Ca ?_
  obtain ⟨x2, hx2, ho2⟩ := An h
  refine De (G := Nat × (Int)) (fun g => [(0, .s (.one (.sl a0.length (a0.flatMap Ay)))), (5, .s (.one (.sl a0.length (a0.flatMap Ay)))), (6, .s (.one (Ii6 (a0.length : Int)))), (7, .s (.one (Ii6 g.2)))]) (fun g => []) (fun g => Rv (Fl a0) g.1 g.2 = some x2) (fun g => g.1) (fuel, 0) hx2 ⟨rfl, rfl, rfl, rfl, trivial⟩ [] rfl (fun _ _ => Bg rfl) (fun _ _ => A0 rfl) (fun _ _ => Nbl rfl) ?_
  clear hx2 h
  rintro ⟨n2, s2⟩ h
  obtain ⟨n2, y2, rfl, h, hk2⟩ := Oz h
  unfold Fl at h
  refine Aq (Ab (sv rfl (Cs rfl rfl) (Ar (Aq (ccI h rfl (fun h => ?_) (fun h => ?_))))))
  ·refine Bl (Ai (Aq (Ca (Aq (Ab (sv rfl (Ah rfl) ?_))))))
   obtain ⟨u3, hu3, h⟩ := An h
   refine sv rfl (Fm (f := Ay) Uf (fun _ => rfl) rfl rfl rfl rfl hu3) ?_
   refine sv rfl (Dj (ys := [Ii6 u3.Token, .b u3.Prog.RO, .sl u3.Prog.Ops.length (u3.Prog.Ops.flatMap Cf)]) Ana rfl (.cp _) rfl rfl) (Bz rfl Anv (sv rfl (Ak rfl) (Ax Aqf rfl rfl rfl rfl (Nbl rfl) (Bt [.box (EL.el u3)] rfl (Ar (Aq (Ab (sv rfl (Ao Ana rfl (.lp _ _ _ rfl) (Nbl rfl)) ?_))))))))
   obtain ⟨v4, hv4, h⟩ := An h
   refine A1 rfl Auc (Ac rfl Al) (Aj rfl) (Nh hv4) (sv rfl (B8 rfl) (sv rfl (Ah rfl) (Bq 15 rfl (fun hc => ?_) (fun hc => ?_))))
   ·replace h := B1 hc h
    clear hc
    refine Aw rfl rfl rfl rfl (Aw rfl rfl rfl rfl (Aw rfl rfl rfl rfl (Aw rfl rfl rfl rfl (Aw rfl rfl rfl rfl (Aw rfl rfl rfl rfl (sv rfl (Au rfl rfl) (Ar (Hy rfl (fun _ => ?_) (fun hx => Bool.noConfusion hx)))))))))
    refine Aq (Ab (sv rfl (Ak rfl) (Ar (Bj (Bd (As (As (Bd (As ?_)))))))))
    obtain rfl := SJ h
    obtain rfl : Sum.inl _ = x2 := hk2
    replace ho2 : some _ = some _ := ho2
    obtain rfl := Option.some.inj ho2
    refine ⟨Or.inr rfl, _, _, _, (Ad (Bc.tmp _ _ rfl) Af), (Aj rfl), ?_⟩
    rfl
   ·replace h := B0 hc h
    clear hc
    refine son rfl rfl rfl (sv rfl (Ah rfl) (son rfl rfl rfl (sv rfl (Aa Sa rfl) (son rfl rfl rfl (sv rfl (Ae ti3 rfl (.lp _ _ _ rfl) rfl) (son rfl rfl rfl ?_))))))
    obtain ⟨v5, hv5, h⟩ := An h
    refine A1 rfl Aui (Ac rfl (Ac rfl Al)) (Aj rfl) (Ob hv5) (son rfl rfl rfl (sv rfl (Ah rfl) (son rfl rfl rfl (sv rfl (Cd rfl rfl) (sv rfl (Am rfl rfl) (Ar (ccI h rfl (fun h => ?_) (fun h => ?_))))))))
    ·refine Aq (Ab (sv rfl (Ak rfl) (Ar (Bj (Bd (As (As (Bd (As ?_)))))))))
     obtain rfl := SJ h
     obtain rfl : Sum.inl _ = x2 := hk2
     replace ho2 : some _ = some _ := ho2
     obtain rfl := Option.some.inj ho2
     refine ⟨Or.inr rfl, _, _, _, (Ad (Bc.tmp _ _ rfl) Af), (Aj rfl), ?_⟩
     rfl
    ·refine Bl (A5 (Ai (Ab (sv rfl (B9 rfl rfl) (sv rfl (Ah rfl) (Ar ?_))))))
     obtain rfl := SJ h
     exact ⟨(n2, (wI (s2 + 1))), _, hk2, ⟨rfl, rfl, rfl, rfl, trivial⟩, rfl, Nat.lt_succ_self _⟩
  ·refine Lw (Bi (Bi (Ck (Ai ?_))))
   obtain rfl := SJ h
   obtain rfl : _ = x2 := hk2
   exact ⟨(), _, ho2, ⟨rfl, trivial⟩, rfl⟩
def Hv (a0 : Ag) : Option Bool :=
 (Bx a0.Phase 3 10).bind fun v1 => if v1 then (if (decide (0 < (a0.Tasks.length : Int))) then (some (decide (0 < a0.Attempt))) else (some false)) else (if (decide ((a0.Tasks.length : Int) = 0)) then (some true) else (if (!decide (a0.Phase = 0)) then (some (!decide (a0.Phase = 11))) else (some false)))
theorem Q6 {a0 : Ag} {r : Bool} (h : Hv a0 = some r) : Bp Tryz.prog 31 [.agg (EL.el a0)] (· = .s (.one (.b r))) := by
 unfold Hv at h
 refine A2 Tryz.func31 rfl (nt := 29) rfl (Nbl rfl) ?_
 intro w0 S0
 refine Aq (Ab (Je rfl rfl (sv rfl (Ak rfl) (Ar (Aq (Aq (Ab (sv rfl (Aa F7 rfl) (sv rfl (Ae ti3 rfl (.lp _ _ _ rfl) rfl) ?_)))))))))
 obtain ⟨v1, hv1, h⟩ := An h
 refine A1 rfl Aen (Ac rfl (Ac rfl (Ac rfl Al))) (Aj rfl) (Cj hv1) (Ar (ccI h rfl (fun h => ?_) (fun h => ?_)))
 ·refine Aq (Ab (sv rfl (Aa Mb rfl) (sv rfl (Ae Y0 rfl (.lp _ _ _ rfl) rfl) (sv rfl (Az Uf rfl) (sv rfl (Dg rfl rfl) (sv rfl (Ah rfl) (Bq 10 rfl (fun hc => ?_) (fun hc => ?_))))))))
  ·replace h := B1 hc h
   clear hc
   refine son rfl rfl rfl (sv rfl (Aa Of rfl) (son rfl rfl rfl (sv rfl (Ae ti3 rfl (.lp _ _ _ rfl) rfl) (son rfl rfl rfl (sv rfl (Dg rfl rfl) (sv rfl (Au rfl rfl) (sv rfl (Ak rfl) (Ar (Bj (As ?_))))))))))
   obtain rfl := SJ h
   refine ⟨Or.inr rfl, _, _, _, (Ad (Bc.tmp _ _ rfl) Af), (Aj rfl), ?_⟩
   rfl
  ·replace h := B0 hc h
   clear hc
   refine Aw rfl rfl rfl rfl (Aw rfl rfl rfl rfl (Aw rfl rfl rfl rfl (sv rfl (Am rfl rfl) (sv rfl (Ak rfl) (Ar (Bj (As ?_)))))))
   obtain rfl := SJ h
   refine ⟨Or.inr rfl, _, _, _, (Ad (Bc.tmp _ _ rfl) Af), (Aj rfl), ?_⟩
   rfl
 ·refine Bl (Ai (Aq (Ab (sv rfl (Aa Mb rfl) (sv rfl (Ae Y0 rfl (.lp _ _ _ rfl) rfl) (sv rfl (Az Uf rfl) (sv rfl (Bo rfl rfl) (sv rfl (Ah rfl) (Bq 19 rfl (fun hc => ?_) (fun hc => ?_))))))))))
  ·replace h := B1 hc h
   clear hc
   refine Aw rfl rfl rfl rfl (Aw rfl rfl rfl rfl (Aw rfl rfl rfl rfl (Aw rfl rfl rfl rfl (Ju rfl rfl rfl (Ju rfl rfl rfl (Ju rfl rfl rfl (Aw rfl rfl rfl rfl (sv rfl (Au rfl rfl) (sv rfl (Ak rfl) (Ar (Bj ?_)))))))))))
   obtain rfl := SJ h
   refine ⟨Or.inr rfl, _, _, _, (Ad (Bc.tmp _ _ rfl) Af), (Aj rfl), ?_⟩
   rfl
  ·replace h := B0 hc h
   clear hc
   refine son rfl rfl rfl (sv rfl (Aa F7 rfl) (son rfl rfl rfl (sv rfl (Ae ti3 rfl (.lp _ _ _ rfl) rfl) (son rfl rfl rfl (sv rfl (Cd rfl rfl) (son rfl rfl rfl (sv rfl (Ah rfl) (Bq 23 rfl (fun hc => ?_) (fun hc => ?_)))))))))
   ·replace h := B1 hc h
    clear hc
    refine son rfl rfl rfl (sv rfl (Aa F7 rfl) (son rfl rfl rfl (sv rfl (Ae ti3 rfl (.lp _ _ _ rfl) rfl) (son rfl rfl rfl (sv rfl (Cd rfl rfl) (son rfl rfl rfl (sv rfl (Au rfl rfl) (sv rfl (Am rfl rfl) (sv rfl (Ak rfl) (Ar (Bj ?_)))))))))))
    obtain rfl := SJ h
    refine ⟨Or.inr rfl, _, _, _, (Ad (Bc.tmp _ _ rfl) Af), (Aj rfl), ?_⟩
    rfl
   ·replace h := B0 hc h
    clear hc
    refine Aw rfl rfl rfl rfl (Aw rfl rfl rfl rfl (Aw rfl rfl rfl rfl (son rfl rfl rfl (sv rfl (Am rfl rfl) (sv rfl (Am rfl rfl) (sv rfl (Ak rfl) (Ar (Bj ?_))))))))
    obtain rfl := SJ h
    refine ⟨Or.inr rfl, _, _, _, (Ad (Bc.tmp _ _ rfl) Af), (Aj rfl), ?_⟩
    rfl
def Cn (a0 : Int) : Option Bool :=
 (Bx a0 2 7).bind fun v1 => if v1 then (some true) else (some (decide (a0 = 9)))
theorem Dz {a0 : Int} {r : Bool} (h : Cn a0 = some r) : Bp Tryz.prog 32 [.one (Ii6 a0)] (· = .s (.one (.b r))) := by
 unfold Cn at h
 refine A2 Tryz.func32 rfl (nt := 9) rfl (Nbl rfl) ?_
 intro w0 S0
 refine Aq (Ab (sv rfl (Ak rfl) (Ar (Aq (Ab (sv rfl (Ah rfl) ?_))))))
 obtain ⟨v1, hv1, h⟩ := An h
 refine A1 rfl Aen (Ac rfl (Ac rfl (Ac rfl Al))) (Aj rfl) (Cj hv1) (sv rfl (Ah rfl) (Bq 5 rfl (fun hc => ?_) (fun hc => ?_)))
 ·replace h := B1 hc h
  clear hc
  refine Aw rfl rfl rfl rfl (Aw rfl rfl rfl rfl (sv rfl (Au rfl rfl) (sv rfl (Ak rfl) (Ar (Bj ?_)))))
  obtain rfl := SJ h
  refine ⟨Or.inr rfl, _, _, _, (Ad (Bc.tmp _ _ rfl) Af), (Aj rfl), ?_⟩
  rfl
 ·replace h := B0 hc h
  clear hc
  refine son rfl rfl rfl (sv rfl (Ah rfl) (son rfl rfl rfl (sv rfl (Bo rfl rfl) (sv rfl (Am rfl rfl) (sv rfl (Ak rfl) (Ar (Bj ?_)))))))
  obtain rfl := SJ h
  refine ⟨Or.inr rfl, _, _, _, (Ad (Bc.tmp _ _ rfl) Af), (Aj rfl), ?_⟩
  rfl
def Hl (a0 : Int) : Option Bool :=
 if (decide (a0 = 4)) then (some true) else (some (decide (a0 = 5)))
theorem N5 {a0 : Int} {r : Bool} (h : Hl a0 = some r) : Bp Tryz.prog 65 [.one (Ii6 a0)] (· = .s (.one (.b r))) := by
 unfold Hl at h
 refine A2 Tryz.func65 rfl (nt := 9) rfl (Nbl rfl) ?_
 intro w0 S0
 refine Aq (Ab (sv rfl (Ak rfl) (Ar (Aq (Ab (sv rfl (Ah rfl) (sv rfl (Bo rfl rfl) (sv rfl (Ah rfl) (Bq 5 rfl (fun hc => ?_) (fun hc => ?_))))))))))
 ·replace h := B1 hc h
  clear hc
  refine Aw rfl rfl rfl rfl (Aw rfl rfl rfl rfl (sv rfl (Au rfl rfl) (sv rfl (Ak rfl) (Ar (Bj ?_)))))
  obtain rfl := SJ h
  refine ⟨Or.inr rfl, _, _, _, (Ad (Bc.tmp _ _ rfl) Af), (Aj rfl), ?_⟩
  rfl
 ·replace h := B0 hc h
  clear hc
  refine son rfl rfl rfl (sv rfl (Ah rfl) (son rfl rfl rfl (sv rfl (Bo rfl rfl) (sv rfl (Am rfl rfl) (sv rfl (Ak rfl) (Ar (Bj ?_)))))))
  obtain rfl := SJ h
  refine ⟨Or.inr rfl, _, _, _, (Ad (Bc.tmp _ _ rfl) Af), (Aj rfl), ?_⟩
  rfl
def Jg (a0 : List UInt8) : Option (Int × Int × (List UInt8)) :=
 some (0, 0, a0)
theorem Oy {a0 : List UInt8} {r : Int × Int × (List UInt8)} (h : Jg a0 = some r) : Gs Tryz.prog 92 [] [.one (.sl a0.length (a0.flatMap eU8))] (fun y m' => y = .s (.one (.lp 0 0)) ∧ m' = [.box [.fn 112 [] [.lp 1 0, .lp 2 0], Ii6 r.1], .box [Ii6 r.2.1], .box [.sl r.2.2.length (r.2.2.flatMap eU8)]]) := by
 unfold Jg at h
 refine Cv Tryz.func92 rfl (nt := 7) rfl (Nbl rfl) ?_
 intro w0 S0 X0 H0
 refine Aq (Ab (Je rfl rfl (sv rfl (Ak rfl) (Ar (Aq (Ab (Bz rfl zi3 (Ax sz3 rfl rfl rfl rfl (Nbl rfl) (Bt [.box [.sl a0.length (a0.flatMap eU8)], .box [Ii6 0]] rfl (Ar (Aq (Ab (sv rfl (Uq Rd (Sz rfl rfl (Sz rfl rfl Rd))) (sv rfl (Bk Aq1 Ass (Ap rfl A9) (.cons _ _ _ _ _ _ _ rfl rfl (Nbl rfl) (.nil _))) (Je rfl rfl (sv rfl (Ak rfl) (Ar (Bj ?_))))))))))))))))))
 obtain rfl := SJ h
 exact ⟨Or.inr rfl, _, [2, 1, 0], [.one (.lp 0 0)], [.box [.fn 112 [] [.lp 1 0, .lp 2 0], Ii6 0], .box [Ii6 0], .box [.sl a0.length (a0.flatMap eU8)]], (Ad (Bc.tmp _ _ rfl) Af), rfl, rfl, ⟨by decide, rfl⟩, rfl, rfl, ⟨rfl, rfl⟩⟩
def Br (a0 : Int) (a1 : Int) (a2 : List UInt8) : Option Int :=
 some a0
theorem H8 {a0 : Int} {a1 : Int} {a2 : List UInt8} {r : Int} (h : Br a0 a1 a2 = some r) : Gs Tryz.prog 108 [.box [.fn 112 [] [.lp 1 0, .lp 2 0], Ii6 a0], .box [Ii6 a1], .box [.sl a2.length (a2.flatMap eU8)]] [.one (.lp 0 0)] (fun y m' => y = .s (.one (Ii6 r)) ∧ m' = [.box [.fn 112 [] [.lp 1 0, .lp 2 0], Ii6 a0], .box [Ii6 a1], .box [.sl a2.length (a2.flatMap eU8)]]) := by
 unfold Br at h
 refine Cv Tryz.func108 rfl (nt := 9) rfl (Nbl rfl) ?_
 intro w0 S0 X0 H0
 refine Aq (Ab (sv rfl (Ak rfl) (Ar (Aq (Aq (Ab (sv rfl (Ah rfl) (sv rfl (Ut Tryz.underlying176 rfl) (Ar (Hy rfl (fun hx => Bool.noConfusion hx) (fun _ => ?_)))))))))))
 refine Bl (Ai (Aq (Ab (sv rfl (Ah rfl) ?_))))
 refine sv rfl (Me rfl rfl (fun _ _ _ h => by cases h)) ?_
 refine sv rfl (Aa Abh rfl) (sv rfl (Ae Aaz rfl (.lp _ _ _ rfl) rfl) (sv rfl (Ak rfl) (Ar (Bj ?_))))
 obtain rfl := SJ h
 exact ⟨Or.inr rfl, _, [0, 1, 2], [.one (Ii6 a0)], [.box [.fn 112 [] [.lp 1 0, .lp 2 0], Ii6 a0], .box [Ii6 a1], .box [.sl a2.length (a2.flatMap eU8)]], (Ad (Bc.tmp _ _ rfl) Af), rfl, rfl, ⟨by decide, rfl⟩, rfl, rfl, ⟨rfl, rfl⟩⟩
def Bw (a0 : Int) (a1 : Int) (a2 : Int) (a3 : List UInt8) : Option Int :=
 if (decide (a1 = 0)) then (some a0) else (some a1)
theorem Dv {a0 : Int} {a1 : Int} {a2 : Int} {a3 : List UInt8} {r : Int} (h : Bw a0 a1 a2 a3 = some r) : Gs Tryz.prog 94 [.box [.fn 112 [] [.lp 1 0, .lp 2 0], Ii6 a1], .box [Ii6 a2], .box [.sl a3.length (a3.flatMap eU8)]] [.one (.lp 0 0), .one (Ii6 a0)] (fun y m' => y = .tup [] ∧ m' = [.box [.fn 112 [] [.lp 1 0, .lp 2 0], Ii6 r], .box [Ii6 a2], .box [.sl a3.length (a3.flatMap eU8)]]) := by
 unfold Bw at h
 refine Cv Tryz.func94 rfl (nt := 17) rfl (Nbl rfl) ?_
 intro w0 S0 X0 H0
 refine Aq (Ab (sv rfl (Ah rfl) (sv rfl (Aak Tryz.underlying176 rfl) (sv rfl (Ah rfl) (son rfl rfl rfl (sv rfl (Ah rfl) (son rfl rfl rfl ?_)))))))
 refine sv rfl (Me rfl rfl (fun _ _ _ h => by cases h)) ?_
 refine son rfl rfl rfl (sv rfl (Aa Abh rfl) (son rfl rfl rfl (sv rfl (Ae Aaz rfl (.lp _ _ _ rfl) rfl) (son rfl rfl rfl (sv rfl (Bo rfl rfl) (sv rfl (Au rfl rfl) (Ar (ccI h rfl (fun h => ?_) (fun h => ?_)))))))))
 ·refine Ab (sv rfl (Ah rfl) (sv rfl (Ah rfl) ?_))
  refine sv rfl (Me rfl rfl (fun _ _ _ h => by cases h)) ?_
  refine sv rfl (Aa Abh rfl) (Ax At8 rfl rfl rfl rfl (Nbl rfl) (Bt [.box [.fn 112 [] [.lp 1 0, .lp 2 0], Ii6 a0], .box [Ii6 a2], .box [.sl a3.length (a3.flatMap eU8)]] rfl (Ls ?_)))
  obtain rfl := SJ h
  exact ⟨Or.inl rfl, _, [0, 1, 2], [], [.box [.fn 112 [] [.lp 1 0, .lp 2 0], Ii6 a0], .box [Ii6 a2], .box [.sl a3.length (a3.flatMap eU8)]], Af, rfl, rfl, ⟨by decide, rfl⟩, rfl, rfl, ⟨rfl, rfl⟩⟩
 ·refine Bl ?_
  obtain rfl := SJ h
  exact ⟨Or.inl rfl, _, [0, 1, 2], [], [.box [.fn 112 [] [.lp 1 0, .lp 2 0], Ii6 a1], .box [Ii6 a2], .box [.sl a3.length (a3.flatMap eU8)]], Af, rfl, rfl, ⟨by decide, rfl⟩, rfl, rfl, ⟨rfl, rfl⟩⟩
def Ft (a0 : Int) (a1 : Int) (a2 : List UInt8) : Option (Int × (List UInt8) × Int) :=
 (cut a2 (wI (a1 + a0)) (a2.length : Int)).bind fun c1 => some ((wI (a1 + a0)), c1, (wI (a1 + a0)))
theorem Pg {a0 : Int} {a1 : Int} {a2 : List UInt8} {r : Int × (List UInt8) × Int} (h : Ft a0 a1 a2 = some r) : Gs Tryz.prog 112 [.box [Ii6 a1], .box [.sl a2.length (a2.flatMap eU8)]] [.one (Ii6 a0), .one (.lp 0 0), .one (.lp 1 0)] (fun y m' => y = .tup [.one (Ii6 r.1), .one (.sl r.2.1.length (r.2.1.flatMap eU8))] ∧ m' = [.box [Ii6 r.2.2], .box [.sl a2.length (a2.flatMap eU8)]]) := by
 unfold Ft at h
 refine Cv Tryz.func112 rfl (nt := 13) rfl (Nbl rfl) ?_
 intro w0 S0 X0 H0
 refine Aq (Ab (sv rfl (Ak rfl) (sv rfl (Ak rfl) (Ar (Aq (Ab (sv rfl (Ae ti3 rfl (.lp _ _ _ rfl) rfl) (sv rfl (Ah rfl) (sv rfl (B9 rfl rfl) (Ax sz3 rfl rfl rfl rfl (Nbl rfl) (Bt [.box [Ii6 (wI (a1 + a0))], .box [.sl a2.length (a2.flatMap eU8)]] rfl (Ar (Aq ?_)))))))))))))
 refine Afn Lz (by kernel_rfl) ?_
 refine dv rfl (Ae ti3 rfl (.lp _ _ _ rfl) rfl) (dv rfl (Ae L2 rfl (.lp _ _ _ rfl) rfl) (dv rfl (Ae ti3 rfl (.lp _ _ _ rfl) rfl) ?_))
 obtain ⟨c1, hc1, h⟩ := An h
 refine dv rfl (Sw (f := eU8) (lo := (wI (a1 + a0))) (hi := (a2.length : Int)) Lc (fun _ => rfl) rfl rfl rfl (Hs rfl (Kp hc1).1.1) (by exact rfl) hc1) ?_
 refine dv rfl (Ak rfl) (dv rfl (Ak rfl) (Agx (Ai (Bj ?_))))
 obtain rfl := SJ h
 exact ⟨Or.inr rfl, _, [0, 1], [.one (Ii6 (wI (a1 + a0))), .one (.sl c1.length (c1.flatMap eU8))], [.box [Ii6 (wI (a1 + a0))], .box [.sl a2.length (a2.flatMap eU8)]], (Ad (Bc.tmp _ _ rfl) (Ad (Bc.tmp _ _ rfl) Af)), rfl, rfl, ⟨by decide, rfl⟩, rfl, rfl, ⟨rfl, rfl⟩⟩
def Ew (a1 : Int) (a2 : List UInt8) (b1 : Unit) : Option (Int × (List UInt8) × Int) :=
 (Ft 0 a1 a2).bind fun v2 => some (v2.1, v2.2.1, v2.2.2)
def Dt (a0 : Int) (a1 : Int) (a2 : List UInt8) : Option (Int × (List UInt8) × Int) :=
 Ew a1 a2 ()
theorem Ma {a0 : Int} {a1 : Int} {a2 : List UInt8} {r : Int × (List UInt8) × Int} (h : Dt a0 a1 a2 = some r) : Gs Tryz.prog 114 [.box [.fn 112 [] [.lp 1 0, .lp 2 0], Ii6 a0], .box [Ii6 a1], .box [.sl a2.length (a2.flatMap eU8)]] [.one (.lp 0 0)] (fun y m' => y = .tup [.one (Ii6 r.1), .one (.sl r.2.1.length (r.2.1.flatMap eU8))] ∧ m' = [.box [.fn 112 [] [.lp 1 0, .lp 2 0], Ii6 a0], .box [Ii6 r.2.2], .box [.sl a2.length (a2.flatMap eU8)]]) := by
 unfold Dt at h
 refine Cv Tryz.func114 rfl (nt := 20) rfl (Nbl rfl) ?_
 intro w0 S0 X0 H0
 refine Aq (Ab (sv rfl (Ak rfl) (sv rfl (Ak rfl) (Ar (Aq (Aq (Ki (Unit) (fun b1 => [(0, .s (.one (.lp 0 0)))]) (fun b1 => [.box [.fn 112 [] [.lp 1 0, .lp 2 0], Ii6 a0], .box [Ii6 a1], .box [.sl a2.length (a2.flatMap eU8)]]) (fun b1 => Ew a1 a2 b1 = some r) (fun _ _ => Bg rfl) (fun _ _ => A0 rfl) (fun _ _ => Nbl rfl) (fun b1 h => ?_) ?_)))))))
 ·unfold Ew at h
  refine Aq (Ab (sv rfl (Ah rfl) ?_))
  refine sv rfl (Me rfl rfl (fun _ _ _ h => by cases h)) ?_
  refine sv rfl (Aa Abx rfl) (sv rfl (Ae Ald rfl (.lp _ _ _ rfl) rfl) ?_)
  obtain ⟨v2, hv2, h⟩ := An h
  refine C2 (x' := .tup [.one (Ii6 v2.1), .one (.sl v2.2.1.length (v2.2.1.flatMap eU8))]) (M' := [.box [.fn 112 [] [.lp 1 0, .lp 2 0], Ii6 a0], .box [Ii6 v2.2.2], .box [.sl a2.length (a2.flatMap eU8)]]) [1, 2] rfl Apd (.fn _ _ _ _ rfl) (Ac rfl Al) (Pg hv2) rfl rfl (by decide) rfl rfl rfl ?_
  refine sv rfl (A7 rfl rfl) (sv rfl (A7 rfl rfl) (sv rfl (Ak rfl) (sv rfl (Ak rfl) (Ar (Bj ?_)))))
  obtain rfl := SJ h
  exact ⟨Or.inr rfl, _, [0, 1, 2], [.one (Ii6 v2.1), .one (.sl v2.2.1.length (v2.2.1.flatMap eU8))], [.box [.fn 112 [] [.lp 1 0, .lp 2 0], Ii6 a0], .box [Ii6 v2.2.2], .box [.sl a2.length (a2.flatMap eU8)]], (Ad (Bc.tmp _ _ rfl) (Ad (Bc.tmp _ _ rfl) Af)), rfl, rfl, ⟨by decide, rfl⟩, rfl, rfl, ⟨rfl, rfl⟩⟩
 ·skip
  refine Ab (sv rfl (Ah rfl) (sv rfl (Ut Tryz.underlying176 rfl) (sv rfl (Ah rfl) (son rfl rfl rfl (sv rfl (Ah rfl) (son rfl rfl rfl ?_))))))
  refine sv rfl (Me rfl rfl (fun _ _ _ h => by cases h)) ?_
  refine son rfl rfl rfl (sv rfl (Aa Abx rfl) (son rfl rfl rfl (sv rfl (Ae Ald rfl (.lp _ _ _ rfl) rfl) (son rfl rfl rfl (sv rfl (Aab Tryz.underlying191 rfl rfl) (sv rfl (Am rfl rfl) (Ar (Hy rfl (fun hx => Bool.noConfusion hx) (fun _ => ?_)))))))))
  refine Bl (Ai ?_)
  exact ⟨(), _, h, ⟨rfl, trivial⟩, rfl⟩
def C6 (a0 : Int) (a1 : Int) (v1 : Int × (List UInt8) × Int) (b3 : Int) : Option ((List UInt8) × Int × Int) :=
 (cut v1.2.1 0 a0).bind fun c4 => some (c4, a1, b3)
def Cm (a0 : Int) (a1 : Int) (a2 : Int) (a3 : List UInt8) : Option ((List UInt8) × Int × Int) :=
 (Dt a1 a2 a3).bind fun v1 => if (decide ((v1.2.1.length : Int) < a0)) then ((Bw 2 a1 v1.2.2 a3).bind fun v2 => some (([] : List UInt8), v2, v1.2.2)) else (if (decide (0 < a0)) then ((Ft a0 v1.2.2 a3).bind fun v5 => C6 a0 a1 v1 v5.2.2) else (C6 a0 a1 v1 v1.2.2))
theorem Mh {a0 : Int} {a1 : Int} {a2 : Int} {a3 : List UInt8} {r : (List UInt8) × Int × Int} (h : Cm a0 a1 a2 a3 = some r) : Gs Tryz.prog 113 [.box [.fn 112 [] [.lp 1 0, .lp 2 0], Ii6 a1], .box [Ii6 a2], .box [.sl a3.length (a3.flatMap eU8)]] [.one (.lp 0 0), .one (Ii6 a0)] (fun y m' => y = .s (.one (.sl r.1.length (r.1.flatMap eU8))) ∧ m' = [.box [.fn 112 [] [.lp 1 0, .lp 2 0], Ii6 r.2.1], .box [Ii6 r.2.2], .box [.sl a3.length (a3.flatMap eU8)]]) := by
 unfold Cm at h
 refine Cv Tryz.func113 rfl (nt := 29) rfl (Nbl rfl) ?_
 intro w0 S0 X0 H0
 refine Aq (Ab (sv rfl (Ak rfl) (Ar (Aq (Ab (sv rfl (Ah rfl) ?_))))))
 obtain ⟨v1, hv1, h⟩ := An h
 refine C2 (x' := .tup [.one (Ii6 v1.1), .one (.sl v1.2.1.length (v1.2.1.flatMap eU8))]) (M' := [.box [.fn 112 [] [.lp 1 0, .lp 2 0], Ii6 a1], .box [Ii6 v1.2.2], .box [.sl a3.length (a3.flatMap eU8)]]) [0, 1, 2] rfl Apl (.func _) (Ac rfl Al) (Ma hv1) rfl rfl (by decide) rfl rfl rfl ?_
 refine sv rfl (Fs rfl) (sv rfl (A7 rfl rfl) (sv rfl (A7 rfl rfl) (sv rfl (Ak rfl) (sv rfl (Ak rfl) (Ar (Aq (Aq (Ab (sv rfl (Ah rfl) (sv rfl (Az Lc rfl) (sv rfl (Ah rfl) (sv rfl (Cs rfl rfl) (Ar (ccI h rfl (fun h => ?_) (fun h => ?_)))))))))))))))
 ·refine Aq (Ab (sv rfl (Ah rfl) ?_))
  obtain ⟨v2, hv2, h⟩ := An h
  refine C2 (x' := .tup []) (M' := [.box [.fn 112 [] [.lp 1 0, .lp 2 0], Ii6 v2], .box [Ii6 v1.2.2], .box [.sl a3.length (a3.flatMap eU8)]]) [0, 1, 2] rfl Al0 (.func _) (Ac rfl (Ac rfl Al)) (Dv hv2) rfl rfl (by decide) rfl rfl rfl ?_
  refine Ar (Aq (Ab (sv rfl (Ak rfl) (Ar ?_))))
  refine Anp 4 rfl (by (repeat' first | exact J8.nil _ | apply J8.cons | apply Jv.one | apply Jv.agg | exact E4.nil | exact E4.id _ rfl | exact D2.nil _ | apply D2.cons)) ?_
  refine Bj (As ?_)
  obtain rfl := SJ h
  exact ⟨Or.inr rfl, _, [0, 1, 2], [.one (.sl ([] : List UInt8).length (([] : List UInt8).flatMap eU8))], [.box [.fn 112 [] [.lp 1 0, .lp 2 0], Ii6 v2], .box [Ii6 v1.2.2], .box [.sl a3.length (a3.flatMap eU8)]], (Ad (Bc.tmp _ _ rfl) Af), rfl, rfl, ⟨by decide, rfl⟩, rfl, rfl, ⟨rfl, rfl⟩⟩
 ·refine Bl (Ai (Aq (Aq (Ab (sv rfl (Ah rfl) (sv rfl (Dg rfl rfl) (Ar (G5 (Int) (fun b3 => [(1, .s (.one (Ii6 a0))), (6, .s (.one (.sl v1.2.1.length (v1.2.1.flatMap eU8))))]) (fun b3 => [.box [.fn 112 [] [.lp 1 0, .lp 2 0], Ii6 a1], .box [Ii6 b3], .box [.sl a3.length (a3.flatMap eU8)]]) (fun b3 => C6 a0 a1 v1 b3 = some r) (fun _ _ => Bg rfl) (fun _ _ => A0 rfl) (fun _ _ => Nbl rfl) (fun b3 h => ?_) ?_))))))))
  ·unfold C6 at h
   refine Aq (Ab (sv rfl (Ah rfl) (sv rfl (Ah rfl) ?_)))
   obtain ⟨c4, hc4, h⟩ := An h
   refine sv rfl (Sw (f := eU8) (lo := 0) (hi := a0) Lc (fun _ => rfl) rfl rfl rfl Re (Hs rfl (Int.le_trans (Kp hc4).1.1 (Kp hc4).1.2.1)) hc4) ?_
   refine sv rfl (Ak rfl) (Ar (Bj ?_))
   obtain rfl := SJ h
   exact ⟨Or.inr rfl, _, [0, 1, 2], [.one (.sl c4.length (c4.flatMap eU8))], [.box [.fn 112 [] [.lp 1 0, .lp 2 0], Ii6 a1], .box [Ii6 b3], .box [.sl a3.length (a3.flatMap eU8)]], (Ad (Bc.tmp _ _ rfl) Af), rfl, rfl, ⟨by decide, rfl⟩, rfl, rfl, ⟨rfl, rfl⟩⟩
  ·skip
   refine ccI h rfl (fun h => ?_) (fun h => ?_)
   ·refine Ab (sv rfl (Ah rfl) ?_)
    refine sv rfl (Me rfl rfl (fun _ _ _ h => by cases h)) ?_
    refine sv rfl (Aa Abx rfl) (sv rfl (Ae Ald rfl (.lp _ _ _ rfl) rfl) (sv rfl (Ah rfl) ?_))
    obtain ⟨v5, hv5, h⟩ := An h
    refine C2 (x' := .tup [.one (Ii6 v5.1), .one (.sl v5.2.1.length (v5.2.1.flatMap eU8))]) (M' := [.box [.fn 112 [] [.lp 1 0, .lp 2 0], Ii6 a1], .box [Ii6 v5.2.2], .box [.sl a3.length (a3.flatMap eU8)]]) [1, 2] rfl Apd (.fn _ _ _ _ rfl) (Ac rfl Al) (Pg hv5) rfl rfl (by decide) rfl rfl rfl ?_
    refine Ar ?_
    exact ⟨v5.2.2, _, h, ⟨rfl, rfl, trivial⟩, rfl⟩
   ·refine Bl (Ai ?_)
    exact ⟨v1.2.2, _, h, ⟨rfl, rfl, trivial⟩, rfl⟩
def Li (v3 : (List UInt8) × Int × Int) (b4 : (BitVec 64)) : Option ((BitVec 64) × Int × Int) :=
 some (b4, v3.2.1, v3.2.2)
def Ek (v3 : (List UInt8) × Int × Int) (s5 : (BitVec 64) × Int) : Option (LB ((BitVec 64) × Int) ((BitVec 64))) :=
 if (decide (s5.2 < (v3.1.length : Int))) then ((idx v3.1 s5.2).bind fun u6 => if 0 ≤ (wI (8 * s5.2)) then (some (.cont ((s5.1 ||| ((u6.toBitVec.setWidth 64) <<< (wI (8 * s5.2)).toNat)), (wI (s5.2 + 1))))) else none) else (some (.brk s5.1))
def Dq (a0 : Int) (a1 : Int) (a2 : Int) (a3 : List UInt8) (b2 : Unit) : Option ((BitVec 64) × Int × Int) :=
 (Cm a0 a1 a2 a3).bind fun v3 => (Ez (Ek v3) fuel (0#64, 0)).bind fun e8 => Li v3 e8
def A3 (a0 : Int) (a1 : Int) (a2 : Int) (a3 : List UInt8) : Option ((BitVec 64) × Int × Int) :=
 (Br a1 a2 a3).bind fun v1 => if (!decide (v1 = 0)) then (some (0#64, a1, a2)) else (if (decide (a0 < 1)) then ((Bw 1 a1 a2 a3).bind fun v9 => some (0#64, v9, a2)) else (if (decide (8 < a0)) then ((Bw 1 a1 a2 a3).bind fun v10 => some (0#64, v10, a2)) else (Dq a0 a1 a2 a3 ())))
theorem Cx {a0 : Int} {a1 : Int} {a2 : Int} {a3 : List UInt8} {r : (BitVec 64) × Int × Int} (h : A3 a0 a1 a2 a3 = some r) : Gs Tryz.prog 93 [.box [.fn 112 [] [.lp 1 0, .lp 2 0], Ii6 a1], .box [Ii6 a2], .box [.sl a3.length (a3.flatMap eU8)]] [.one (.lp 0 0), .one (Ii6 a0)] (fun y m' => y = .s (.one (.i .u64 (r.1.toNat : Int))) ∧ m' = [.box [.fn 112 [] [.lp 1 0, .lp 2 0], Ii6 r.2.1], .box [Ii6 r.2.2], .box [.sl a3.length (a3.flatMap eU8)]]) := by
 unfold A3 at h
 refine Cv Tryz.func93 rfl (nt := 37) rfl (Nbl rfl) ?_
 intro w0 S0 X0 H0
 refine Aq (Ab (sv rfl (Ak rfl) (Ar (Aq (Aq (Ab (sv rfl (Ah rfl) ?_)))))))
 obtain ⟨v1, hv1, h⟩ := An h
 refine C2 (x' := .s (.one (Ii6 v1))) (M' := [.box [.fn 112 [] [.lp 1 0, .lp 2 0], Ii6 a1], .box [Ii6 a2], .box [.sl a3.length (a3.flatMap eU8)]]) [0, 1, 2] rfl Ai8 (.func _) (Ac rfl Al) (H8 hv1) rfl rfl (by decide) rfl rfl rfl ?_
 refine sv rfl (Cd rfl rfl) (Ar (ccI h rfl (fun h => ?_) (fun h => ?_)))
 ·refine Aq (Ab (sv rfl (Ak rfl) (Ar (Bj (As ?_)))))
  obtain rfl := SJ h
  exact ⟨Or.inr rfl, _, [0, 1, 2], [.one (.i .u64 ((0#64).toNat : Int))], [.box [.fn 112 [] [.lp 1 0, .lp 2 0], Ii6 a1], .box [Ii6 a2], .box [.sl a3.length (a3.flatMap eU8)]], (Ad (Bc.tmp _ _ rfl) Af), rfl, rfl, ⟨by decide, rfl⟩, rfl, rfl, ⟨rfl, rfl⟩⟩
 ·refine Bl (Ai (Aq (Aq (Ki (Unit) (fun b2 => [(0, .s (.one (.lp 0 0))), (1, .s (.one (Ii6 a0)))]) (fun b2 => [.box [.fn 112 [] [.lp 1 0, .lp 2 0], Ii6 a1], .box [Ii6 a2], .box [.sl a3.length (a3.flatMap eU8)]]) (fun b2 => Dq a0 a1 a2 a3 b2 = some r) (fun _ _ => Bg rfl) (fun _ _ => A0 rfl) (fun _ _ => Nbl rfl) (fun b2 h => ?_) ?_))))
  ·unfold Dq at h
   refine Aq (Ab (sv rfl (Ak rfl) (Ar (Aq (Aq (Ab (sv rfl (Ah rfl) (sv rfl (Ah rfl) ?_))))))))
   obtain ⟨v3, hv3, h⟩ := An h
   refine C2 (x' := .s (.one (.sl v3.1.length (v3.1.flatMap eU8)))) (M' := [.box [.fn 112 [] [.lp 1 0, .lp 2 0], Ii6 v3.2.1], .box [Ii6 v3.2.2], .box [.sl a3.length (a3.flatMap eU8)]]) [0, 1, 2] rfl Apu (.func _) (Ac rfl (Ac rfl Al)) (Mh hv3) rfl rfl (by decide) rfl rfl rfl ?_
   refine sv rfl (Az Lc rfl) (sv rfl (Ah rfl) (Ar (G5 ((BitVec 64)) (fun b4 => [(5, .s (.one (.i .u64 (b4.toNat : Int))))]) (fun b4 => [.box [.fn 112 [] [.lp 1 0, .lp 2 0], Ii6 v3.2.1], .box [Ii6 v3.2.2], .box [.sl a3.length (a3.flatMap eU8)]]) (fun b4 => Li v3 b4 = some r) (fun _ _ => Bg rfl) (fun _ _ => A0 rfl) (fun _ _ => Nbl rfl) (fun b4 h => ?_) ?_)))
   ·unfold Li at h
    refine Aq (Ab (sv rfl (Ah rfl) (sv rfl (Ak rfl) (Ar (Bj ?_)))))
    obtain rfl := SJ h
    exact ⟨Or.inr rfl, _, [0, 1, 2], [.one (.i .u64 (b4.toNat : Int))], [.box [.fn 112 [] [.lp 1 0, .lp 2 0], Ii6 v3.2.1], .box [Ii6 v3.2.2], .box [.sl a3.length (a3.flatMap eU8)]], (Ad (Bc.tmp _ _ rfl) Af), rfl, rfl, ⟨by decide, rfl⟩, rfl, rfl, ⟨rfl, rfl⟩⟩
   ·skip
    refine Ca ?_
    obtain ⟨x5, hx5, ho5⟩ := An h
    refine De (G := Nat × ((BitVec 64) × Int)) (fun g => [(5, .s (.one (.i .u64 (g.2.1.toNat : Int)))), (21, .s (.one (.sl v3.1.length (v3.1.flatMap eU8)))), (22, .s (.one (Ii6 (v3.1.length : Int)))), (23, .s (.one (Ii6 g.2.2)))]) (fun g => [.box [.fn 112 [] [.lp 1 0, .lp 2 0], Ii6 v3.2.1], .box [Ii6 v3.2.2], .box [.sl a3.length (a3.flatMap eU8)]]) (fun g => Ez (Ek v3) g.1 g.2 = some x5) (fun g => g.1) (fuel, (0#64, 0)) hx5 ⟨rfl, rfl, rfl, rfl, trivial⟩ [] rfl (fun _ _ => Bg rfl) (fun _ _ => A0 rfl) (fun _ _ => Nbl rfl) ?_
    clear hx5 h
    rintro ⟨n5, s5⟩ h
    obtain ⟨n5, y5, rfl, h, hk5⟩ := Gp h
    unfold Ek at h
    refine Aq (Ab (sv rfl (Cs rfl rfl) (Ar (Aq (ccI h rfl (fun h => ?_) (fun h => ?_))))))
    ·refine Bl (Ai (Aq (Ca (Aq (Ab (sv rfl (Ah rfl) ?_))))))
     obtain ⟨u6, hu6, h⟩ := An h
     refine sv rfl (Fm (f := eU8) Lc (fun _ => rfl) rfl rfl rfl rfl hu6) ?_
     refine sv rfl (Ae ti5 rfl (.cp _) rfl) (sv rfl (Ak rfl) (sv rfl (Ak rfl) (Ar (Ab (sv rfl (Ah rfl) (sv rfl (Ah rfl) (sv rfl (N6 (k := .u8) (a := u6.toBitVec) rfl Tryz.underlying5 Tryz.underlying112 rfl rfl) (sv rfl (Ah rfl) (sv rfl (Yg rfl rfl) ?_)))))))))
     obtain ⟨hz7, h⟩ := D4 h
     refine sv rfl (Acf (a := (u6.toBitVec.setWidth 64)) rfl rfl rfl hz7) (sv rfl (Aem (a := s5.1) (b := ((u6.toBitVec.setWidth 64) <<< (wI (8 * s5.2)).toNat)) rfl rfl rfl rfl) (sv rfl (Ak rfl) (Ls (A5 (Ai (Ab (sv rfl (B9 rfl rfl) (sv rfl (Ah rfl) (Ar ?_)))))))))
     obtain rfl := SJ h
     exact ⟨(n5, ((s5.1 ||| ((u6.toBitVec.setWidth 64) <<< (wI (8 * s5.2)).toNat)), (wI (s5.2 + 1)))), _, hk5, ⟨rfl, rfl, rfl, rfl, trivial⟩, rfl, Nat.lt_succ_self _⟩
    ·refine Lw (Bi (Bi (Ck (Ai ?_))))
     obtain rfl := SJ h
     obtain rfl : _ = x5 := hk5
     exact ⟨s5.1, _, ho5, ⟨rfl, trivial⟩, rfl⟩
  ·skip
   refine Ab (sv rfl (Ah rfl) (sv rfl (Cs rfl rfl) (sv rfl (Ah rfl) (Bq 13 rfl (fun hc => ?_) (fun hc => ?_)))))
   ·replace h := B1 hc h
    clear hc
    refine Aw rfl rfl rfl rfl (Aw rfl rfl rfl rfl (sv rfl (Au rfl rfl) (Ar (Hy rfl (fun _ => ?_) (fun hx => Bool.noConfusion hx)))))
    refine Aq (Ab (sv rfl (Ah rfl) ?_))
    obtain ⟨v9, hv9, h⟩ := An h
    refine C2 (x' := .tup []) (M' := [.box [.fn 112 [] [.lp 1 0, .lp 2 0], Ii6 v9], .box [Ii6 a2], .box [.sl a3.length (a3.flatMap eU8)]]) [0, 1, 2] rfl Al0 (.func _) (Ac rfl (Ac rfl Al)) (Dv hv9) rfl rfl (by decide) rfl rfl rfl ?_
    refine Ar (Aq (Ab (sv rfl (Ak rfl) (Ar (Bj (As ?_))))))
    obtain rfl := SJ h
    exact ⟨Or.inr rfl, _, [0, 1, 2], [.one (.i .u64 ((0#64).toNat : Int))], [.box [.fn 112 [] [.lp 1 0, .lp 2 0], Ii6 v9], .box [Ii6 a2], .box [.sl a3.length (a3.flatMap eU8)]], (Ad (Bc.tmp _ _ rfl) Af), rfl, rfl, ⟨by decide, rfl⟩, rfl, rfl, ⟨rfl, rfl⟩⟩
   ·replace h := B0 hc h
    clear hc
    refine son rfl rfl rfl (sv rfl (Ah rfl) (son rfl rfl rfl (sv rfl (Dg rfl rfl) (sv rfl (Am rfl rfl) (Ar (ccI h rfl (fun h => ?_) (fun h => ?_)))))))
    ·refine Aq (Ab (sv rfl (Ah rfl) ?_))
     obtain ⟨v10, hv10, h⟩ := An h
     refine C2 (x' := .tup []) (M' := [.box [.fn 112 [] [.lp 1 0, .lp 2 0], Ii6 v10], .box [Ii6 a2], .box [.sl a3.length (a3.flatMap eU8)]]) [0, 1, 2] rfl Al0 (.func _) (Ac rfl (Ac rfl Al)) (Dv hv10) rfl rfl (by decide) rfl rfl rfl ?_
     refine Ar (Aq (Ab (sv rfl (Ak rfl) (Ar (Bj (As ?_))))))
     obtain rfl := SJ h
     exact ⟨Or.inr rfl, _, [0, 1, 2], [.one (.i .u64 ((0#64).toNat : Int))], [.box [.fn 112 [] [.lp 1 0, .lp 2 0], Ii6 v10], .box [Ii6 a2], .box [.sl a3.length (a3.flatMap eU8)]], (Ad (Bc.tmp _ _ rfl) Af), rfl, rfl, ⟨by decide, rfl⟩, rfl, rfl, ⟨rfl, rfl⟩⟩
    ·refine Bl (Ai ?_)
     exact ⟨(), _, h, ⟨rfl, rfl, trivial⟩, rfl⟩
def Jp (a0 : Int) (b1 : Unit) : Option (List UInt8) :=
 if (decide (0 < (wI (a0 - (wI (0 - 0)))))) then (if 0 < (wI (a0 - (wI (0 - 0)))) ∧ (wI (a0 - (wI (0 - 0)))) * ((1 : Nat) : Int) ≤ 281474976710656 then (if (0 : Int) ≤ 0 ∧ 0 ≤ ((List.replicate (wI (a0 - (wI (0 - 0)))).toNat (0 : UInt8)).length : Int) then (some ((List.replicate (wI (a0 - (wI (0 - 0)))).toNat (0 : UInt8)).take (0 : Int).toNat)) else none) else none) else (some ([] : List UInt8))
def J3 (a0 : Int) : Option (List UInt8) :=
 if (decide (a0 < 0)) then none else (Jp a0 ())
theorem T0 {a0 : Int} {r : (List UInt8)} (h : J3 a0 = some r) : Gs Tryz.prog 75 [] [.one (Znl), .one (Ii6 a0)] (fun y m' => y = .s (.one (.ls 0 r.length)) ∧ m' = [.arr 5 1 0 (r.flatMap eU8)]) := by
 unfold J3 at h
 refine Cv Tryz.func75 rfl (nt := 27) rfl (Nbl rfl) ?_
 intro w0 S0 X0 H0
 refine Aq (Ab (sv rfl (Ak rfl) (Ar (Aq (Aq (Ab (sv rfl (Ah rfl) (sv rfl (Cs rfl rfl) (Ar (G5 (Unit) (fun b1 => [(0, .s (.one (Znl))), (1, .s (.one (Ii6 a0)))]) (fun b1 => []) (fun b1 => Jp a0 b1 = some r) (fun _ _ => Bg rfl) (fun _ _ => A0 rfl) (fun _ _ => Nbl rfl) (fun b1 h => ?_) ?_))))))))))
 ·unfold Jp at h
  refine Aq (Aq (Ab (sv rfl (Ah rfl) (sv rfl (Ah rfl) (sv rfl (Kq Lc rfl) (sv rfl (Ah rfl) (sv rfl (Ko Lc rfl) (sv rfl (My rfl rfl) (sv rfl (My rfl rfl) (sv rfl (Ak rfl) (Ar (Aq (Ab (sv rfl (Ah rfl) (sv rfl (Dg rfl rfl) (Ar (ccI h rfl (fun h => ?_) (fun h => ?_))))))))))))))))))
  ·refine Ab (sv rfl (Ah rfl) (sv rfl (Ah rfl) (sv rfl (Kq Lc rfl) (sv rfl (Nt Lc rfl rfl) (sv rfl (Ah rfl) ?_)))))
   obtain ⟨hm2, h⟩ := D4 h
   refine Alb (f := eU8) (z := (0 : UInt8)) rfl Tryz.underlying33 ei5 Tryz.underlying3 (fun _ => rfl) rfl rfl rfl hm2 (by decide) ?_
   refine sv rfl (Ah rfl) (sv rfl (Ko Lc rfl) ?_)
   obtain ⟨hs3, h⟩ := D4 h
   refine Acq (f := eU8) rfl Lc (fun _ => rfl) rfl rfl rfl rfl rfl hs3 ?_
   refine sv rfl (Ak rfl) (Ar (Aq (Ab (sv rfl (Ah rfl) (sv rfl (Ak rfl) (Ar (Bj ?_)))))))
   obtain rfl := SJ h
   exact ⟨Or.inr rfl, _, [1], [.one (.ls 0 ((List.replicate (wI (a0 - (wI (0 - 0)))).toNat (0 : UInt8)).take (0 : Int).toNat).length)], [.arr 5 1 0 (((List.replicate (wI (a0 - (wI (0 - 0)))).toNat (0 : UInt8)).take (0 : Int).toNat).flatMap eU8)], (Ad (Bc.tmp _ _ rfl) Af), rfl, rfl, ⟨by decide, rfl⟩, rfl, rfl, ⟨rfl, rfl⟩⟩
  ·refine Bl (Ai (Aq (Ab (sv rfl (Ah rfl) (sv rfl (Ak rfl) (Ar ?_))))))
   refine Ov 5 1 4 (by decide) rfl ?_
   refine Bj ?_
   obtain rfl := SJ h
   exact ⟨Or.inr rfl, _, [0], [.one (.ls 0 ([] : List UInt8).length)], [.arr 5 1 0 (([] : List UInt8).flatMap eU8)], (Ad (Bc.tmp _ _ rfl) Af), rfl, rfl, ⟨by decide, rfl⟩, rfl, rfl, ⟨rfl, rfl⟩⟩
 ·skip
  refine ccI h rfl (fun h => ?_) (fun h => ?_)
  ·cases h
  ·refine Bl (Ai ?_)
   exact ⟨(), _, h, ⟨rfl, rfl, trivial⟩, rfl⟩
def Ks (b3 : (List UInt8)) : Option (List UInt8) :=
 some b3
def Fj (a0 : List (List UInt8)) (s4 : Int × (List UInt8)) : Option (LB (Int × (List UInt8)) ((List UInt8))) :=
 if (decide (s4.1 < (a0.length : Int))) then ((idx a0 s4.1).bind fun u5 => if (s4.2.length + u5.length) * 1 ≤ 140737488355328 then (some (.cont ((wI (s4.1 + 1)), (s4.2 ++ u5)))) else none) else (some (.brk s4.2))
def Ie (a0 : List (List UInt8)) (b1 : Int) : Option (List UInt8) :=
 (J3 b1).bind fun v2 => (Ez (Fj a0) fuel (0, v2)).bind fun e7 => Ks e7
def Fc (a0 : List (List UInt8)) (s8 : Int × Int) : Option (LB (Int × Int) (Int)) :=
 if (decide (s8.2 < (a0.length : Int))) then ((idx a0 s8.2).bind fun u9 => if (decide ((wI (s8.1 + (u9.length : Int))) < 0)) then none else (some (.cont ((wI (s8.1 + (u9.length : Int))), (wI (s8.2 + 1)))))) else (some (.brk s8.1))
def En (a0 : List (List UInt8)) : Option (List UInt8) :=
 (Ez (Fc a0) fuel (0, 0)).bind fun e10 => Ie a0 e10
theorem Ir {a0 : List (List UInt8)} {r : (List UInt8)} (h : En a0 = some r) : Gs Tryz.prog 44 [] [.one (.sl a0.length (a0.flatMap (eL eU8)))] (fun y m' => y = .s (.one (.ls 0 r.length)) ∧ m' = [.arr 5 1 0 (r.flatMap eU8)]) := by
 unfold En at h
 refine Cv Tryz.func44 rfl (nt := 36) rfl (Nbl rfl) ?_
 intro w0 S0 X0 H0
 refine Aq (Ab (sv rfl (Ak rfl) (Ar (Aq (Ab (sv rfl (Ak rfl) (Ar (Aq (Aq (Ab (sv rfl (Ah rfl) (sv rfl (Az Adz rfl) (sv rfl (Ah rfl) (Ar (G5 (Int) (fun b1 => [(0, .s (.one (.sl a0.length (a0.flatMap (eL eU8))))), (3, .s (.one (Ii6 b1)))]) (fun b1 => []) (fun b1 => Ie a0 b1 = some r) (fun _ _ => Bg rfl) (fun _ _ => A0 rfl) (fun _ _ => Nbl rfl) (fun b1 h => ?_) ?_)))))))))))))))
 ·unfold Ie at h
  refine Aq (Ab (sv rfl (Ah rfl) ?_))
  obtain ⟨v2, hv2, h⟩ := An h
  refine C2 (x' := .s (.one (.ls 0 v2.length))) (M' := [.arr 5 1 0 (v2.flatMap eU8)]) [] rfl Ava (.func _) (Ac rfl (Ac rfl Al)) (T0 hv2) rfl rfl (by decide) rfl rfl rfl ?_
  refine sv rfl (Ak rfl) (Ar (Aq (Aq (Ab (sv rfl (Ah rfl) (sv rfl (Az Adz rfl) (sv rfl (Ah rfl) (Ar (G5 ((List UInt8)) (fun b3 => [(6, .s (.one (.ls 0 b3.length)))]) (fun b3 => [.arr 5 1 0 (b3.flatMap eU8)]) (fun b3 => Ks b3 = some r) (fun _ _ => Bg rfl) (fun _ _ => A0 rfl) (fun _ _ => Nbl rfl) (fun b3 h => ?_) ?_)))))))))
  ·unfold Ks at h
   refine Aq (Ab (sv rfl (Ah rfl) (sv rfl (Ak rfl) (Ar (Bj ?_)))))
   obtain rfl := SJ h
   exact ⟨Or.inr rfl, _, [0], [.one (.ls 0 b3.length)], [.arr 5 1 0 (b3.flatMap eU8)], (Ad (Bc.tmp _ _ rfl) Af), rfl, rfl, ⟨by decide, rfl⟩, rfl, rfl, ⟨rfl, rfl⟩⟩
  ·skip
   refine Ca ?_
   obtain ⟨x4, hx4, ho4⟩ := An h
   refine De (G := Nat × (Int × (List UInt8))) (fun g => [(6, .s (.one (.ls 0 g.2.2.length))), (25, .s (.one (.sl a0.length (a0.flatMap (eL eU8))))), (26, .s (.one (Ii6 (a0.length : Int)))), (27, .s (.one (Ii6 g.2.1)))]) (fun g => [.arr 5 1 0 (g.2.2.flatMap eU8)]) (fun g => Ez (Fj a0) g.1 g.2 = some x4) (fun g => g.1) (fuel, (0, v2)) hx4 ⟨rfl, rfl, rfl, rfl, trivial⟩ [] rfl (fun _ _ => Bg rfl) (fun _ _ => A0 rfl) (fun _ _ => Nbl rfl) ?_
   clear hx4 h
   rintro ⟨n4, s4⟩ h
   obtain ⟨n4, y4, rfl, h, hk4⟩ := Gp h
   unfold Fj at h
   refine Aq (Ab (sv rfl (Cs rfl rfl) (Ar (Aq (ccI h rfl (fun h => ?_) (fun h => ?_))))))
   ·refine Bl (Ai (Aq (Ca (Aq (Ab ?_)))))
    obtain ⟨u5, hu5, h⟩ := An h
    refine sv rfl (Fm (f := (eL eU8)) Adz (fun _ => rfl) rfl rfl rfl rfl hu5) ?_
    refine sv rfl (Ae L2 rfl (.cp _) rfl) (sv rfl (Ak rfl) (Ar (Ab (sv rfl (Ah rfl) (sv rfl (Ah rfl) ?_)))))
    obtain ⟨hb6, h⟩ := D4 h
    refine Ah2 (f := eU8) (xs := s4.2) (us := u5) rfl Tryz.underlying33 ei5 Arq (fun _ => rfl) rfl rfl (.one _ _ _ _ (.id _ rfl)) rfl rfl rfl (.sl _ _ _ (Bf (f := eU8) (fun _ => rfl) _)) rfl rfl hb6 (by decide) ?_
    refine sv rfl (Ak rfl) (Ls (A5 (Ai (Ab (sv rfl (B9 rfl rfl) (sv rfl (Ah rfl) (Ar ?_)))))))
    obtain rfl := SJ h
    exact ⟨(n4, ((wI (s4.1 + 1)), (s4.2 ++ u5))), _, hk4, ⟨rfl, rfl, rfl, rfl, trivial⟩, rfl, Nat.lt_succ_self _⟩
   ·refine Lw (Bi (Bi (Ck (Ai ?_))))
    obtain rfl := SJ h
    obtain rfl : _ = x4 := hk4
    exact ⟨s4.2, _, ho4, ⟨rfl, trivial⟩, rfl⟩
 ·skip
  refine Ca ?_
  obtain ⟨x8, hx8, ho8⟩ := An h
  refine De (G := Nat × (Int × Int)) (fun g => [(0, .s (.one (.sl a0.length (a0.flatMap (eL eU8))))), (3, .s (.one (Ii6 g.2.1))), (9, .s (.one (.sl a0.length (a0.flatMap (eL eU8))))), (10, .s (.one (Ii6 (a0.length : Int)))), (11, .s (.one (Ii6 g.2.2)))]) (fun g => []) (fun g => Ez (Fc a0) g.1 g.2 = some x8) (fun g => g.1) (fuel, (0, 0)) hx8 ⟨rfl, rfl, rfl, rfl, rfl, trivial⟩ [] rfl (fun _ _ => Bg rfl) (fun _ _ => A0 rfl) (fun _ _ => Nbl rfl) ?_
  clear hx8 h
  rintro ⟨n8, s8⟩ h
  obtain ⟨n8, y8, rfl, h, hk8⟩ := Gp h
  unfold Fc at h
  refine Aq (Ab (sv rfl (Cs rfl rfl) (Ar (Aq (ccI h rfl (fun h => ?_) (fun h => ?_))))))
  ·refine Bl (Ai (Aq (Ca (Aq (Ab ?_)))))
   obtain ⟨u9, hu9, h⟩ := An h
   refine sv rfl (Fm (f := (eL eU8)) Adz (fun _ => rfl) rfl rfl rfl rfl hu9) ?_
   refine sv rfl (Ae L2 rfl (.cp _) rfl) (sv rfl (Ak rfl) (Ar (Aq (Ab (sv rfl (Ah rfl) (sv rfl (Ah rfl) (sv rfl (Az Lc rfl) (sv rfl (B9 rfl rfl) (sv rfl (Ak rfl) (Ar (Aq (Ab (sv rfl (Ah rfl) (sv rfl (Cs rfl rfl) (Ar (ccI h rfl (fun h => ?_) (fun h => ?_)))))))))))))))))
   ·cases h
   ·refine Bl (A5 (Ai (Ab (sv rfl (B9 rfl rfl) (sv rfl (Ah rfl) (Ar ?_))))))
    obtain rfl := SJ h
    exact ⟨(n8, ((wI (s8.1 + (u9.length : Int))), (wI (s8.2 + 1)))), _, hk8, ⟨rfl, rfl, rfl, rfl, rfl, trivial⟩, rfl, Nat.lt_succ_self _⟩
  ·refine Lw (Bi (Bi (Ck (Ai ?_))))
   obtain rfl := SJ h
   obtain rfl : _ = x8 := hk8
   exact ⟨s8.1, _, ho8, ⟨rfl, rfl, trivial⟩, rfl⟩
def Oi (a0 : List UInt8) (b2 : (List UInt8)) : Option (List UInt8) :=
 (En [a0, b2]).bind fun v3 => some v3
def Nj (a1 : BitVec 64) (a2 : Int) (s4 : Int × (List UInt8)) : Option (LB (Int × (List UInt8)) ((List UInt8))) :=
 if (decide (s4.1 < ((List.replicate (if (if 8 < a2 then 8 else a2) > 0 then (if 8 < a2 then 8 else a2) else 0).toNat (0 : UInt8)).length : Int))) then (if 0 ≤ (wI (8 * s4.1)) then ((idx s4.2 s4.1).bind fun u6 => some (.cont ((wI (s4.1 + 1)), (s4.2.set s4.1.toNat (UInt8.ofBitVec ((a1 >>> (wI (8 * s4.1)).toNat).setWidth 8)))))) else none) else (some (.brk s4.2))
def Eg (a0 : List UInt8) (a1 : BitVec 64) (a2 : Int) : Option (List UInt8) :=
 if (0 : Int) ≤ (if (if 8 < a2 then 8 else a2) > 0 then (if 8 < a2 then 8 else a2) else 0) ∧ (if (if 8 < a2 then 8 else a2) > 0 then (if 8 < a2 then 8 else a2) else 0) ≤ (if (if 8 < a2 then 8 else a2) > 0 then (if 8 < a2 then 8 else a2) else 0) ∧ ((1 : Nat) : Int) * (if (if 8 < a2 then 8 else a2) > 0 then (if 8 < a2 then 8 else a2) else 0) ≤ 281474976710656 then ((Ez (Nj a1 a2) fuel (0, (List.replicate (if (if 8 < a2 then 8 else a2) > 0 then (if 8 < a2 then 8 else a2) else 0).toNat (0 : UInt8)))).bind fun e7 => Oi a0 e7) else none
theorem Ej {a0 : List UInt8} {a1 : BitVec 64} {a2 : Int} {r : (List UInt8)} (h : Eg a0 a1 a2 = some r) : Bp Tryz.prog 40 [.one (.sl a0.length (a0.flatMap eU8)), .one (.i .u64 (a1.toNat : Int)), .one (Ii6 a2)] (· = .s (.one (.sl r.length (r.flatMap eU8)))) := by
 unfold Eg at h
 refine A2 Tryz.func40 rfl (nt := 32) rfl (Nbl rfl) ?_
 intro w0 S0
 refine Aq (Ab (sv rfl (Ak rfl) (Ar (Aq (Ab (sv rfl (Ah rfl) (sv rfl (Ss rfl rfl) (sv rfl (Afx rfl rfl) (sv rfl (Ak rfl) (Ar (Aq (Ab (sv rfl (Ah rfl) ?_)))))))))))))
 obtain ⟨hm1, h⟩ := D4 h
 refine smk (f := eU8) (z := (0 : UInt8)) rfl Tryz.underlying33 ei5 (fun _ => rfl) rfl rfl rfl hm1 (by decide) ?_
 refine sv rfl (Ak rfl) (Ar (Aq (Aq (Ab (sv rfl (Ah rfl) (sv rfl (Ad1 Lc rfl rfl (Bf (f := eU8) (fun _ => rfl) _).symm) ?_))))))
 refine sv rfl (Ah rfl) (Ar (G5 ((List UInt8)) (fun b2 => [(0, .s (.one (.sl a0.length (a0.flatMap eU8)))), (7, .s (.one (.ls 0 b2.length)))]) (fun b2 => [.arr 5 1 0 (b2.flatMap eU8)]) (fun b2 => Oi a0 b2 = some r) (fun _ _ => Bg rfl) (fun _ _ => A0 rfl) (fun _ _ => Nbl rfl) (fun b2 h => ?_) ?_))
 ·unfold Oi at h
  refine Aq (Ab (sv rfl (Ah rfl) (sv rfl (Ah rfl) ?_)))
  refine Zf 29 rfl (by (repeat' first | exact J8.nil _ | apply J8.cons | apply Jv.one | apply Jv.agg | exact E4.nil | exact E4.ls _ _ _ _ _ _ rfl (Bf (f := eU8) (fun _ => rfl) _).symm | exact E4.id _ rfl | exact D2.nil _ | apply D2.cons)) ?_
  refine Sp (out := ([a0, b2] : List (List UInt8)).flatMap (eL eU8)) rfl Tryz.underlying124 Anq (Ap rfl (Ap rfl A9)) (.cons _ _ _ _ _ _ _ rfl rfl (Nbl rfl) (.cons _ _ _ _ _ _ _ rfl rfl (Nbl rfl) (.nil _))) rfl (by decide) ?_
  refine Zf 30 rfl (by (repeat' first | exact J8.nil _ | apply J8.cons | apply Jv.one | apply Jv.agg | exact E4.nil | exact E4.ls _ _ _ _ _ _ rfl (Bf (f := (eL eU8)) (fun _ => rfl) ([a0, b2] : List (List UInt8))).symm | exact E4.ls _ _ _ _ _ _ rfl (Bf (f := (eL eU8)) (fun _ => rfl) _).symm | exact E4.ls _ _ _ _ _ _ rfl (Bf (f := eU8) (fun _ => rfl) _).symm | exact E4.id _ rfl | exact D2.nil _ | apply D2.cons)) ?_
  obtain ⟨v3, hv3, h⟩ := An h
  refine C2 (x' := .s (.one (.ls 2 v3.length))) (M' := [.arr 5 1 (b2.flatMap eU8).length (b2.flatMap eU8), .arr 33 1 ([a0, b2].flatMap (eL eU8)).length ([a0, b2].flatMap (eL eU8)), .arr 5 1 0 (v3.flatMap eU8)]) [] rfl Aqg (.func _) (Ac rfl Al) (Ir hv3) rfl rfl (by decide) rfl rfl rfl ?_
  refine sv rfl (Ak rfl) (Ar (Bj ?_))
  obtain rfl := SJ h
  refine ⟨Or.inr rfl, _, _, _, (Ad (Bc.tmp _ _ rfl) Af), (by (repeat' first | exact J8.nil _ | apply J8.cons | apply Jv.one | apply Jv.agg | exact E4.nil | exact E4.ls _ _ _ _ _ _ rfl (Bf (f := (eL eU8)) (fun _ => rfl) _).symm | exact E4.ls _ _ _ _ _ _ rfl (Bf (f := eU8) (fun _ => rfl) _).symm | exact E4.id _ rfl | exact D2.nil _ | apply D2.cons)), ?_⟩
  rfl
 ·skip
  refine Ca ?_
  obtain ⟨x4, hx4, ho4⟩ := An h
  refine De (G := Nat × (Int × (List UInt8))) (fun g => [(0, .s (.one (.sl a0.length (a0.flatMap eU8)))), (1, .s (.one (.i .u64 (a1.toNat : Int)))), (7, .s (.one (.ls 0 g.2.2.length))), (15, .s (.one (Ii6 ((List.replicate (if (if 8 < a2 then 8 else a2) > 0 then (if 8 < a2 then 8 else a2) else 0).toNat (0 : UInt8)).length : Int)))), (16, .s (.one (Ii6 g.2.1)))]) (fun g => [.arr 5 1 0 (g.2.2.flatMap eU8)]) (fun g => Ez (Nj a1 a2) g.1 g.2 = some x4) (fun g => g.1) (fuel, (0, (List.replicate (if (if 8 < a2 then 8 else a2) > 0 then (if 8 < a2 then 8 else a2) else 0).toNat (0 : UInt8)))) hx4 ⟨rfl, rfl, rfl, rfl, rfl, trivial⟩ [] rfl (fun _ _ => Bg rfl) (fun _ _ => A0 rfl) (fun _ _ => Nbl rfl) ?_
  clear hx4 h
  rintro ⟨n4, s4⟩ h
  obtain ⟨n4, y4, rfl, h, hk4⟩ := Gp h
  unfold Nj at h
  refine Aq (Ab (sv rfl (Cs rfl rfl) (Ar (Aq (ccI h rfl (fun h => ?_) (fun h => ?_))))))
  ·refine Bl (Ai (Aq (Ca (Aq (Ab (sv rfl (Ah rfl) (sv rfl (Ak rfl) (Ar (Ab (sv rfl (Ah rfl) (sv rfl (Ah rfl) (sv rfl (Ah rfl) (sv rfl (Ah rfl) (sv rfl (Yg rfl rfl) ?_))))))))))))))
   obtain ⟨hz5, h⟩ := D4 h
   refine sv rfl (Wx (a := a1) rfl rfl rfl hz5) (sv rfl (N6 (k := .u64) (a := (a1 >>> (wI (8 * s4.1)).toNat)) rfl Tryz.underlying112 Tryz.underlying5 rfl rfl) ?_)
   obtain ⟨u6, hu6, h⟩ := An h
   refine sv rfl (Amd (f := eU8) Lc (fun _ => rfl) rfl rfl rfl rfl rfl hu6) ?_
   refine Ar8 (f := eU8) (u' := (UInt8.ofBitVec ((a1 >>> (wI (8 * s4.1)).toNat).setWidth 8))) (sz := 1) 0 sz5 (fun _ => rfl) rfl rfl rfl rfl rfl rfl rfl (List.all_eq_true.1 rfl) (Tc hu6).2 (Nbl rfl) rfl ?_
   refine U6 7 (y := .s (.one (.ls 0 s4.2.length))) (.s (.one (.ls 0 (s4.2.set s4.1.toNat (UInt8.ofBitVec ((a1 >>> (wI (8 * s4.1)).toNat).setWidth 8))).length))) rfl (congrArg (fun n => AV.s (.one (.ls 0 n))) List.length_set.symm) ?_
   refine U6 19 (y := .s (.one (.ls 0 s4.2.length))) (.s (.one (.ls 0 (s4.2.set s4.1.toNat (UInt8.ofBitVec ((a1 >>> (wI (8 * s4.1)).toNat).setWidth 8))).length))) rfl (congrArg (fun n => AV.s (.one (.ls 0 n))) List.length_set.symm) ?_
   refine Ls (A5 (Ai (Ab (sv rfl (B9 rfl rfl) (sv rfl (Ah rfl) (Ar ?_))))))
   obtain rfl := SJ h
   exact ⟨(n4, ((wI (s4.1 + 1)), (s4.2.set s4.1.toNat (UInt8.ofBitVec ((a1 >>> (wI (8 * s4.1)).toNat).setWidth 8))))), _, hk4, ⟨rfl, rfl, rfl, rfl, rfl, trivial⟩, rfl, Nat.lt_succ_self _⟩
  ·refine Lw (Bi (Bi (Ck (Ai ?_))))
   obtain rfl := SJ h
   obtain rfl : _ = x4 := hk4
   exact ⟨s4.2, _, ho4, ⟨rfl, rfl, trivial⟩, rfl⟩
def Pl (a0 : BitVec 32) : Option (BitVec 32) :=
 if (decide (((a0 &&& (1#32)).toNat : Int) = (1 : Int))) then (some ((a0 >>> (1 : Int).toNat) ^^^ (3988292384#32))) else (some (a0 >>> (1 : Int).toNat))
theorem Ww {a0 : BitVec 32} {r : (BitVec 32)} (h : Pl a0 = some r) : Bp Tryz.prog 126 [.one (.i .u32 (a0.toNat : Int))] (· = .s (.one (.i .u32 (r.toNat : Int)))) := by
 unfold Pl at h
 refine A2 Tryz.func126 rfl (nt := 11) rfl (Nbl rfl) ?_
 intro w0 S0
 refine Aq (Ab (sv rfl (Ak rfl) (Ar (Aq (Aq (Ab (sv rfl (Ah rfl) (sv rfl (Aca (a := a0) (b := 1#32) rfl rfl rfl rfl) (sv rfl (Bo rfl rfl) (Ar (ccI h rfl (fun h => ?_) (fun h => ?_))))))))))))
 ·refine Aq (Ab (sv rfl (Ah rfl) ?_))
  refine sv rfl (Su (a := a0) rfl rfl rfl (by decide)) ?_
  refine sv rfl (V0 (a := (a0 >>> (1 : Int).toNat)) (b := 3988292384#32) rfl rfl rfl rfl) (sv rfl (Ak rfl) (Ar (Bj (As ?_))))
  obtain rfl := SJ h
  refine ⟨Or.inr rfl, _, _, _, (Ad (Bc.tmp _ _ rfl) Af), (Aj rfl), ?_⟩
  rfl
 ·refine Bl (Ai (Aq (Ab (sv rfl (Ah rfl) ?_))))
  refine sv rfl (Su (a := a0) rfl rfl rfl (by decide)) ?_
  refine sv rfl (Ak rfl) (Ar (Bj ?_))
  obtain rfl := SJ h
  refine ⟨Or.inr rfl, _, _, _, (Ad (Bc.tmp _ _ rfl) Af), (Aj rfl), ?_⟩
  rfl
def M1 (b1 : (List (BitVec 32))) : Option (List (BitVec 32)) :=
 if b1.length = 256 then (if (List.replicate 256 0#32).length = 256 then (if b1.length = 256 then (if b1.length = 256 then (some b1) else none) else none) else none) else none
def Mv (s5 : Int × (List (BitVec 32))) (b6 : (BitVec 32)) : Option (LB (Int × (List (BitVec 32))) ((List (BitVec 32)))) :=
 if 0 ≤ s5.1 ∧ s5.1 < ((256 : Nat) : Int) then ((idx s5.2 s5.1).bind fun u8 => some (.cont ((wI (s5.1 + 1)), (s5.2.set s5.1.toNat b6)))) else none
def Mx (s9 : (BitVec 32) × Int) : Option (LB ((BitVec 32) × Int) ((BitVec 32))) :=
 if (decide (s9.2 < 8)) then ((Pl s9.1).bind fun v10 => some (.cont (v10, (wI (s9.2 + 1))))) else (some (.brk s9.1))
def M2 (s5 : Int × (List (BitVec 32))) : Option (LB (Int × (List (BitVec 32))) ((List (BitVec 32)))) :=
 if (decide (s5.1 < 256)) then ((Ez Mx fuel ((BitVec.ofInt 32 s5.1), 0)).bind fun e11 => Mv s5 e11) else (some (.brk s5.2))
def M7  : Option (List (BitVec 32)) :=
 (Ez M2 fuel (0, (List.replicate 256 0#32))).bind fun e12 => M1 e12
theorem U8  {r : (List (BitVec 32))} (h : M7 = some r) : Bp Tryz.prog 111 [] (· = .s (.agg (r.flatMap S8))) := by
 unfold M7 at h
 refine A2 Tryz.func111 rfl (nt := 19) rfl (Nbl rfl) ?_
 intro w0 S0
 refine Aq (Ab (Bz rfl Alj (Ar (Aq (Ab (Bz rfl Alj (Ar (Aq (Aq (Ab (sv rfl (Ah rfl) (Ar ?_))))))))))))
 refine G5 ((List (BitVec 32))) (fun b1 => [(0, .s (.one (.lp 0 0))), (1, .s (.one (.lp 1 0)))]) (fun b1 => [.box ((List.replicate 256 0#32).flatMap S8), .box (b1.flatMap S8)]) (fun b1 => M1 b1 = some r) (fun _ _ => Bg rfl) (fun _ _ => A0 (by simp only [List.all_cons, List.all_nil, Blk.inbB, Lf.inbB, Lf.inb0, Bool.and_true, Bool.and_self, Bool.true_and, Rf (f := S8) (fun _ _ => rfl)] <;> rfl)) (fun _ _ => Nbl rfl) (fun b1 h => ?_) ?_
 ·unfold M1 at h
  refine Aq (Ab ?_)
  obtain ⟨hl2, h⟩ := D4 h
  refine sv rfl (Age (f := S8) (n := 256) Apf (fun _ => rfl) rfl rfl rfl hl2) ?_
  obtain ⟨hl3, h⟩ := D4 h
  obtain ⟨hl4, h⟩ := D4 h
  refine Akx (f := S8) (n := 256) Apa (fun _ => rfl) rfl rfl rfl rfl hl3 hl4 ?_
  refine Bt [.box (b1.flatMap S8), .box (b1.flatMap S8)] rfl (Ar (Bj ?_))
  obtain ⟨hlr, h⟩ := D4 h
  obtain rfl := SJ h
  refine ⟨Or.inr rfl, _, _, _, (Ad (Ajt (f := S8) (n := 256) (fun _ => rfl) Apf rfl rfl rfl hlr) Af), (Aj (by simp [List.all_cons, Alc (f := S8) (fun _ => rfl), SV.cells])), ?_⟩
  rfl
 ·skip
  refine Ca ?_
  obtain ⟨x5, hx5, ho5⟩ := An h
  refine De (G := Nat × (Int × (List (BitVec 32)))) (fun g => [(0, .s (.one (.lp 0 0))), (1, .s (.one (.lp 1 0))), (4, .s (.one (Ii6 g.2.1)))]) (fun g => [.box ((List.replicate 256 0#32).flatMap S8), .box (g.2.2.flatMap S8)]) (fun g => Ez M2 g.1 g.2 = some x5) (fun g => g.1) (fuel, (0, (List.replicate 256 0#32))) hx5 ⟨rfl, rfl, rfl, trivial⟩ [] rfl (fun _ _ => Bg rfl) (fun _ _ => A0 (by simp only [List.all_cons, List.all_nil, Blk.inbB, Lf.inbB, Lf.inb0, Bool.and_true, Bool.and_self, Bool.true_and, Rf (f := S8) (fun _ _ => rfl)] <;> rfl)) (fun _ _ => Nbl rfl) ?_
  clear hx5 h
  rintro ⟨n5, s5⟩ h
  obtain ⟨n5, y5, rfl, h, hk5⟩ := Gp h
  unfold M2 at h
  refine Aq (Ab (sv rfl (Cs rfl rfl) (Ar (Aq (ccI h rfl (fun h => ?_) (fun h => ?_))))))
  ·refine Bl (Ai (Aq (Ca (Aq (Ab (sv rfl (Ah rfl) (sv rfl (Ak rfl) (Ar (Aq (Ab (sv rfl (Ah rfl) (sv rfl (C3 rfl Tryz.underlying3 Tryz.underlying117 rfl) (sv rfl (Ak rfl) (Ar (Aq (Aq (Ab (sv rfl (Ah rfl) (Ar ?_)))))))))))))))))))
   refine G5 ((BitVec 32)) (fun b6 => [(0, .s (.one (.lp 0 0))), (1, .s (.one (.lp 1 0))), (2, .s (.one (Ii6 s5.1))), (3, .s (.one (.i .u32 (b6.toNat : Int)))), (4, .s (.one (Ii6 s5.1)))]) (fun b6 => [.box ((List.replicate 256 0#32).flatMap S8), .box (s5.2.flatMap S8)]) (fun b6 => Mv s5 b6 = some y5) (fun _ _ => Bg rfl) (fun _ _ => A0 (by simp only [List.all_cons, List.all_nil, Blk.inbB, Lf.inbB, Lf.inb0, Bool.and_true, Bool.and_self, Bool.true_and, Rf (f := S8) (fun _ _ => rfl)] <;> rfl)) (fun _ _ => Nbl rfl) (fun b6 h => ?_) ?_
   ·unfold Mv at h
    refine Ab (sv rfl (Ah rfl) (sv rfl (Ah rfl) ?_))
    obtain ⟨hj7, h⟩ := D4 h
    obtain ⟨u8, hu8, h⟩ := An h
    refine sv rfl (Acv An3 rfl rfl hj7) (Arl (f := S8) (u' := b6) 0 Ap3 (fun _ => rfl) rfl rfl rfl rfl rfl (Tc hu8).2 (Nbl rfl) rfl ?_)
    refine Bt [.box ((List.replicate 256 0#32).flatMap S8), .box ((s5.2.set s5.1.toNat b6).flatMap S8)] rfl (Ls (A5 (Ai (Ab (sv rfl (B9 rfl rfl) (sv rfl (Ah rfl) (Ar ?_)))))))
    obtain rfl := SJ h
    exact ⟨(n5, ((wI (s5.1 + 1)), (s5.2.set s5.1.toNat b6))), _, hk5, ⟨rfl, rfl, rfl, trivial⟩, rfl, Nat.lt_succ_self _⟩
   ·skip
    refine Ca ?_
    obtain ⟨x9, hx9, ho9⟩ := An h
    refine De (G := Nat × ((BitVec 32) × Int)) (fun g => [(0, .s (.one (.lp 0 0))), (1, .s (.one (.lp 1 0))), (2, .s (.one (Ii6 s5.1))), (3, .s (.one (.i .u32 (g.2.1.toNat : Int)))), (4, .s (.one (Ii6 s5.1))), (9, .s (.one (Ii6 g.2.2)))]) (fun g => [.box ((List.replicate 256 0#32).flatMap S8), .box (s5.2.flatMap S8)]) (fun g => Ez Mx g.1 g.2 = some x9) (fun g => g.1) (fuel, ((BitVec.ofInt 32 s5.1), 0)) hx9 ⟨rfl, rfl, rfl, rfl, rfl, rfl, trivial⟩ [] rfl (fun _ _ => Bg rfl) (fun _ _ => A0 (by simp only [List.all_cons, List.all_nil, Blk.inbB, Lf.inbB, Lf.inb0, Bool.and_true, Bool.and_self, Bool.true_and, Rf (f := S8) (fun _ _ => rfl)] <;> rfl)) (fun _ _ => Nbl rfl) ?_
    clear hx9 h
    rintro ⟨n9, s9⟩ h
    obtain ⟨n9, y9, rfl, h, hk9⟩ := Gp h
    unfold Mx at h
    refine Aq (Ab (sv rfl (Cs rfl rfl) (Ar (Aq (ccI h rfl (fun h => ?_) (fun h => ?_))))))
    ·refine Bl (Ai (Aq (Ca (Ab (sv rfl (Ah rfl) ?_)))))
     obtain ⟨v10, hv10, h⟩ := An h
     refine A1 rfl Arw (Ac rfl Al) (Aj rfl) (Ww hv10) (sv rfl (Ak rfl) (Ls (A5 (Ai (Ab (sv rfl (B9 rfl rfl) (sv rfl (Ah rfl) (Ar ?_))))))))
     obtain rfl := SJ h
     exact ⟨(n9, (v10, (wI (s9.2 + 1)))), _, hk9, ⟨rfl, rfl, rfl, rfl, rfl, rfl, trivial⟩, rfl, Nat.lt_succ_self _⟩
    ·refine Lw (Bi (Bi (Ck (Ai ?_))))
     obtain rfl := SJ h
     obtain rfl : _ = x9 := hk9
     exact ⟨s9.1, _, ho9, ⟨rfl, rfl, rfl, rfl, rfl, trivial⟩, rfl⟩
  ·refine Lw (Bi (Bi (Ck (Ai ?_))))
   obtain rfl := SJ h
   obtain rfl : _ = x5 := hk5
   exact ⟨s5.2, _, ho5, ⟨rfl, rfl, trivial⟩, rfl⟩
def N3 (b4 : (BitVec 32)) : Option (BitVec 32) :=
 some (~~~b4)
def I7 (a1 : List UInt8) (v1 : (List (BitVec 32))) (s5 : (BitVec 32) × Int) : Option (LB ((BitVec 32) × Int) ((BitVec 32))) :=
 if (decide (s5.2 < (a1.length : Int))) then ((idx a1 s5.2).bind fun u6 => if 0 ≤ (((s5.1.setWidth 8) ^^^ u6.toBitVec).toNat : Int) ∧ (((s5.1.setWidth 8) ^^^ u6.toBitVec).toNat : Int) < ((256 : Nat) : Int) then ((idx v1 (((s5.1.setWidth 8) ^^^ u6.toBitVec).toNat : Int)).bind fun u8 => some (.cont (((s5.1 >>> (8 : Int).toNat) ^^^ u8), (wI (s5.2 + 1))))) else none) else (some (.brk s5.1))
def Md (a0 : BitVec 32) (a1 : List UInt8) : Option (BitVec 32) :=
 (M7).bind fun v1 => if (List.replicate 256 0#32).length = 256 then (if v1.length = 256 then ((Ez (I7 a1 v1) fuel ((~~~a0), 0)).bind fun e9 => N3 e9) else none) else none
theorem Sd {a0 : BitVec 32} {a1 : List UInt8} {r : (BitVec 32)} (h : Md a0 a1 = some r) : Bp Tryz.prog 90 [.one (.i .u32 (a0.toNat : Int)), .one (.sl a1.length (a1.flatMap eU8))] (· = .s (.one (.i .u32 (r.toNat : Int)))) := by
 unfold Md at h
 refine A2 Tryz.func90 rfl (nt := 29) rfl (Nbl rfl) ?_
 intro w0 S0
 refine Aq (Ab (sv rfl (Ak rfl) (Ar (Aq (Ab ?_)))))
 obtain ⟨v1, hv1, h⟩ := An h
 refine A1 rfl Ary Al (Aj rfl) (U8 hv1) (Bz rfl Alj ?_)
 obtain ⟨hl2, h⟩ := D4 h
 obtain ⟨hl3, h⟩ := D4 h
 refine Akx (f := S8) (n := 256) Apa (fun _ => rfl) rfl rfl rfl rfl hl2 hl3 ?_
 refine Bt [.box (v1.flatMap S8)] rfl (Ar (Aq (Ab (sv rfl (Ah rfl) (sv rfl (Tb (a := a0) rfl rfl) (sv rfl (Ak rfl) (Ar (Aq (Aq (Ab (sv rfl (Ah rfl) (sv rfl (Az Lc rfl) (sv rfl (Ah rfl) (Ar ?_))))))))))))))
 refine G5 ((BitVec 32)) (fun b4 => [(0, .s (.one (.i .u32 (b4.toNat : Int))))]) (fun b4 => [.box (v1.flatMap S8)]) (fun b4 => N3 b4 = some r) (fun _ _ => Bg rfl) (fun _ _ => A0 (by simp only [List.all_cons, List.all_nil, Blk.inbB, Lf.inbB, Lf.inb0, Bool.and_true, Bool.and_self, Bool.true_and, Rf (f := S8) (fun _ _ => rfl)] <;> rfl)) (fun _ _ => Nbl rfl) (fun b4 h => ?_) ?_
 ·unfold N3 at h
  refine Aq (Ab (sv rfl (Ah rfl) (sv rfl (Tb (a := b4) rfl rfl) (sv rfl (Ak rfl) (Ar (Bj ?_))))))
  obtain rfl := SJ h
  refine ⟨Or.inr rfl, _, _, _, (Ad (Bc.tmp _ _ rfl) Af), (Aj rfl), ?_⟩
  rfl
 ·skip
  refine Ca ?_
  obtain ⟨x5, hx5, ho5⟩ := An h
  refine De (G := Nat × ((BitVec 32) × Int)) (fun g => [(0, .s (.one (.i .u32 (g.2.1.toNat : Int)))), (5, .s (.one (.lp 0 0))), (11, .s (.one (.sl a1.length (a1.flatMap eU8)))), (12, .s (.one (Ii6 (a1.length : Int)))), (13, .s (.one (Ii6 g.2.2)))]) (fun g => [.box (v1.flatMap S8)]) (fun g => Ez (I7 a1 v1) g.1 g.2 = some x5) (fun g => g.1) (fuel, ((~~~a0), 0)) hx5 ⟨rfl, rfl, rfl, rfl, rfl, trivial⟩ [] rfl (fun _ _ => Bg rfl) (fun _ _ => A0 (by simp only [List.all_cons, List.all_nil, Blk.inbB, Lf.inbB, Lf.inb0, Bool.and_true, Bool.and_self, Bool.true_and, Rf (f := S8) (fun _ _ => rfl)] <;> rfl)) (fun _ _ => Nbl rfl) ?_
  clear hx5 h
  rintro ⟨n5, s5⟩ h
  obtain ⟨n5, y5, rfl, h, hk5⟩ := Gp h
  unfold I7 at h
  refine Aq (Ab (sv rfl (Cs rfl rfl) (Ar (Aq (ccI h rfl (fun h => ?_) (fun h => ?_))))))
  ·refine Bl (Ai (Aq (Ca (Aq (Ab ?_)))))
   obtain ⟨u6, hu6, h⟩ := An h
   refine sv rfl (Fm (f := eU8) Lc (fun _ => rfl) rfl rfl rfl rfl hu6) ?_
   refine sv rfl (Ae ti5 rfl (.cp _) rfl) (sv rfl (Ak rfl) (Ar (Ab (sv rfl (Ah rfl) ?_))))
   refine sv rfl (Su (a := s5.1) rfl rfl rfl (by decide)) ?_
   refine sv rfl (Ah rfl) (sv rfl (N6 (k := .u32) (a := s5.1) rfl Tryz.underlying117 Tryz.underlying5 rfl rfl) (sv rfl (Ah rfl) (sv rfl (Ad3 (a := (s5.1.setWidth 8)) (b := u6.toBitVec) rfl rfl rfl rfl) ?_)))
   obtain ⟨hj7, h⟩ := D4 h
   obtain ⟨u8, hu8, h⟩ := An h
   refine sv rfl (Acv An3 rfl rfl hj7) (sv rfl (Ajx (f := S8) 0 Alk (fun _ => rfl) rfl rfl rfl (Tc hu8).2 rfl) ?_)
   refine sv rfl (V0 (a := (s5.1 >>> (8 : Int).toNat)) (b := u8) rfl rfl rfl rfl) (sv rfl (Ak rfl) (Ls (A5 (Ai (Ab (sv rfl (B9 rfl rfl) (sv rfl (Ah rfl) (Ar ?_))))))))
   obtain rfl := SJ h
   exact ⟨(n5, (((s5.1 >>> (8 : Int).toNat) ^^^ u8), (wI (s5.2 + 1)))), _, hk5, ⟨rfl, rfl, rfl, rfl, rfl, trivial⟩, rfl, Nat.lt_succ_self _⟩
  ·refine Lw (Bi (Bi (Ck (Ai ?_))))
   obtain rfl := SJ h
   obtain rfl : _ = x5 := hk5
   exact ⟨s5.1, _, ho5, ⟨rfl, trivial⟩, rfl⟩
def Pb (a0 : List UInt8) : Option (BitVec 32) :=
 (Md (0#32) a0).bind fun v1 => some v1
theorem Zp {a0 : List UInt8} {r : (BitVec 32)} (h : Pb a0 = some r) : Bp Tryz.prog 91 [.one (.sl a0.length (a0.flatMap eU8))] (· = .s (.one (.i .u32 (r.toNat : Int)))) := by
 unfold Pb at h
 refine A2 Tryz.func91 rfl (nt := 5) rfl (Nbl rfl) ?_
 intro w0 S0
 refine Aq (Ab (sv rfl (Ak rfl) (Ar (Aq (Ab (sv rfl (Ah rfl) ?_))))))
 obtain ⟨v1, hv1, h⟩ := An h
 refine A1 rfl Atm (Ac rfl (Ac rfl Al)) (Aj rfl) (Sd hv1) (sv rfl (Ak rfl) (Ar (Bj ?_)))
 obtain rfl := SJ h
 refine ⟨Or.inr rfl, _, _, _, (Ad (Bc.tmp _ _ rfl) Af), (Aj rfl), ?_⟩
 rfl
def I5 (a0 : List UInt8) : Option (BitVec 32) :=
 (Eg ([] : List UInt8) (BitVec.ofInt 64 (a0.length : Int)) 2).bind fun v1 => (Pb v1).bind fun v2 => (Md v2 a0).bind fun v3 => some v3
theorem Pj {a0 : List UInt8} {r : (BitVec 32)} (h : I5 a0 = some r) : Bp Tryz.prog 74 [.one (.sl a0.length (a0.flatMap eU8))] (· = .s (.one (.i .u32 (r.toNat : Int)))) := by
 unfold I5 at h
 refine A2 Tryz.func74 rfl (nt := 12) rfl (Nbl rfl) ?_
 intro w0 S0
 refine Aq (Ab (sv rfl (Ak rfl) (Ar (Aq (Ab (sv rfl (Ah rfl) (sv rfl (Az Lc rfl) (sv rfl (C3 rfl Tryz.underlying3 Tryz.underlying112 rfl) ?_))))))))
 obtain ⟨v1, hv1, h⟩ := An h
 refine A1 rfl Aa1 (Ac rfl (Ac rfl (Ac rfl Al))) (Nl rfl) (Ej hv1) (sv rfl (Ak rfl) (Ar (Aq (Ab (sv rfl (Ah rfl) ?_)))))
 obtain ⟨v2, hv2, h⟩ := An h
 refine A1 rfl Avt (Ac rfl Al) (Aj rfl) (Zp hv2) (sv rfl (Ah rfl) ?_)
 obtain ⟨v3, hv3, h⟩ := An h
 refine A1 rfl Atm (Ac rfl (Ac rfl Al)) (Aj rfl) (Sd hv3) (sv rfl (Ak rfl) (Ar (Bj ?_)))
 obtain rfl := SJ h
 refine ⟨Or.inr rfl, _, _, _, (Ad (Bc.tmp _ _ rfl) Af), (Aj rfl), ?_⟩
 rfl
def K0 (a0 : List UInt8) (v2 : (BitVec 64) × Int × Int) (v3 : (BitVec 64) × Int × Int) (b4 : Unit) : Option (Gj × Int) :=
 (cut a0 6 (wI (6 + (wI (v2.1.toNat : Int))))).bind fun c5 => (I5 c5).bind fun v6 => if (!decide (((v3.1.setWidth 32).toNat : Int) = (v6.toNat : Int))) then (some ((Gj.mk (K5.mk 0 (0#32)) ([] : List UInt8)), 4)) else (some ((Gj.mk (K5.mk (wI (v2.1.toNat : Int)) (v3.1.setWidth 32)) c5), 0))
def Ly (a0 : List UInt8) : Option (Gj × Int) :=
 (Jg a0).bind fun v1 => (A3 2 v1.1 v1.2.1 v1.2.2).bind fun v2 => if (decide (512 < (wI (v2.1.toNat : Int)))) then (some ((Gj.mk (K5.mk 0 (0#32)) ([] : List UInt8)), 5)) else ((A3 4 v2.2.1 v2.2.2 v1.2.2).bind fun v3 => (Br v3.2.1 v3.2.2 v1.2.2).bind fun v7 => if (!decide (v7 = 0)) then (some ((Gj.mk (K5.mk 0 (0#32)) ([] : List UInt8)), 2)) else (if (decide ((a0.length : Int) < (wI (6 + (wI (v2.1.toNat : Int)))))) then (some ((Gj.mk (K5.mk 0 (0#32)) ([] : List UInt8)), 2)) else (K0 a0 v2 v3 ())))
theorem Vh {a0 : List UInt8} {r : Gj × Int} (h : Ly a0 = some r) : Bp Tryz.prog 84 [.one (.sl a0.length (a0.flatMap eU8))] (· = .tup [.agg (EL.el r.1), .one (Ii6 r.2)]) := by
 unfold Ly at h
 refine A2 Tryz.func84 rfl (nt := 53) rfl (Nbl rfl) ?_
 intro w0 S0
 refine Aq (Ab (Bz rfl Wg (sv rfl (Ak rfl) (Ar (Aq (Ab (sv rfl (Ah rfl) ?_)))))))
 obtain ⟨v1, hv1, h⟩ := An h
 refine C2 (x' := .s (.one (.lp 1 0))) (M' := [.box [Ii6 0, .i .u32 ((0#32).toNat : Int), Znl], .box [.fn 112 [] [.lp 2 0, .lp 3 0], Ii6 v1.1], .box [Ii6 v1.2.1], .box [.sl v1.2.2.length (v1.2.2.flatMap eU8)]]) [] rfl Asg (.func _) (Ac rfl Al) (Oy hv1) rfl rfl (by decide) rfl rfl rfl ?_
 refine sv rfl (Ak rfl) (Ar (Aq (Ab (sv rfl (Bk Wg Adn A9 (.nil _)) (Bz rfl Wg (Ax Ya rfl rfl rfl rfl (Nbl rfl) (Bt [.box [Ii6 0, .i .u32 ((0#32).toNat : Int), Znl], .box [.fn 112 [] [.lp 2 0, .lp 3 0], Ii6 v1.1], .box [Ii6 v1.2.1], .box [.sl v1.2.2.length (v1.2.2.flatMap eU8)], .box [Ii6 0, .i .u32 ((0#32).toNat : Int), Znl]] rfl (Ar (Aq (Ab (sv rfl (Ah rfl) ?_)))))))))))
 obtain ⟨v2, hv2, h⟩ := An h
 refine C2 (x' := .s (.one (.i .u64 (v2.1.toNat : Int)))) (M' := [.box [Ii6 0, .i .u32 ((0#32).toNat : Int), Znl], .box [.fn 112 [] [.lp 2 0, .lp 3 0], Ii6 v2.2.1], .box [Ii6 v2.2.2], .box [.sl v1.2.2.length (v1.2.2.flatMap eU8)], .box [Ii6 0, .i .u32 ((0#32).toNat : Int), Znl]]) [1, 2, 3] rfl Ah4 (.func _) (Ac rfl (Ac rfl Al)) (Cx hv2) rfl rfl (by decide) rfl rfl rfl ?_
 refine sv rfl (Fx Tryz.underlying112 Tryz.underlying3 rfl) (sv rfl (Aa Pp rfl) (sv rfl (Aa T5 rfl) (Ax sz3 rfl rfl rfl rfl (Nbl rfl) (Bt [.box [Ii6 0, .i .u32 ((0#32).toNat : Int), Znl], .box [.fn 112 [] [.lp 2 0, .lp 3 0], Ii6 v2.2.1], .box [Ii6 v2.2.2], .box [.sl v1.2.2.length (v1.2.2.flatMap eU8)], .box [Ii6 (wI (v2.1.toNat : Int)), .i .u32 ((0#32).toNat : Int), Znl]] rfl (Ar (Aq (Aq (Ab (sv rfl (Aa Pp rfl) (sv rfl (Aa T5 rfl) (sv rfl (Ae ti3 rfl (.lp _ _ _ rfl) rfl) (sv rfl (Dg rfl rfl) (Ar (ccI h rfl (fun h => ?_) (fun h => ?_)))))))))))))))
 ·refine Aq (Ab (sv rfl (Bk Wg Adn A9 (.nil _)) (Ax Ya rfl rfl rfl rfl (Nbl rfl) (Bt [.box [Ii6 0, .i .u32 ((0#32).toNat : Int), Znl], .box [.fn 112 [] [.lp 2 0, .lp 3 0], Ii6 v2.2.1], .box [Ii6 v2.2.2], .box [.sl v1.2.2.length (v1.2.2.flatMap eU8)], .box [Ii6 (wI (v2.1.toNat : Int)), .i .u32 ((0#32).toNat : Int), Znl]] rfl (sv rfl (Ak rfl) (Ar (Bj (As ?_))))))))
  obtain rfl := SJ h
  refine ⟨Or.inr rfl, _, _, _, (Ad (Bc.agg _ _ _ _ _ Acj rfl (.lp _ _ _ rfl) (Nbl rfl)) (Ad (Bc.tmp _ _ rfl) Af)), (Nl rfl), ?_⟩
  rfl
 ·refine Bl (Ai (Aq (Ab (sv rfl (Ah rfl) ?_))))
  obtain ⟨v3, hv3, h⟩ := An h
  refine C2 (x' := .s (.one (.i .u64 (v3.1.toNat : Int)))) (M' := [.box [Ii6 0, .i .u32 ((0#32).toNat : Int), Znl], .box [.fn 112 [] [.lp 2 0, .lp 3 0], Ii6 v3.2.1], .box [Ii6 v3.2.2], .box [.sl v1.2.2.length (v1.2.2.flatMap eU8)], .box [Ii6 (wI (v2.1.toNat : Int)), .i .u32 ((0#32).toNat : Int), Znl]]) [1, 2, 3] rfl Ah4 (.func _) (Ac rfl (Ac rfl Al)) (Cx hv3) rfl rfl (by decide) rfl rfl rfl ?_
  refine sv rfl (N6 (k := .u64) (a := v3.1) rfl Tryz.underlying112 Tryz.underlying117 rfl rfl) (sv rfl (Aa Pp rfl) (sv rfl (Aa Aa9 rfl) (Ax Ap3 rfl rfl rfl rfl (Nbl rfl) (Bt [.box [Ii6 0, .i .u32 ((0#32).toNat : Int), Znl], .box [.fn 112 [] [.lp 2 0, .lp 3 0], Ii6 v3.2.1], .box [Ii6 v3.2.2], .box [.sl v1.2.2.length (v1.2.2.flatMap eU8)], .box [Ii6 (wI (v2.1.toNat : Int)), .i .u32 ((v3.1.setWidth 32).toNat : Int), Znl]] rfl (Ar (Aq (Aq (Ki (Unit) (fun b4 => [(0, .s (.one (.sl a0.length (a0.flatMap eU8)))), (2, .s (.one (.lp 0 0))), (5, .s (.one (.lp 4 0)))]) (fun b4 => [.box [Ii6 0, .i .u32 ((0#32).toNat : Int), Znl], .box [.fn 112 [] [.lp 2 0, .lp 3 0], Ii6 v3.2.1], .box [Ii6 v3.2.2], .box [.sl v1.2.2.length (v1.2.2.flatMap eU8)], .box [Ii6 (wI (v2.1.toNat : Int)), .i .u32 ((v3.1.setWidth 32).toNat : Int), Znl]]) (fun b4 => K0 a0 v2 v3 b4 = some r) (fun _ _ => Bg rfl) (fun _ _ => A0 rfl) (fun _ _ => Nbl rfl) (fun b4 h => ?_) ?_))))))))
  ·unfold K0 at h
   refine Aq (Ab (sv rfl (Ah rfl) (sv rfl (Aa Pp rfl) (sv rfl (Aa T5 rfl) (sv rfl (Ae ti3 rfl (.lp _ _ _ rfl) rfl) (sv rfl (B9 rfl rfl) ?_))))))
   obtain ⟨c5, hc5, h⟩ := An h
   refine sv rfl (Sw (f := eU8) (lo := 6) (hi := (wI (6 + (wI (v2.1.toNat : Int))))) Lc (fun _ => rfl) rfl rfl rfl (Hs rfl (Kp hc5).1.1) (Hs rfl (Int.le_trans (Kp hc5).1.1 (Kp hc5).1.2.1)) hc5) ?_
   refine sv rfl (Aa Yf rfl) (Ax Apr rfl rfl rfl rfl (Nbl rfl) (Bt [.box [Ii6 0, .i .u32 ((0#32).toNat : Int), Znl], .box [.fn 112 [] [.lp 2 0, .lp 3 0], Ii6 v3.2.1], .box [Ii6 v3.2.2], .box [.sl v1.2.2.length (v1.2.2.flatMap eU8)], .box [Ii6 (wI (v2.1.toNat : Int)), .i .u32 ((v3.1.setWidth 32).toNat : Int), .sl c5.length (c5.flatMap eU8)]] rfl (Ar (Aq (Aq ?_)))))
   refine Afn Lz (by kernel_rfl) ?_
   refine dv rfl (Aa Pp rfl) (dv rfl (Aa Aa9 rfl) (dv rfl (Ae Alk rfl (.lp _ _ _ rfl) rfl) (dv rfl (Aa Yf rfl) (dv rfl (Ae L2 rfl (.lp _ _ _ rfl) rfl) ?_))))
   obtain ⟨v6, hv6, h⟩ := An h
   refine dd rfl (Dy Atq (Ac rfl Al) rfl (Pj hv6)) (dv rfl (Cd rfl rfl) (Agx (Ai (ccI h rfl (fun h => ?_) (fun h => ?_)))))
   ·refine Aq (Ab (sv rfl (Bk Wg Adn A9 (.nil _)) (Ax Ya rfl rfl rfl rfl (Nbl rfl) (Bt [.box [Ii6 0, .i .u32 ((0#32).toNat : Int), Znl], .box [.fn 112 [] [.lp 2 0, .lp 3 0], Ii6 v3.2.1], .box [Ii6 v3.2.2], .box [.sl v1.2.2.length (v1.2.2.flatMap eU8)], .box [Ii6 (wI (v2.1.toNat : Int)), .i .u32 ((v3.1.setWidth 32).toNat : Int), .sl c5.length (c5.flatMap eU8)]] rfl (sv rfl (Ak rfl) (Ar (Bj (As ?_))))))))
    obtain rfl := SJ h
    refine ⟨Or.inr rfl, _, _, _, (Ad (Bc.agg _ _ _ _ _ Acj rfl (.lp _ _ _ rfl) (Nbl rfl)) (Ad (Bc.tmp _ _ rfl) Af)), (Nl rfl), ?_⟩
    rfl
   ·refine Bl (Ai (Aq (Ab (sv rfl (Ao Acj rfl (.lp _ _ _ rfl) (Nbl rfl)) (Ax Ya rfl rfl rfl rfl (Nbl rfl) (Bt [.box [Ii6 (wI (v2.1.toNat : Int)), .i .u32 ((v3.1.setWidth 32).toNat : Int), .sl c5.length (c5.flatMap eU8)], .box [.fn 112 [] [.lp 2 0, .lp 3 0], Ii6 v3.2.1], .box [Ii6 v3.2.2], .box [.sl v1.2.2.length (v1.2.2.flatMap eU8)], .box [Ii6 (wI (v2.1.toNat : Int)), .i .u32 ((v3.1.setWidth 32).toNat : Int), .sl c5.length (c5.flatMap eU8)]] rfl (sv rfl (Ak rfl) (Ar (Bj ?_)))))))))
    obtain rfl := SJ h
    refine ⟨Or.inr rfl, _, _, _, (Ad (Bc.agg _ _ _ _ _ Acj rfl (.lp _ _ _ rfl) (Nbl rfl)) (Ad (Bc.tmp _ _ rfl) Af)), (Aj rfl), ?_⟩
    rfl
  ·skip
   refine Ab (sv rfl (Ah rfl) ?_)
   obtain ⟨v7, hv7, h⟩ := An h
   refine C2 (x' := .s (.one (Ii6 v7))) (M' := [.box [Ii6 0, .i .u32 ((0#32).toNat : Int), Znl], .box [.fn 112 [] [.lp 2 0, .lp 3 0], Ii6 v3.2.1], .box [Ii6 v3.2.2], .box [.sl v1.2.2.length (v1.2.2.flatMap eU8)], .box [Ii6 (wI (v2.1.toNat : Int)), .i .u32 ((v3.1.setWidth 32).toNat : Int), Znl]]) [1, 2, 3] rfl Ai8 (.func _) (Ac rfl Al) (H8 hv7) rfl rfl (by decide) rfl rfl rfl ?_
   refine sv rfl (Cd rfl rfl) (sv rfl (Ah rfl) (Bq 27 rfl (fun hc => ?_) (fun hc => ?_)))
   ·replace h := B1 hc h
    clear hc
    refine Aw rfl rfl rfl rfl (Aw rfl rfl rfl rfl (Aw rfl rfl rfl rfl (Aw rfl rfl rfl rfl (Aw rfl rfl rfl rfl (Aw rfl rfl rfl rfl (Aw rfl rfl rfl rfl (sv rfl (Au rfl rfl) (Ar (Hy rfl (fun _ => ?_) (fun hx => Bool.noConfusion hx))))))))))
    refine Aq (Ab (sv rfl (Bk Wg Adn A9 (.nil _)) (Ax Ya rfl rfl rfl rfl (Nbl rfl) (Bt [.box [Ii6 0, .i .u32 ((0#32).toNat : Int), Znl], .box [.fn 112 [] [.lp 2 0, .lp 3 0], Ii6 v3.2.1], .box [Ii6 v3.2.2], .box [.sl v1.2.2.length (v1.2.2.flatMap eU8)], .box [Ii6 (wI (v2.1.toNat : Int)), .i .u32 ((v3.1.setWidth 32).toNat : Int), Znl]] rfl (sv rfl (Ak rfl) (Ar (Bj (As ?_))))))))
    obtain rfl := SJ h
    refine ⟨Or.inr rfl, _, _, _, (Ad (Bc.agg _ _ _ _ _ Acj rfl (.lp _ _ _ rfl) (Nbl rfl)) (Ad (Bc.tmp _ _ rfl) Af)), (Nl rfl), ?_⟩
    rfl
   ·replace h := B0 hc h
    clear hc
    refine son rfl rfl rfl (sv rfl (Ah rfl) (son rfl rfl rfl (sv rfl (Az Lc rfl) (son rfl rfl rfl (sv rfl (Aa Pp rfl) (son rfl rfl rfl (sv rfl (Aa T5 rfl) (son rfl rfl rfl (sv rfl (Ae ti3 rfl (.lp _ _ _ rfl) rfl) (son rfl rfl rfl (sv rfl (B9 rfl rfl) (son rfl rfl rfl (sv rfl (Cs rfl rfl) (sv rfl (Am rfl rfl) (Ar (ccI h rfl (fun h => ?_) (fun h => ?_)))))))))))))))))
    ·refine Aq (Ab (sv rfl (Bk Wg Adn A9 (.nil _)) (Ax Ya rfl rfl rfl rfl (Nbl rfl) (Bt [.box [Ii6 0, .i .u32 ((0#32).toNat : Int), Znl], .box [.fn 112 [] [.lp 2 0, .lp 3 0], Ii6 v3.2.1], .box [Ii6 v3.2.2], .box [.sl v1.2.2.length (v1.2.2.flatMap eU8)], .box [Ii6 (wI (v2.1.toNat : Int)), .i .u32 ((v3.1.setWidth 32).toNat : Int), Znl]] rfl (sv rfl (Ak rfl) (Ar (Bj (As ?_))))))))
     obtain rfl := SJ h
     refine ⟨Or.inr rfl, _, _, _, (Ad (Bc.agg _ _ _ _ _ Acj rfl (.lp _ _ _ rfl) (Nbl rfl)) (Ad (Bc.tmp _ _ rfl) Af)), (Nl rfl), ?_⟩
     rfl
    ·refine Bl (Ai ?_)
     exact ⟨(), _, h, ⟨rfl, rfl, rfl, trivial⟩, rfl⟩
def J1 (a0 : List UInt8) : Option (List UInt8) :=
 if (([] : List UInt8).length + a0.length) * 1 ≤ 140737488355328 then (some (([] : List UInt8) ++ a0)) else none
theorem Tz {a0 : List UInt8} {r : (List UInt8)} (h : J1 a0 = some r) : Bp Tryz.prog 85 [.one (.sl a0.length (a0.flatMap eU8))] (· = .s (.one (.sl r.length (r.flatMap eU8)))) := by
 unfold J1 at h
 refine A2 Tryz.func85 rfl (nt := 8) rfl (Nbl rfl) ?_
 intro w0 S0
 refine Aq (Ab (sv rfl (Ak rfl) (Ar (Aq (Aq (Ab (sv rfl (Ah rfl) (Amh rfl Tryz.underlying33 rfl (fun nq hnq => ?_)))))))))
 cases nq
 ·skip
  refine Ar (Hy rfl (fun hx => Bool.noConfusion hx) (fun _ => ?_))
  refine Bl (Ai (Aq (Ab (Abt rfl Tryz.underlying33 ei5 (sv rfl (Ah rfl) ?_)))))
  obtain ⟨hb1, h⟩ := D4 h
  refine Ah2 (f := eU8) (xs := ([] : List UInt8)) (us := a0) rfl Tryz.underlying33 ei5 Arq (fun _ => rfl) rfl rfl (.one _ _ _ _ (.id _ rfl)) rfl rfl rfl (.sl _ _ _ (Bf (f := eU8) (fun _ => rfl) _)) rfl rfl hb1 (by decide) ?_
  refine sv rfl (Ak rfl) (Ar (Bj ?_))
  obtain rfl := SJ h
  refine ⟨Or.inr rfl, _, _, _, (Ad (Bc.tmp _ _ rfl) Af), (by (repeat' first | exact J8.nil _ | apply J8.cons | apply Jv.one | apply Jv.agg | exact E4.nil | exact E4.ls _ _ _ _ _ _ rfl (Bf (f := eU8) (fun _ => rfl) _).symm | exact E4.id _ rfl | exact D2.nil _ | apply D2.cons)), ?_⟩
  rfl
 ·obtain rfl := List.eq_nil_of_length_eq_zero (hnq rfl)
  replace h : (some ([] : List UInt8)) = some r := by first | exact h | (rw [if_pos (by decide)] at h; exact h)
  refine Ar (Hy rfl (fun _ => ?_) (fun hx => Bool.noConfusion hx))
  refine Aq (Ab (sv rfl (Ak rfl) (Ar (Bj (As ?_)))))
  obtain rfl := SJ h
  refine ⟨Or.inr rfl, _, _, _, (Ad (Bc.tmp _ _ rfl) Af), (Nl rfl), ?_⟩
  rfl
def Kz (a0 : List UInt8) (a1 : Int) (b1 : Unit) : Option ((List UInt8) × Int × Int) :=
 (cut a0 a1 (a0.length : Int)).bind fun c2 => (Ly c2).bind fun v3 => if (!decide (v3.2 = 0)) then (some (([] : List UInt8), 0, v3.2)) else ((J1 v3.1.payload_).bind fun v4 => some (v4, (wI ((wI (a1 + 6)) + v3.1.head_.size_)), 0))
def J6 (a0 : List UInt8) (a1 : Int) : Option ((List UInt8) × Int × Int) :=
 if (decide (a1 < 0)) then (some (([] : List UInt8), 0, 1)) else (if (decide ((a0.length : Int) < a1)) then (some (([] : List UInt8), 0, 1)) else (Kz a0 a1 ()))
theorem Px {a0 : List UInt8} {a1 : Int} {r : (List UInt8) × Int × Int} (h : J6 a0 a1 = some r) : Bp Tryz.prog 66 [.one (.sl a0.length (a0.flatMap eU8)), .one (Ii6 a1)] (· = .tup [.one (.sl r.1.length (r.1.flatMap eU8)), .one (Ii6 r.2.1), .one (Ii6 r.2.2)]) := by
 unfold J6 at h
 refine A2 Tryz.func66 rfl (nt := 36) rfl (Nbl rfl) ?_
 intro w0 S0
 refine Aq (Ab (sv rfl (Ak rfl) (sv rfl (Ak rfl) (sv rfl (Ak rfl) (Ar (Aq (Aq (Ki (Unit) (fun b1 => [(0, .s (.one (.sl a0.length (a0.flatMap eU8)))), (1, .s (.one (Ii6 a1)))]) (fun b1 => []) (fun b1 => Kz a0 a1 b1 = some r) (fun _ _ => Bg rfl) (fun _ _ => A0 rfl) (fun _ _ => Nbl rfl) (fun b1 h => ?_) ?_))))))))
 ·unfold Kz at h
  refine Aq (Ab (sv rfl (Ah rfl) (sv rfl (Ah rfl) ?_)))
  obtain ⟨c2, hc2, h⟩ := An h
  refine sv rfl (Sw (f := eU8) (lo := a1) (hi := (a0.length : Int)) Lc (fun _ => rfl) rfl rfl rfl (Hs rfl (Kp hc2).1.1) (by exact rfl) hc2) ?_
  obtain ⟨v3, hv3, h⟩ := An h
  refine A1 rfl Aut (Ac rfl Al) (Aj rfl) (Vh hv3) (sv rfl (Fs rfl) (sv rfl (A7 rfl rfl) (sv rfl (A7 rfl rfl) (Bz rfl Wg (Ax Ya rfl rfl rfl rfl (Nbl rfl) (Bt [.box (EL.el v3.1)] rfl (sv rfl (Ak rfl) (Ar (Aq (Aq (Ab (sv rfl (Ah rfl) (sv rfl (Cd rfl rfl) (Ar (ccI h rfl (fun h => ?_) (fun h => ?_))))))))))))))))
  ·refine Aq (Ab (sv rfl (Ah rfl) (sv rfl (Ak rfl) (sv rfl (Ak rfl) (sv rfl (Ak rfl) (Ar (Bj (As ?_))))))))
   obtain rfl := SJ h
   refine ⟨Or.inr rfl, _, _, _, (Ad (Bc.tmp _ _ rfl) (Ad (Bc.tmp _ _ rfl) (Ad (Bc.tmp _ _ rfl) Af))), (Nl rfl), ?_⟩
   rfl
  ·refine Bl (Ai (Aq ?_))
   obtain ⟨v4, hv4, h⟩ := An h
   refine Jq [] [0, 1, 3, 0, 8, 0, 32, 96, 248, 7, 1023, 2047] [[.box (EL.el v3.1)]] (by kernel_rfl) Lz (by kernel_rfl) (by decide) rfl rfl rfl rfl ?_
   refine ev (Bh 0 rfl rfl) rfl rfl (Aa Yf rfl) (ev (Bh 0 rfl rfl) rfl rfl (Ae L2 rfl (.lp _ _ _ rfl) rfl) (ed (Bh 0 rfl rfl) rfl rfl (Dy At7 (Ac rfl Al) rfl (Tz hv4)) (ev (Bh 0 rfl rfl) rfl rfl (Ah rfl) (ev (Bh 0 rfl rfl) rfl rfl (B9 rfl rfl) (ev (Bh 0 rfl rfl) rfl rfl (Aa Pp rfl) (ev (Bh 0 rfl rfl) rfl rfl (Aa T5 rfl) (ev (Bh 0 rfl rfl) rfl rfl (Ae ti3 rfl (.lp _ _ _ rfl) rfl) (ev (Bh 0 rfl rfl) rfl rfl (B9 rfl rfl) (ev (Bh 0 rfl rfl) rfl rfl (Ak rfl) (ev (Bh 0 rfl rfl) rfl rfl (Ak rfl) (ev (Bh 0 rfl rfl) rfl rfl (Ak rfl) (Ys (Ai (Bj ?_))))))))))))))
   obtain rfl := SJ h
   refine ⟨Or.inr rfl, _, _, _, (Ad (Bc.tmp _ _ rfl) (Ad (Bc.tmp _ _ rfl) (Ad (Bc.tmp _ _ rfl) Af))), (Aj rfl), ?_⟩
   rfl
 ·skip
  refine Ab (sv rfl (Ah rfl) (sv rfl (Cs rfl rfl) (sv rfl (Ah rfl) (Bq 11 rfl (fun hc => ?_) (fun hc => ?_)))))
  ·replace h := B1 hc h
   clear hc
   refine Aw rfl rfl rfl rfl (Aw rfl rfl rfl rfl (Aw rfl rfl rfl rfl (Aw rfl rfl rfl rfl (sv rfl (Au rfl rfl) (Ar (Hy rfl (fun _ => ?_) (fun hx => Bool.noConfusion hx)))))))
   refine Aq (Ab (sv rfl (Ak rfl) (sv rfl (Ak rfl) (sv rfl (Ak rfl) (Ar (Bj (As ?_)))))))
   obtain rfl := SJ h
   refine ⟨Or.inr rfl, _, _, _, (Ad (Bc.tmp _ _ rfl) (Ad (Bc.tmp _ _ rfl) (Ad (Bc.tmp _ _ rfl) Af))), (Nl rfl), ?_⟩
   rfl
  ·replace h := B0 hc h
   clear hc
   refine son rfl rfl rfl (sv rfl (Ah rfl) (son rfl rfl rfl (sv rfl (Ah rfl) (son rfl rfl rfl (sv rfl (Az Lc rfl) (son rfl rfl rfl (sv rfl (Dg rfl rfl) (sv rfl (Am rfl rfl) (Ar (ccI h rfl (fun h => ?_) (fun h => ?_)))))))))))
   ·refine Aq (Ab (sv rfl (Ak rfl) (sv rfl (Ak rfl) (sv rfl (Ak rfl) (Ar (Bj (As ?_)))))))
    obtain rfl := SJ h
    refine ⟨Or.inr rfl, _, _, _, (Ad (Bc.tmp _ _ rfl) (Ad (Bc.tmp _ _ rfl) (Ad (Bc.tmp _ _ rfl) Af))), (Nl rfl), ?_⟩
    rfl
   ·refine Bl (Ai ?_)
    exact ⟨(), _, h, ⟨rfl, rfl, trivial⟩, rfl⟩
def Gv (a0 : Bn) : Option Bool :=
 (Hl a0.Dead).bind fun v1 => if v1 then (some (decide ((a0.Buf.length : Int) = 0))) else (if (!decide (a0.Dead = 0)) then (some false) else ((J6 a0.Buf 0).bind fun v2 => if (decide ((a0.Buf.length : Int) = 0)) then (some true) else (some (decide (v2.2.2 = 2)))))
theorem Mu {a0 : Bn} {r : Bool} (h : Gv a0 = some r) : Bp Tryz.prog 34 [.agg (EL.el a0)] (· = .s (.one (.b r))) := by
 unfold Gv at h
 refine A2 Tryz.func34 rfl (nt := 31) rfl (Nbl rfl) ?_
 intro w0 S0
 refine Aq (Ab (Je rfl rfl (sv rfl (Ak rfl) (Ar (Aq (Aq (Ab (sv rfl (Aa Agv rfl) (sv rfl (Ae Aaz rfl (.lp _ _ _ rfl) rfl) ?_)))))))))
 obtain ⟨v1, hv1, h⟩ := An h
 refine A1 rfl Auf (Ac rfl Al) (Aj rfl) (N5 hv1) (Ar (ccI h rfl (fun h => ?_) (fun h => ?_)))
 ·refine Aq (Ab (sv rfl (Aa Ac7 rfl) (sv rfl (Ae L2 rfl (.lp _ _ _ rfl) rfl) (sv rfl (Az Lc rfl) (sv rfl (Bo rfl rfl) (sv rfl (Ak rfl) (Ar (Bj (As ?_)))))))))
  obtain rfl := SJ h
  refine ⟨Or.inr rfl, _, _, _, (Ad (Bc.tmp _ _ rfl) Af), (Aj rfl), ?_⟩
  rfl
 ·refine Bl (Ai (Aq (Aq (Ab (sv rfl (Aa Agv rfl) (sv rfl (Ae Aaz rfl (.lp _ _ _ rfl) rfl) (sv rfl (Cd rfl rfl) (Ar (ccI h rfl (fun h => ?_) (fun h => ?_))))))))))
  ·refine Aq (Ab (sv rfl (Ak rfl) (Ar (Bj (As ?_)))))
   obtain rfl := SJ h
   refine ⟨Or.inr rfl, _, _, _, (Ad (Bc.tmp _ _ rfl) Af), (Aj rfl), ?_⟩
   rfl
  ·refine Bl (Ai (Aq (Ab (sv rfl (Aa Ac7 rfl) (sv rfl (Ae L2 rfl (.lp _ _ _ rfl) rfl) ?_)))))
   obtain ⟨v2, hv2, h⟩ := An h
   refine A1 rfl Atw (Ac rfl (Ac rfl Al)) (Aj rfl) (Px hv2) (sv rfl (Fs rfl) (sv rfl (A7 rfl rfl) (sv rfl (A7 rfl rfl) (sv rfl (A7 rfl rfl) (sv rfl (Ak rfl) (sv rfl (Ak rfl) (sv rfl (Ak rfl) (Ar (Aq (Ab (sv rfl (Aa Ac7 rfl) (sv rfl (Ae L2 rfl (.lp _ _ _ rfl) rfl) (sv rfl (Az Lc rfl) (sv rfl (Bo rfl rfl) (sv rfl (Ah rfl) (Bq 27 rfl (fun hc => ?_) (fun hc => ?_)))))))))))))))))
   ·replace h := B1 hc h
    clear hc
    refine Aw rfl rfl rfl rfl (Aw rfl rfl rfl rfl (sv rfl (Au rfl rfl) (sv rfl (Ak rfl) (Ar (Bj ?_)))))
    obtain rfl := SJ h
    refine ⟨Or.inr rfl, _, _, _, (Ad (Bc.tmp _ _ rfl) Af), (Aj rfl), ?_⟩
    rfl
   ·replace h := B0 hc h
    clear hc
    refine son rfl rfl rfl (sv rfl (Ah rfl) (son rfl rfl rfl (sv rfl (Bo rfl rfl) (sv rfl (Am rfl rfl) (sv rfl (Ak rfl) (Ar (Bj ?_)))))))
    obtain rfl := SJ h
    refine ⟨Or.inr rfl, _, _, _, (Ad (Bc.tmp _ _ rfl) Af), (Aj rfl), ?_⟩
    rfl
def Hk (a0 : Int) : Option Bool :=
 if (decide (1 ≤ a0)) then (some (decide (a0 ≤ 11))) else (some false)
theorem L4 {a0 : Int} {r : Bool} (h : Hk a0 = some r) : Bp Tryz.prog 60 [.one (Ii6 a0)] (· = .s (.one (.b r))) := by
 unfold Hk at h
 refine A2 Tryz.func60 rfl (nt := 9) rfl (Nbl rfl) ?_
 intro w0 S0
 refine Aq (Ab (sv rfl (Ak rfl) (Ar (Aq (Ab (sv rfl (Ah rfl) (sv rfl (L9 rfl rfl) (sv rfl (Ah rfl) (Bq 5 rfl (fun hc => ?_) (fun hc => ?_))))))))))
 ·replace h := B1 hc h
  clear hc
  refine son rfl rfl rfl (sv rfl (Ah rfl) (son rfl rfl rfl (sv rfl (F1 rfl rfl) (sv rfl (Au rfl rfl) (sv rfl (Ak rfl) (Ar (Bj ?_)))))))
  obtain rfl := SJ h
  refine ⟨Or.inr rfl, _, _, _, (Ad (Bc.tmp _ _ rfl) Af), (Aj rfl), ?_⟩
  rfl
 ·replace h := B0 hc h
  clear hc
  refine Aw rfl rfl rfl rfl (Aw rfl rfl rfl rfl (sv rfl (Am rfl rfl) (sv rfl (Ak rfl) (Ar (Bj ?_)))))
  obtain rfl := SJ h
  refine ⟨Or.inr rfl, _, _, _, (Ad (Bc.tmp _ _ rfl) Af), (Aj rfl), ?_⟩
  rfl
def I0 (a0 : Int) : Option Gx :=
 (Hk a0).bind fun v1 => if (!v1) then (some (Gx.mk false false false false false false)) else ((idx Aqh a0).bind fun u2 => some u2)
theorem Pi {a0 : Int} {r : Gx} (h : I0 a0 = some r) : Bp Tryz.prog 59 [.one (Ii6 a0)] (· = .s (.agg (EL.el r))) := by
 unfold I0 at h
 refine A2 Tryz.func59 rfl (nt := 10) rfl (Nbl rfl) ?_
 intro w0 S0
 refine Aq (Ab (Bz rfl Aix (Ar (Aq (Aq (Ab (sv rfl (Ah rfl) ?_)))))))
 obtain ⟨v1, hv1, h⟩ := An h
 refine A1 rfl Aqn (Ac rfl Al) (Aj rfl) (L4 hv1) (sv rfl (B8 rfl) (Ar (ccI h rfl (fun h => ?_) (fun h => ?_))))
 ·refine Aq (Ab (sv rfl (Bk Aix Asx A9 (.nil _)) (Ax Aje rfl rfl rfl rfl (Nbl rfl) (Bt [.box [.b false, .b false, .b false, .b false, .b false, .b false]] rfl (Ar (Bj (As ?_)))))))
  obtain rfl := SJ h
  refine ⟨Or.inr rfl, _, _, _, (Ad (Bc.agg _ _ _ _ _ Alq rfl (.lp _ _ _ rfl) (Nbl rfl)) Af), (Aj rfl), ?_⟩
  rfl
 ·refine Bl (Ai (Aq (Ab (sv rfl (Ah rfl) ?_))))
  obtain ⟨u2, hu2, h⟩ := An h
  refine sv rfl (Amu (f := Uk) Asc (fun _ => rfl) Anb rfl rfl rfl hu2) ?_
  refine sv rfl (Dj (ys := [.b u2.token_, .b u2.attempt_, .b u2.ro_, .b u2.key_, .b u2.val_, .b u2.rng_]) Alq rfl (.cp _) rfl rfl) (Ax Aje rfl rfl rfl rfl (Nbl rfl) (Bt [.box (EL.el u2)] rfl (Ar (Bj ?_))))
  obtain rfl := SJ h
  refine ⟨Or.inr rfl, _, _, _, (Ad (Bc.agg _ _ _ _ _ Alq rfl (.lp _ _ _ rfl) (Nbl rfl)) Af), (Aj rfl), ?_⟩
  rfl
def D9 (a0 : Int) (a1 : Int) : Option Bool :=
 if (decide (0 ≤ a0)) then (some (decide (a0 ≤ a1))) else (some false)
theorem Fz {a0 : Int} {a1 : Int} {r : Bool} (h : D9 a0 a1 = some r) : Bp Tryz.prog 61 [.one (Ii6 a0), .one (Ii6 a1)] (· = .s (.one (.b r))) := by
 unfold D9 at h
 refine A2 Tryz.func61 rfl (nt := 12) rfl (Nbl rfl) ?_
 intro w0 S0
 refine Aq (Ab (sv rfl (Ak rfl) (Ar (Aq (Ab (sv rfl (Ah rfl) (sv rfl (L9 rfl rfl) (sv rfl (Ah rfl) (Bq 7 rfl (fun hc => ?_) (fun hc => ?_))))))))))
 ·replace h := B1 hc h
  clear hc
  refine son rfl rfl rfl (sv rfl (Ah rfl) (son rfl rfl rfl (sv rfl (Ah rfl) (son rfl rfl rfl (sv rfl (F1 rfl rfl) (sv rfl (Au rfl rfl) (sv rfl (Ak rfl) (Ar (Bj ?_)))))))))
  obtain rfl := SJ h
  refine ⟨Or.inr rfl, _, _, _, (Ad (Bc.tmp _ _ rfl) Af), (Aj rfl), ?_⟩
  rfl
 ·replace h := B0 hc h
  clear hc
  refine Aw rfl rfl rfl rfl (Aw rfl rfl rfl rfl (Aw rfl rfl rfl rfl (sv rfl (Am rfl rfl) (sv rfl (Ak rfl) (Ar (Bj ?_))))))
  obtain rfl := SJ h
  refine ⟨Or.inr rfl, _, _, _, (Ad (Bc.tmp _ _ rfl) Af), (Aj rfl), ?_⟩
  rfl
def I2 (a0 : Bool) (a1 : Int) (a2 : Int) : Option Bool :=
 if (!a0) then (some (decide (a1 = 0))) else ((D9 a1 a2).bind fun v1 => some v1)
theorem O8 {a0 : Bool} {a1 : Int} {a2 : Int} {r : Bool} (h : I2 a0 a1 a2 = some r) : Bp Tryz.prog 62 [.one (.b a0), .one (Ii6 a1), .one (Ii6 a2)] (· = .s (.one (.b r))) := by
 unfold I2 at h
 refine A2 Tryz.func62 rfl (nt := 14) rfl (Nbl rfl) ?_
 intro w0 S0
 refine Aq (Ab (sv rfl (Ak rfl) (Ar (Aq (Aq (Ab (sv rfl (Ah rfl) (sv rfl (B8 rfl) (Ar (ccI h rfl (fun h => ?_) (fun h => ?_)))))))))))
 ·refine Aq (Ab (sv rfl (Ah rfl) (sv rfl (Bo rfl rfl) (sv rfl (Ak rfl) (Ar (Bj (As ?_)))))))
  obtain rfl := SJ h
  refine ⟨Or.inr rfl, _, _, _, (Ad (Bc.tmp _ _ rfl) Af), (Aj rfl), ?_⟩
  rfl
 ·refine Bl (Ai (Aq (Ab (sv rfl (Ah rfl) (sv rfl (Ah rfl) ?_)))))
  obtain ⟨v1, hv1, h⟩ := An h
  refine A1 rfl Aks (Ac rfl (Ac rfl Al)) (Aj rfl) (Fz hv1) (sv rfl (Ak rfl) (Ar (Bj ?_)))
  obtain rfl := SJ h
  refine ⟨Or.inr rfl, _, _, _, (Ad (Bc.tmp _ _ rfl) Af), (Aj rfl), ?_⟩
  rfl
def Ct (a0 : Bool) (a1 : List UInt8) (a2 : Int) (a3 : Int) : Option Bool :=
 if (!a0) then (some (decide ((a1.length : Int) = 0))) else (if (decide (a2 ≤ (a1.length : Int))) then (some (decide ((a1.length : Int) ≤ a3))) else (some false))
theorem D3 {a0 : Bool} {a1 : List UInt8} {a2 : Int} {a3 : Int} {r : Bool} (h : Ct a0 a1 a2 a3 = some r) : Bp Tryz.prog 63 [.one (.b a0), .one (.sl a1.length (a1.flatMap eU8)), .one (Ii6 a2), .one (Ii6 a3)] (· = .s (.one (.b r))) := by
 unfold Ct at h
 refine A2 Tryz.func63 rfl (nt := 24) rfl (Nbl rfl) ?_
 intro w0 S0
 refine Aq (Ab (sv rfl (Ak rfl) (Ar (Aq (Aq (Ab (sv rfl (Ah rfl) (sv rfl (B8 rfl) (Ar (ccI h rfl (fun h => ?_) (fun h => ?_)))))))))))
 ·refine Aq (Ab (sv rfl (Ah rfl) (sv rfl (Az Lc rfl) (sv rfl (Bo rfl rfl) (sv rfl (Ak rfl) (Ar (Bj (As ?_))))))))
  obtain rfl := SJ h
  refine ⟨Or.inr rfl, _, _, _, (Ad (Bc.tmp _ _ rfl) Af), (Aj rfl), ?_⟩
  rfl
 ·refine Bl (Ai (Aq (Ab (sv rfl (Ah rfl) (sv rfl (Az Lc rfl) (sv rfl (Ah rfl) (sv rfl (L9 rfl rfl) (sv rfl (Ah rfl) (Bq 18 rfl (fun hc => ?_) (fun hc => ?_))))))))))
  ·replace h := B1 hc h
   clear hc
   refine son rfl rfl rfl (sv rfl (Ah rfl) (son rfl rfl rfl (sv rfl (Az Lc rfl) (son rfl rfl rfl (sv rfl (Ah rfl) (son rfl rfl rfl (sv rfl (F1 rfl rfl) (sv rfl (Au rfl rfl) (sv rfl (Ak rfl) (Ar (Bj ?_)))))))))))
   obtain rfl := SJ h
   refine ⟨Or.inr rfl, _, _, _, (Ad (Bc.tmp _ _ rfl) Af), (Aj rfl), ?_⟩
   rfl
  ·replace h := B0 hc h
   clear hc
   refine Aw rfl rfl rfl rfl (Aw rfl rfl rfl rfl (Aw rfl rfl rfl rfl (Aw rfl rfl rfl rfl (sv rfl (Am rfl rfl) (sv rfl (Ak rfl) (Ar (Bj ?_)))))))
   obtain rfl := SJ h
   refine ⟨Or.inr rfl, _, _, _, (Ad (Bc.tmp _ _ rfl) Af), (Aj rfl), ?_⟩
   rfl
def Jc (a0 : Bool) (a1 : B7) : Option Bool :=
 if (!a0) then (if (decide ((a1.Lo.length : Int) = 0)) then (if (decide ((a1.Hi.length : Int) = 0)) then (some (!a1.Open)) else (some false)) else (some false)) else (if (decide ((a1.Lo.length : Int) ≤ 16)) then ((Ct (!a1.Open) a1.Hi 0 16).bind fun v1 => some v1) else (some false))
theorem O7 {a0 : Bool} {a1 : B7} {r : Bool} (h : Jc a0 a1 = some r) : Bp Tryz.prog 64 [.one (.b a0), .agg (EL.el a1)] (· = .s (.one (.b r))) := by
 unfold Jc at h
 refine A2 Tryz.func64 rfl (nt := 34) rfl (Nbl rfl) ?_
 intro w0 S0
 refine Aq (Ab (Je rfl rfl (sv rfl (Ak rfl) (Ar (Aq (Aq (Ab (sv rfl (Ah rfl) (sv rfl (B8 rfl) (Ar (ccI h rfl (fun h => ?_) (fun h => ?_))))))))))))
 ·refine Aq (Ab (sv rfl (Aa Ti rfl) (sv rfl (Ae L2 rfl (.lp _ _ _ rfl) rfl) (sv rfl (Az Lc rfl) (sv rfl (Bo rfl rfl) (sv rfl (Ah rfl) (Bq 11 rfl (fun hc => ?_) (fun hc => ?_))))))))
  ·replace h := B1 hc h
   clear hc
   refine son rfl rfl rfl (sv rfl (Aa Qv rfl) (son rfl rfl rfl (sv rfl (Ae L2 rfl (.lp _ _ _ rfl) rfl) (son rfl rfl rfl (sv rfl (Az Lc rfl) (son rfl rfl rfl (sv rfl (Bo rfl rfl) (sv rfl (Au rfl rfl) (sv rfl (Ah rfl) (Bq 17 rfl (fun hc => ?_) (fun hc => ?_)))))))))))
   ·replace h := B1 hc h
    clear hc
    refine son rfl rfl rfl (sv rfl (Aa X2 rfl) (son rfl rfl rfl (sv rfl (Ae ti4 rfl (.lp _ _ _ rfl) rfl) (son rfl rfl rfl (sv rfl (B8 rfl) (sv rfl (Au rfl rfl) (sv rfl (Ak rfl) (Ar (Bj (As ?_))))))))))
    obtain rfl := SJ h
    refine ⟨Or.inr rfl, _, _, _, (Ad (Bc.tmp _ _ rfl) Af), (Aj rfl), ?_⟩
    rfl
   ·replace h := B0 hc h
    clear hc
    refine Aw rfl rfl rfl rfl (Aw rfl rfl rfl rfl (Aw rfl rfl rfl rfl (sv rfl (Am rfl rfl) (sv rfl (Ak rfl) (Ar (Bj (As ?_)))))))
    obtain rfl := SJ h
    refine ⟨Or.inr rfl, _, _, _, (Ad (Bc.tmp _ _ rfl) Af), (Aj rfl), ?_⟩
    rfl
  ·replace h := B0 hc h
   clear hc
   refine Aw rfl rfl rfl rfl (Aw rfl rfl rfl rfl (Aw rfl rfl rfl rfl (Aw rfl rfl rfl rfl (sv rfl (Am rfl rfl) (sv rfl (Ah rfl) (Aw rfl rfl rfl rfl (Aw rfl rfl rfl rfl (Aw rfl rfl rfl rfl (sv rfl (Am rfl rfl) (sv rfl (Ak rfl) (Ar (Bj (As ?_)))))))))))))
   obtain rfl := SJ h
   refine ⟨Or.inr rfl, _, _, _, (Ad (Bc.tmp _ _ rfl) Af), (Aj rfl), ?_⟩
   rfl
 ·refine Bl (Ai (Aq (Ab (sv rfl (Aa Ti rfl) (sv rfl (Ae L2 rfl (.lp _ _ _ rfl) rfl) (sv rfl (Az Lc rfl) (sv rfl (F1 rfl rfl) (sv rfl (Ah rfl) (Bq 26 rfl (fun hc => ?_) (fun hc => ?_))))))))))
  ·replace h := B1 hc h
   clear hc
   refine son rfl rfl rfl (sv rfl (Aa X2 rfl) (son rfl rfl rfl (sv rfl (Ae ti4 rfl (.lp _ _ _ rfl) rfl) (son rfl rfl rfl (sv rfl (B8 rfl) (son rfl rfl rfl (sv rfl (Aa Qv rfl) (son rfl rfl rfl (sv rfl (Ae L2 rfl (.lp _ _ _ rfl) rfl) (son rfl rfl rfl ?_))))))))))
   obtain ⟨v1, hv1, h⟩ := An h
   refine A1 rfl Aj3 (Ac rfl (Ac rfl (Ac rfl (Ac rfl Al)))) (Aj rfl) (D3 hv1) (sv rfl (Au rfl rfl) (sv rfl (Ak rfl) (Ar (Bj ?_))))
   obtain rfl := SJ h
   refine ⟨Or.inr rfl, _, _, _, (Ad (Bc.tmp _ _ rfl) Af), (Aj rfl), ?_⟩
   rfl
  ·replace h := B0 hc h
   clear hc
   refine Aw rfl rfl rfl rfl (Aw rfl rfl rfl rfl (Aw rfl rfl rfl rfl (Aw rfl rfl rfl rfl (Aw rfl rfl rfl rfl (Aw rfl rfl rfl rfl (sv rfl (Am rfl rfl) (sv rfl (Ak rfl) (Ar (Bj ?_)))))))))
   obtain rfl := SJ h
   refine ⟨Or.inr rfl, _, _, _, (Ad (Bc.tmp _ _ rfl) Af), (Aj rfl), ?_⟩
   rfl
def Jb (a0 : B6) : Option Bool :=
 (I0 a0.Kind).bind fun v1 => (Hk a0.Kind).bind fun v2 => if v2 then ((D9 a0.Seq 4294967295).bind fun v3 => if v3 then ((I2 v1.token_ a0.Token 1099511627776).bind fun v4 => if v4 then ((I2 v1.attempt_ a0.Attempt 65535).bind fun v5 => if v5 then (if v1.ro_ then ((Ct v1.key_ a0.Key 1 16).bind fun v6 => if v6 then ((Ct v1.val_ a0.Val 0 32).bind fun v7 => if v7 then ((Jc v1.rng_ a0.Rng).bind fun v8 => some v8) else (some false)) else (some false)) else (if (!a0.RO) then ((Ct v1.key_ a0.Key 1 16).bind fun v9 => if v9 then ((Ct v1.val_ a0.Val 0 32).bind fun v10 => if v10 then ((Jc v1.rng_ a0.Rng).bind fun v11 => some v11) else (some false)) else (some false)) else (some false))) else (some false)) else (some false)) else (some false)) else (some false)
theorem Pf {a0 : B6} {r : Bool} (h : Jb a0 = some r) : Bp Tryz.prog 33 [.agg (EL.el a0)] (· = .s (.one (.b r))) := by
 unfold Jb at h
 refine A2 Tryz.func33 rfl (nt := 59) rfl (Nbl rfl) ?_
 intro w0 S0
 refine Aq (Ab (Je rfl rfl (sv rfl (Ak rfl) (Ar (Aq (Ab (sv rfl (Aa Pw rfl) (sv rfl (Ae ti3 rfl (.lp _ _ _ rfl) rfl) ?_))))))))
 obtain ⟨v1, hv1, h⟩ := An h
 refine A1 rfl Aug (Ac rfl Al) (Aj rfl) (Pi hv1) (Bz rfl Aix (Ax Aje rfl rfl rfl rfl (Nbl rfl) (Bt [.box (EL.el a0), .box (EL.el v1)] rfl (Ar (Aq (Ab (sv rfl (Aa Pw rfl) (sv rfl (Ae ti3 rfl (.lp _ _ _ rfl) rfl) ?_))))))))
 obtain ⟨v2, hv2, h⟩ := An h
 refine A1 rfl Aqn (Ac rfl Al) (Aj rfl) (L4 hv2) (sv rfl (Ah rfl) (Bq 10 rfl (fun hc => ?_) (fun hc => ?_)))
 ·replace h := B1 hc h
  clear hc
  refine son rfl rfl rfl (sv rfl (Aa Qq rfl) (son rfl rfl rfl (sv rfl (Ae ti3 rfl (.lp _ _ _ rfl) rfl) (son rfl rfl rfl ?_))))
  obtain ⟨v3, hv3, h⟩ := An h
  refine A1 rfl Aks (Ac rfl (Ac rfl Al)) (Aj rfl) (Fz hv3) (sv rfl (Au rfl rfl) (sv rfl (Ah rfl) (Bq 15 rfl (fun hc => ?_) (fun hc => ?_))))
  ·replace h := B1 hc h
   clear hc
   refine son rfl rfl rfl (sv rfl (Aa Agu rfl) (son rfl rfl rfl (sv rfl (Ae ti4 rfl (.lp _ _ _ rfl) rfl) (son rfl rfl rfl (sv rfl (Aa Aj8 rfl) (son rfl rfl rfl (sv rfl (Ae ti3 rfl (.lp _ _ _ rfl) rfl) (son rfl rfl rfl ?_))))))))
   obtain ⟨v4, hv4, h⟩ := An h
   refine A1 rfl Atu (Ac rfl (Ac rfl (Ac rfl Al))) (Aj rfl) (O8 hv4) (sv rfl (Au rfl rfl) (sv rfl (Ah rfl) (Bq 22 rfl (fun hc => ?_) (fun hc => ?_))))
   ·replace h := B1 hc h
    clear hc
    refine son rfl rfl rfl (sv rfl (Aa Ahu rfl) (son rfl rfl rfl (sv rfl (Ae ti4 rfl (.lp _ _ _ rfl) rfl) (son rfl rfl rfl (sv rfl (Aa Aj5 rfl) (son rfl rfl rfl (sv rfl (Ae ti3 rfl (.lp _ _ _ rfl) rfl) (son rfl rfl rfl ?_))))))))
    obtain ⟨v5, hv5, h⟩ := An h
    refine A1 rfl Atu (Ac rfl (Ac rfl (Ac rfl Al))) (Aj rfl) (O8 hv5) (sv rfl (Au rfl rfl) (sv rfl (Ah rfl) (Bq 29 rfl (fun hc => ?_) (fun hc => ?_))))
    ·replace h := B1 hc h
     clear hc
     refine son rfl rfl rfl (sv rfl (Aa Ag6 rfl) (son rfl rfl rfl (sv rfl (Ae ti4 rfl (.lp _ _ _ rfl) rfl) (son rfl rfl rfl (sv rfl (Ah rfl) (Bq 32 rfl (fun hc => ?_) (fun hc => ?_)))))))
     ·replace h := B1 hc h
      clear hc
      refine Aw rfl rfl rfl rfl (Aw rfl rfl rfl rfl (Aw rfl rfl rfl rfl (son rfl rfl rfl (sv rfl (Au rfl rfl) (sv rfl (Au rfl rfl) (sv rfl (Ah rfl) (son rfl rfl rfl (sv rfl (Aa Aa3 rfl) (son rfl rfl rfl (sv rfl (Ae ti4 rfl (.lp _ _ _ rfl) rfl) (son rfl rfl rfl (sv rfl (Aa Aff rfl) (son rfl rfl rfl (sv rfl (Ae L2 rfl (.lp _ _ _ rfl) rfl) (son rfl rfl rfl ?_)))))))))))))))
      obtain ⟨v6, hv6, h⟩ := An h
      refine A1 rfl Aj3 (Ac rfl (Ac rfl (Ac rfl (Ac rfl Al)))) (Aj rfl) (D3 hv6) (sv rfl (Au rfl rfl) (sv rfl (Ah rfl) (Bq 45 rfl (fun hc => ?_) (fun hc => ?_))))
      ·replace h := B1 hc h
       clear hc
       refine son rfl rfl rfl (sv rfl (Aa Abg rfl) (son rfl rfl rfl (sv rfl (Ae ti4 rfl (.lp _ _ _ rfl) rfl) (son rfl rfl rfl (sv rfl (Aa Afs rfl) (son rfl rfl rfl (sv rfl (Ae L2 rfl (.lp _ _ _ rfl) rfl) (son rfl rfl rfl ?_))))))))
       obtain ⟨v7, hv7, h⟩ := An h
       refine A1 rfl Aj3 (Ac rfl (Ac rfl (Ac rfl (Ac rfl Al)))) (Aj rfl) (D3 hv7) (sv rfl (Au rfl rfl) (sv rfl (Ah rfl) (Bq 52 rfl (fun hc => ?_) (fun hc => ?_))))
       ·replace h := B1 hc h
        clear hc
        refine son rfl rfl rfl (sv rfl (Aa Aci rfl) (son rfl rfl rfl (sv rfl (Ae ti4 rfl (.lp _ _ _ rfl) rfl) (son rfl rfl rfl (sv rfl (Aa Za rfl) (son rfl rfl rfl (sv rfl (Ao Ajl rfl (.lp _ _ _ rfl) (Nbl rfl)) (son rfl rfl rfl ?_))))))))
        obtain ⟨v8, hv8, h⟩ := An h
        refine A1 rfl Auq (Ac rfl (Ac rfl Al)) (Aj rfl) (O7 hv8) (sv rfl (Au rfl rfl) (sv rfl (Ak rfl) (Ar (Bj ?_))))
        obtain rfl := SJ h
        refine ⟨Or.inr rfl, _, _, _, (Ad (Bc.tmp _ _ rfl) Af), (Aj rfl), ?_⟩
        rfl
       ·replace h := B0 hc h
        clear hc
        refine Aw rfl rfl rfl rfl (Aw rfl rfl rfl rfl (Aw rfl rfl rfl rfl (Aw rfl rfl rfl rfl (Aw rfl rfl rfl rfl (sv rfl (Am rfl rfl) (sv rfl (Ak rfl) (Ar (Bj ?_))))))))
        obtain rfl := SJ h
        refine ⟨Or.inr rfl, _, _, _, (Ad (Bc.tmp _ _ rfl) Af), (Aj rfl), ?_⟩
        rfl
      ·replace h := B0 hc h
       clear hc
       refine Aw rfl rfl rfl rfl (Aw rfl rfl rfl rfl (Aw rfl rfl rfl rfl (Aw rfl rfl rfl rfl (Aw rfl rfl rfl rfl (sv rfl (Am rfl rfl) (sv rfl (Ah rfl) (Aw rfl rfl rfl rfl (Aw rfl rfl rfl rfl (Aw rfl rfl rfl rfl (Aw rfl rfl rfl rfl (Aw rfl rfl rfl rfl (sv rfl (Am rfl rfl) (sv rfl (Ak rfl) (Ar (Bj ?_)))))))))))))))
       obtain rfl := SJ h
       refine ⟨Or.inr rfl, _, _, _, (Ad (Bc.tmp _ _ rfl) Af), (Aj rfl), ?_⟩
       rfl
     ·replace h := B0 hc h
      clear hc
      refine son rfl rfl rfl (sv rfl (Aa Akz rfl) (son rfl rfl rfl (sv rfl (Ae ti4 rfl (.lp _ _ _ rfl) rfl) (son rfl rfl rfl (sv rfl (B8 rfl) (son rfl rfl rfl (sv rfl (Am rfl rfl) (sv rfl (Au rfl rfl) (sv rfl (Ah rfl) (Bq 38 rfl (fun hc => ?_) (fun hc => ?_)))))))))))
      ·replace h := B1 hc h
       clear hc
       refine son rfl rfl rfl (sv rfl (Aa Aa3 rfl) (son rfl rfl rfl (sv rfl (Ae ti4 rfl (.lp _ _ _ rfl) rfl) (son rfl rfl rfl (sv rfl (Aa Aff rfl) (son rfl rfl rfl (sv rfl (Ae L2 rfl (.lp _ _ _ rfl) rfl) (son rfl rfl rfl ?_))))))))
       obtain ⟨v9, hv9, h⟩ := An h
       refine A1 rfl Aj3 (Ac rfl (Ac rfl (Ac rfl (Ac rfl Al)))) (Aj rfl) (D3 hv9) (sv rfl (Au rfl rfl) (sv rfl (Ah rfl) (Bq 45 rfl (fun hc => ?_) (fun hc => ?_))))
       ·replace h := B1 hc h
        clear hc
        refine son rfl rfl rfl (sv rfl (Aa Abg rfl) (son rfl rfl rfl (sv rfl (Ae ti4 rfl (.lp _ _ _ rfl) rfl) (son rfl rfl rfl (sv rfl (Aa Afs rfl) (son rfl rfl rfl (sv rfl (Ae L2 rfl (.lp _ _ _ rfl) rfl) (son rfl rfl rfl ?_))))))))
        obtain ⟨v10, hv10, h⟩ := An h
        refine A1 rfl Aj3 (Ac rfl (Ac rfl (Ac rfl (Ac rfl Al)))) (Aj rfl) (D3 hv10) (sv rfl (Au rfl rfl) (sv rfl (Ah rfl) (Bq 52 rfl (fun hc => ?_) (fun hc => ?_))))
        ·replace h := B1 hc h
         clear hc
         refine son rfl rfl rfl (sv rfl (Aa Aci rfl) (son rfl rfl rfl (sv rfl (Ae ti4 rfl (.lp _ _ _ rfl) rfl) (son rfl rfl rfl (sv rfl (Aa Za rfl) (son rfl rfl rfl (sv rfl (Ao Ajl rfl (.lp _ _ _ rfl) (Nbl rfl)) (son rfl rfl rfl ?_))))))))
         obtain ⟨v11, hv11, h⟩ := An h
         refine A1 rfl Auq (Ac rfl (Ac rfl Al)) (Aj rfl) (O7 hv11) (sv rfl (Au rfl rfl) (sv rfl (Ak rfl) (Ar (Bj ?_))))
         obtain rfl := SJ h
         refine ⟨Or.inr rfl, _, _, _, (Ad (Bc.tmp _ _ rfl) Af), (Aj rfl), ?_⟩
         rfl
        ·replace h := B0 hc h
         clear hc
         refine Aw rfl rfl rfl rfl (Aw rfl rfl rfl rfl (Aw rfl rfl rfl rfl (Aw rfl rfl rfl rfl (Aw rfl rfl rfl rfl (sv rfl (Am rfl rfl) (sv rfl (Ak rfl) (Ar (Bj ?_))))))))
         obtain rfl := SJ h
         refine ⟨Or.inr rfl, _, _, _, (Ad (Bc.tmp _ _ rfl) Af), (Aj rfl), ?_⟩
         rfl
       ·replace h := B0 hc h
        clear hc
        refine Aw rfl rfl rfl rfl (Aw rfl rfl rfl rfl (Aw rfl rfl rfl rfl (Aw rfl rfl rfl rfl (Aw rfl rfl rfl rfl (sv rfl (Am rfl rfl) (sv rfl (Ah rfl) (Aw rfl rfl rfl rfl (Aw rfl rfl rfl rfl (Aw rfl rfl rfl rfl (Aw rfl rfl rfl rfl (Aw rfl rfl rfl rfl (sv rfl (Am rfl rfl) (sv rfl (Ak rfl) (Ar (Bj ?_)))))))))))))))
        obtain rfl := SJ h
        refine ⟨Or.inr rfl, _, _, _, (Ad (Bc.tmp _ _ rfl) Af), (Aj rfl), ?_⟩
        rfl
      ·replace h := B0 hc h
       clear hc
       refine Aw rfl rfl rfl rfl (Aw rfl rfl rfl rfl (Aw rfl rfl rfl rfl (Aw rfl rfl rfl rfl (Aw rfl rfl rfl rfl (sv rfl (Am rfl rfl) (sv rfl (Ah rfl) (Aw rfl rfl rfl rfl (Aw rfl rfl rfl rfl (Aw rfl rfl rfl rfl (Aw rfl rfl rfl rfl (Aw rfl rfl rfl rfl (sv rfl (Am rfl rfl) (sv rfl (Ah rfl) (Aw rfl rfl rfl rfl (Aw rfl rfl rfl rfl (Aw rfl rfl rfl rfl (Aw rfl rfl rfl rfl (Aw rfl rfl rfl rfl (sv rfl (Am rfl rfl) (sv rfl (Ak rfl) (Ar (Bj ?_))))))))))))))))))))))
       obtain rfl := SJ h
       refine ⟨Or.inr rfl, _, _, _, (Ad (Bc.tmp _ _ rfl) Af), (Aj rfl), ?_⟩
       rfl
    ·replace h := B0 hc h
     clear hc
     refine Aw rfl rfl rfl rfl (Aw rfl rfl rfl rfl (Aw rfl rfl rfl rfl (Ju rfl rfl rfl (Ju rfl rfl rfl (Ju rfl rfl rfl (Aw rfl rfl rfl rfl (sv rfl (Am rfl rfl) (sv rfl (Ah rfl) (Aw rfl rfl rfl rfl (Aw rfl rfl rfl rfl (Aw rfl rfl rfl rfl (Aw rfl rfl rfl rfl (Aw rfl rfl rfl rfl (sv rfl (Am rfl rfl) (sv rfl (Ah rfl) (Aw rfl rfl rfl rfl (Aw rfl rfl rfl rfl (Aw rfl rfl rfl rfl (Aw rfl rfl rfl rfl (Aw rfl rfl rfl rfl (sv rfl (Am rfl rfl) (sv rfl (Ah rfl) (Aw rfl rfl rfl rfl (Aw rfl rfl rfl rfl (Aw rfl rfl rfl rfl (Aw rfl rfl rfl rfl (Aw rfl rfl rfl rfl (sv rfl (Am rfl rfl) (sv rfl (Ak rfl) (Ar (Bj ?_)))))))))))))))))))))))))))))))
     obtain rfl := SJ h
     refine ⟨Or.inr rfl, _, _, _, (Ad (Bc.tmp _ _ rfl) Af), (Aj rfl), ?_⟩
     rfl
   ·replace h := B0 hc h
    clear hc
    refine Aw rfl rfl rfl rfl (Aw rfl rfl rfl rfl (Aw rfl rfl rfl rfl (Aw rfl rfl rfl rfl (Aw rfl rfl rfl rfl (sv rfl (Am rfl rfl) (sv rfl (Ah rfl) (Aw rfl rfl rfl rfl (Aw rfl rfl rfl rfl (Aw rfl rfl rfl rfl (Ju rfl rfl rfl (Ju rfl rfl rfl (Ju rfl rfl rfl (Aw rfl rfl rfl rfl (sv rfl (Am rfl rfl) (sv rfl (Ah rfl) (Aw rfl rfl rfl rfl (Aw rfl rfl rfl rfl (Aw rfl rfl rfl rfl (Aw rfl rfl rfl rfl (Aw rfl rfl rfl rfl (sv rfl (Am rfl rfl) (sv rfl (Ah rfl) (Aw rfl rfl rfl rfl (Aw rfl rfl rfl rfl (Aw rfl rfl rfl rfl (Aw rfl rfl rfl rfl (Aw rfl rfl rfl rfl (sv rfl (Am rfl rfl) (sv rfl (Ah rfl) (Aw rfl rfl rfl rfl (Aw rfl rfl rfl rfl (Aw rfl rfl rfl rfl (Aw rfl rfl rfl rfl (Aw rfl rfl rfl rfl (sv rfl (Am rfl rfl) (sv rfl (Ak rfl) (Ar (Bj ?_))))))))))))))))))))))))))))))))))))))
    obtain rfl := SJ h
    refine ⟨Or.inr rfl, _, _, _, (Ad (Bc.tmp _ _ rfl) Af), (Aj rfl), ?_⟩
    rfl
  ·replace h := B0 hc h
   clear hc
   refine Aw rfl rfl rfl rfl (Aw rfl rfl rfl rfl (Aw rfl rfl rfl rfl (Aw rfl rfl rfl rfl (Aw rfl rfl rfl rfl (sv rfl (Am rfl rfl) (sv rfl (Ah rfl) (Aw rfl rfl rfl rfl (Aw rfl rfl rfl rfl (Aw rfl rfl rfl rfl (Aw rfl rfl rfl rfl (Aw rfl rfl rfl rfl (sv rfl (Am rfl rfl) (sv rfl (Ah rfl) (Aw rfl rfl rfl rfl (Aw rfl rfl rfl rfl (Aw rfl rfl rfl rfl (Ju rfl rfl rfl (Ju rfl rfl rfl (Ju rfl rfl rfl (Aw rfl rfl rfl rfl (sv rfl (Am rfl rfl) (sv rfl (Ah rfl) (Aw rfl rfl rfl rfl (Aw rfl rfl rfl rfl (Aw rfl rfl rfl rfl (Aw rfl rfl rfl rfl (Aw rfl rfl rfl rfl (sv rfl (Am rfl rfl) (sv rfl (Ah rfl) (Aw rfl rfl rfl rfl (Aw rfl rfl rfl rfl (Aw rfl rfl rfl rfl (Aw rfl rfl rfl rfl (Aw rfl rfl rfl rfl (sv rfl (Am rfl rfl) (sv rfl (Ah rfl) (Aw rfl rfl rfl rfl (Aw rfl rfl rfl rfl (Aw rfl rfl rfl rfl (Aw rfl rfl rfl rfl (Aw rfl rfl rfl rfl (sv rfl (Am rfl rfl) (sv rfl (Ak rfl) (Ar (Bj ?_)))))))))))))))))))))))))))))))))))))))))))))
   obtain rfl := SJ h
   refine ⟨Or.inr rfl, _, _, _, (Ad (Bc.tmp _ _ rfl) Af), (Aj rfl), ?_⟩
   rfl
 ·replace h := B0 hc h
  clear hc
  refine Aw rfl rfl rfl rfl (Aw rfl rfl rfl rfl (Aw rfl rfl rfl rfl (sv rfl (Am rfl rfl) (sv rfl (Ah rfl) (Aw rfl rfl rfl rfl (Aw rfl rfl rfl rfl (Aw rfl rfl rfl rfl (Aw rfl rfl rfl rfl (Aw rfl rfl rfl rfl (sv rfl (Am rfl rfl) (sv rfl (Ah rfl) (Aw rfl rfl rfl rfl (Aw rfl rfl rfl rfl (Aw rfl rfl rfl rfl (Aw rfl rfl rfl rfl (Aw rfl rfl rfl rfl (sv rfl (Am rfl rfl) (sv rfl (Ah rfl) (Aw rfl rfl rfl rfl (Aw rfl rfl rfl rfl (Aw rfl rfl rfl rfl (Ju rfl rfl rfl (Ju rfl rfl rfl (Ju rfl rfl rfl (Aw rfl rfl rfl rfl (sv rfl (Am rfl rfl) (sv rfl (Ah rfl) (Aw rfl rfl rfl rfl (Aw rfl rfl rfl rfl (Aw rfl rfl rfl rfl (Aw rfl rfl rfl rfl (Aw rfl rfl rfl rfl (sv rfl (Am rfl rfl) (sv rfl (Ah rfl) (Aw rfl rfl rfl rfl (Aw rfl rfl rfl rfl (Aw rfl rfl rfl rfl (Aw rfl rfl rfl rfl (Aw rfl rfl rfl rfl (sv rfl (Am rfl rfl) (sv rfl (Ah rfl) (Aw rfl rfl rfl rfl (Aw rfl rfl rfl rfl (Aw rfl rfl rfl rfl (Aw rfl rfl rfl rfl (Aw rfl rfl rfl rfl (sv rfl (Am rfl rfl) (sv rfl (Ak rfl) (Ar (Bj ?_))))))))))))))))))))))))))))))))))))))))))))))))))
  obtain rfl := SJ h
  refine ⟨Or.inr rfl, _, _, _, (Ad (Bc.tmp _ _ rfl) Af), (Aj rfl), ?_⟩
  rfl
def Ex (a0 : Ag) : Option Bool :=
 (Gq a0.Cfg).bind fun v1 => if v1 then ((F8 a0).bind fun v2 => if v2 then ((Hg a0.Tasks).bind fun v3 => if v3 then ((Hv a0).bind fun v4 => if v4 then ((Cn a0.Phase).bind fun v5 => if (!v5) then ((Gv a0.In).bind fun v6 => if v6 then (some (decide ((a0.Out.length : Int) ≤ 65536))) else (some false)) else ((Jb a0.Req).bind fun v7 => if v7 then ((Gv a0.In).bind fun v8 => if v8 then (some (decide ((a0.Out.length : Int) ≤ 65536))) else (some false)) else (some false))) else (some false)) else (some false)) else (some false)) else (some false)
theorem Hp {a0 : Ag} {r : Bool} (h : Ex a0 = some r) : Bp Tryz.prog 12 [.agg (EL.el a0)] (· = .s (.one (.b r))) := by
 unfold Ex at h
 refine A2 Tryz.func12 rfl (nt := 41) rfl (Nbl rfl) ?_
 intro w0 S0
 refine Aq (Ab (Je rfl rfl (sv rfl (Ak rfl) (Ar (Aq (Ab (sv rfl (Aa Qp rfl) (sv rfl (Ao Aqj rfl (.lp _ _ _ rfl) (Nbl rfl)) ?_))))))))
 obtain ⟨v1, hv1, h⟩ := An h
 refine A1 rfl At6 (Ac rfl Al) (Aj rfl) (Mn hv1) (sv rfl (Ah rfl) (Bq 6 rfl (fun hc => ?_) (fun hc => ?_)))
 ·replace h := B1 hc h
  clear hc
  refine son rfl rfl rfl (sv rfl (Ao B4 rfl (.lp _ _ _ rfl) (Nbl rfl)) (son rfl rfl rfl ?_))
  obtain ⟨v2, hv2, h⟩ := An h
  refine A1 rfl Av7 (Ac rfl Al) (Aj rfl) (Ph hv2) (sv rfl (Au rfl rfl) (sv rfl (Ah rfl) (Bq 10 rfl (fun hc => ?_) (fun hc => ?_))))
  ·replace h := B1 hc h
   clear hc
   refine son rfl rfl rfl (sv rfl (Aa Mb rfl) (son rfl rfl rfl (sv rfl (Ae Y0 rfl (.lp _ _ _ rfl) rfl) (son rfl rfl rfl ?_))))
   obtain ⟨v3, hv3, h⟩ := An h
   refine A1 rfl Awe (Ac rfl Al) (Aj rfl) (Qb hv3) (sv rfl (Au rfl rfl) (sv rfl (Ah rfl) (Bq 15 rfl (fun hc => ?_) (fun hc => ?_))))
   ·replace h := B1 hc h
    clear hc
    refine son rfl rfl rfl (sv rfl (Ao B4 rfl (.lp _ _ _ rfl) (Nbl rfl)) (son rfl rfl rfl ?_))
    obtain ⟨v4, hv4, h⟩ := An h
    refine A1 rfl Au3 (Ac rfl Al) (Aj rfl) (Q6 hv4) (sv rfl (Au rfl rfl) (sv rfl (Ah rfl) (Bq 19 rfl (fun hc => ?_) (fun hc => ?_))))
    ·replace h := B1 hc h
     clear hc
     refine son rfl rfl rfl (sv rfl (Aa F7 rfl) (son rfl rfl rfl (sv rfl (Ae ti3 rfl (.lp _ _ _ rfl) rfl) (son rfl rfl rfl ?_))))
     obtain ⟨v5, hv5, h⟩ := An h
     refine A1 rfl Ajp (Ac rfl Al) (Aj rfl) (Dz hv5) (son rfl rfl rfl (sv rfl (B8 rfl) (son rfl rfl rfl (sv rfl (Ah rfl) (Bq 24 rfl (fun hc => ?_) (fun hc => ?_))))))
     ·replace h := B1 hc h
      clear hc
      refine Aw rfl rfl rfl rfl (Aw rfl rfl rfl rfl (Aw rfl rfl rfl rfl (son rfl rfl rfl (sv rfl (Au rfl rfl) (sv rfl (Au rfl rfl) (sv rfl (Ah rfl) (son rfl rfl rfl (sv rfl (Aa Ws rfl) (son rfl rfl rfl (sv rfl (Ao Ah0 rfl (.lp _ _ _ rfl) (Nbl rfl)) (son rfl rfl rfl ?_)))))))))))
      obtain ⟨v6, hv6, h⟩ := An h
      refine A1 rfl Asn (Ac rfl Al) (Aj rfl) (Mu hv6) (sv rfl (Au rfl rfl) (sv rfl (Ah rfl) (Bq 35 rfl (fun hc => ?_) (fun hc => ?_))))
      ·replace h := B1 hc h
       clear hc
       refine son rfl rfl rfl (sv rfl (Aa Qh rfl) (son rfl rfl rfl (sv rfl (Ae L2 rfl (.lp _ _ _ rfl) rfl) (son rfl rfl rfl (sv rfl (Az Lc rfl) (son rfl rfl rfl (sv rfl (F1 rfl rfl) (sv rfl (Au rfl rfl) (sv rfl (Ak rfl) (Ar (Bj ?_)))))))))))
       obtain rfl := SJ h
       refine ⟨Or.inr rfl, _, _, _, (Ad (Bc.tmp _ _ rfl) Af), (Aj rfl), ?_⟩
       rfl
      ·replace h := B0 hc h
       clear hc
       refine Aw rfl rfl rfl rfl (Aw rfl rfl rfl rfl (Aw rfl rfl rfl rfl (Aw rfl rfl rfl rfl (sv rfl (Am rfl rfl) (sv rfl (Ak rfl) (Ar (Bj ?_)))))))
       obtain rfl := SJ h
       refine ⟨Or.inr rfl, _, _, _, (Ad (Bc.tmp _ _ rfl) Af), (Aj rfl), ?_⟩
       rfl
     ·replace h := B0 hc h
      clear hc
      refine son rfl rfl rfl (sv rfl (Aa Ji rfl) (son rfl rfl rfl (sv rfl (Ao Aei rfl (.lp _ _ _ rfl) (Nbl rfl)) (son rfl rfl rfl ?_))))
      obtain ⟨v7, hv7, h⟩ := An h
      refine A1 rfl Atl (Ac rfl Al) (Aj rfl) (Pf hv7) (son rfl rfl rfl (sv rfl (Am rfl rfl) (sv rfl (Au rfl rfl) (sv rfl (Ah rfl) (Bq 30 rfl (fun hc => ?_) (fun hc => ?_))))))
      ·replace h := B1 hc h
       clear hc
       refine son rfl rfl rfl (sv rfl (Aa Ws rfl) (son rfl rfl rfl (sv rfl (Ao Ah0 rfl (.lp _ _ _ rfl) (Nbl rfl)) (son rfl rfl rfl ?_))))
       obtain ⟨v8, hv8, h⟩ := An h
       refine A1 rfl Asn (Ac rfl Al) (Aj rfl) (Mu hv8) (sv rfl (Au rfl rfl) (sv rfl (Ah rfl) (Bq 35 rfl (fun hc => ?_) (fun hc => ?_))))
       ·replace h := B1 hc h
        clear hc
        refine son rfl rfl rfl (sv rfl (Aa Qh rfl) (son rfl rfl rfl (sv rfl (Ae L2 rfl (.lp _ _ _ rfl) rfl) (son rfl rfl rfl (sv rfl (Az Lc rfl) (son rfl rfl rfl (sv rfl (F1 rfl rfl) (sv rfl (Au rfl rfl) (sv rfl (Ak rfl) (Ar (Bj ?_)))))))))))
        obtain rfl := SJ h
        refine ⟨Or.inr rfl, _, _, _, (Ad (Bc.tmp _ _ rfl) Af), (Aj rfl), ?_⟩
        rfl
       ·replace h := B0 hc h
        clear hc
        refine Aw rfl rfl rfl rfl (Aw rfl rfl rfl rfl (Aw rfl rfl rfl rfl (Aw rfl rfl rfl rfl (sv rfl (Am rfl rfl) (sv rfl (Ak rfl) (Ar (Bj ?_)))))))
        obtain rfl := SJ h
        refine ⟨Or.inr rfl, _, _, _, (Ad (Bc.tmp _ _ rfl) Af), (Aj rfl), ?_⟩
        rfl
      ·replace h := B0 hc h
       clear hc
       refine Aw rfl rfl rfl rfl (Aw rfl rfl rfl rfl (Aw rfl rfl rfl rfl (sv rfl (Am rfl rfl) (sv rfl (Ah rfl) (Aw rfl rfl rfl rfl (Aw rfl rfl rfl rfl (Aw rfl rfl rfl rfl (Aw rfl rfl rfl rfl (sv rfl (Am rfl rfl) (sv rfl (Ak rfl) (Ar (Bj ?_))))))))))))
       obtain rfl := SJ h
       refine ⟨Or.inr rfl, _, _, _, (Ad (Bc.tmp _ _ rfl) Af), (Aj rfl), ?_⟩
       rfl
    ·replace h := B0 hc h
     clear hc
     refine Aw rfl rfl rfl rfl (Aw rfl rfl rfl rfl (Aw rfl rfl rfl rfl (Aw rfl rfl rfl rfl (Aw rfl rfl rfl rfl (Ju rfl rfl rfl (Ju rfl rfl rfl (Ju rfl rfl rfl (Aw rfl rfl rfl rfl (sv rfl (Am rfl rfl) (sv rfl (Ah rfl) (Aw rfl rfl rfl rfl (Aw rfl rfl rfl rfl (Aw rfl rfl rfl rfl (sv rfl (Am rfl rfl) (sv rfl (Ah rfl) (Aw rfl rfl rfl rfl (Aw rfl rfl rfl rfl (Aw rfl rfl rfl rfl (Aw rfl rfl rfl rfl (sv rfl (Am rfl rfl) (sv rfl (Ak rfl) (Ar (Bj ?_)))))))))))))))))))))))
     obtain rfl := SJ h
     refine ⟨Or.inr rfl, _, _, _, (Ad (Bc.tmp _ _ rfl) Af), (Aj rfl), ?_⟩
     rfl
   ·replace h := B0 hc h
    clear hc
    refine Aw rfl rfl rfl rfl (Aw rfl rfl rfl rfl (sv rfl (Am rfl rfl) (sv rfl (Ah rfl) (Aw rfl rfl rfl rfl (Aw rfl rfl rfl rfl (Aw rfl rfl rfl rfl (Aw rfl rfl rfl rfl (Aw rfl rfl rfl rfl (Ju rfl rfl rfl (Ju rfl rfl rfl (Ju rfl rfl rfl (Aw rfl rfl rfl rfl (sv rfl (Am rfl rfl) (sv rfl (Ah rfl) (Aw rfl rfl rfl rfl (Aw rfl rfl rfl rfl (Aw rfl rfl rfl rfl (sv rfl (Am rfl rfl) (sv rfl (Ah rfl) (Aw rfl rfl rfl rfl (Aw rfl rfl rfl rfl (Aw rfl rfl rfl rfl (Aw rfl rfl rfl rfl (sv rfl (Am rfl rfl) (sv rfl (Ak rfl) (Ar (Bj ?_)))))))))))))))))))))))))))
    obtain rfl := SJ h
    refine ⟨Or.inr rfl, _, _, _, (Ad (Bc.tmp _ _ rfl) Af), (Aj rfl), ?_⟩
    rfl
  ·replace h := B0 hc h
   clear hc
   refine Aw rfl rfl rfl rfl (Aw rfl rfl rfl rfl (Aw rfl rfl rfl rfl (sv rfl (Am rfl rfl) (sv rfl (Ah rfl) (Aw rfl rfl rfl rfl (Aw rfl rfl rfl rfl (sv rfl (Am rfl rfl) (sv rfl (Ah rfl) (Aw rfl rfl rfl rfl (Aw rfl rfl rfl rfl (Aw rfl rfl rfl rfl (Aw rfl rfl rfl rfl (Aw rfl rfl rfl rfl (Ju rfl rfl rfl (Ju rfl rfl rfl (Ju rfl rfl rfl (Aw rfl rfl rfl rfl (sv rfl (Am rfl rfl) (sv rfl (Ah rfl) (Aw rfl rfl rfl rfl (Aw rfl rfl rfl rfl (Aw rfl rfl rfl rfl (sv rfl (Am rfl rfl) (sv rfl (Ah rfl) (Aw rfl rfl rfl rfl (Aw rfl rfl rfl rfl (Aw rfl rfl rfl rfl (Aw rfl rfl rfl rfl (sv rfl (Am rfl rfl) (sv rfl (Ak rfl) (Ar (Bj ?_))))))))))))))))))))))))))))))))
   obtain rfl := SJ h
   refine ⟨Or.inr rfl, _, _, _, (Ad (Bc.tmp _ _ rfl) Af), (Aj rfl), ?_⟩
   rfl
 ·replace h := B0 hc h
  clear hc
  refine Aw rfl rfl rfl rfl (Aw rfl rfl rfl rfl (sv rfl (Am rfl rfl) (sv rfl (Ah rfl) (Aw rfl rfl rfl rfl (Aw rfl rfl rfl rfl (Aw rfl rfl rfl rfl (sv rfl (Am rfl rfl) (sv rfl (Ah rfl) (Aw rfl rfl rfl rfl (Aw rfl rfl rfl rfl (sv rfl (Am rfl rfl) (sv rfl (Ah rfl) (Aw rfl rfl rfl rfl (Aw rfl rfl rfl rfl (Aw rfl rfl rfl rfl (Aw rfl rfl rfl rfl (Aw rfl rfl rfl rfl (Ju rfl rfl rfl (Ju rfl rfl rfl (Ju rfl rfl rfl (Aw rfl rfl rfl rfl (sv rfl (Am rfl rfl) (sv rfl (Ah rfl) (Aw rfl rfl rfl rfl (Aw rfl rfl rfl rfl (Aw rfl rfl rfl rfl (sv rfl (Am rfl rfl) (sv rfl (Ah rfl) (Aw rfl rfl rfl rfl (Aw rfl rfl rfl rfl (Aw rfl rfl rfl rfl (Aw rfl rfl rfl rfl (sv rfl (Am rfl rfl) (sv rfl (Ak rfl) (Ar (Bj ?_))))))))))))))))))))))))))))))))))))
  obtain rfl := SJ h
  refine ⟨Or.inr rfl, _, _, _, (Ad (Bc.tmp _ _ rfl) Af), (Aj rfl), ?_⟩
  rfl
def Ix (a0 : Int) (b1 : Unit) : Option (List Ba) :=
 if (decide (0 < (wI (a0 - (wI (0 - 0)))))) then (if 0 < (wI (a0 - (wI (0 - 0)))) ∧ (wI (a0 - (wI (0 - 0)))) * ((96 : Nat) : Int) ≤ 281474976710656 then (if (0 : Int) ≤ 0 ∧ 0 ≤ ((List.replicate (wI (a0 - (wI (0 - 0)))).toNat Lx).length : Int) then (some ((List.replicate (wI (a0 - (wI (0 - 0)))).toNat Lx).take (0 : Int).toNat)) else none) else none) else (some ([] : List Ba))
def I4 (a0 : Int) : Option (List Ba) :=
 if (decide (a0 < 0)) then none else (Ix a0 ())
theorem So {a0 : Int} {r : (List Ba)} (h : I4 a0 = some r) : Gs Tryz.prog 125 [] [.one (Znl), .one (Ii6 a0)] (fun y m' => y = .s (.one (.ls 0 r.length)) ∧ m' = [.arr 61 12 0 (r.flatMap A8)]) := by
 unfold I4 at h
 refine Cv Tryz.func125 rfl (nt := 27) rfl (Nbl rfl) ?_
 intro w0 S0 X0 H0
 refine Aq (Ab (sv rfl (Ak rfl) (Ar (Aq (Aq (Ab (sv rfl (Ah rfl) (sv rfl (Cs rfl rfl) (Ar (G5 (Unit) (fun b1 => [(0, .s (.one (Znl))), (1, .s (.one (Ii6 a0)))]) (fun b1 => []) (fun b1 => Ix a0 b1 = some r) (fun _ _ => Bg rfl) (fun _ _ => A0 rfl) (fun _ _ => Nbl rfl) (fun b1 h => ?_) ?_))))))))))
 ·unfold Ix at h
  refine Aq (Aq (Ab (sv rfl (Ah rfl) (sv rfl (Ah rfl) (sv rfl (Kq Ahv rfl) (sv rfl (Ah rfl) (sv rfl (Ko Ahv rfl) (sv rfl (My rfl rfl) (sv rfl (My rfl rfl) (sv rfl (Ak rfl) (Ar (Aq (Ab (sv rfl (Ah rfl) (sv rfl (Dg rfl rfl) (Ar (ccI h rfl (fun h => ?_) (fun h => ?_))))))))))))))))))
  ·refine Ab (sv rfl (Ah rfl) (sv rfl (Ah rfl) (sv rfl (Kq Ahv rfl) (sv rfl (Nt Ahv rfl rfl) (sv rfl (Ah rfl) ?_)))))
   obtain ⟨hm2, h⟩ := D4 h
   refine Alb (f := A8) (z := Lx) rfl Tryz.underlying41 Atb Tryz.underlying3 (fun _ => rfl) rfl rfl rfl hm2 (by decide) ?_
   refine sv rfl (Ah rfl) (sv rfl (Ko Ahv rfl) ?_)
   obtain ⟨hs3, h⟩ := D4 h
   refine Acq (f := A8) rfl Ahv (fun _ => rfl) rfl rfl rfl rfl rfl hs3 ?_
   refine sv rfl (Ak rfl) (Ar (Aq (Ab (sv rfl (Ah rfl) (sv rfl (Ak rfl) (Ar (Bj ?_)))))))
   obtain rfl := SJ h
   exact ⟨Or.inr rfl, _, [1], [.one (.ls 0 ((List.replicate (wI (a0 - (wI (0 - 0)))).toNat Lx).take (0 : Int).toNat).length)], [.arr 61 12 0 (((List.replicate (wI (a0 - (wI (0 - 0)))).toNat Lx).take (0 : Int).toNat).flatMap A8)], (Ad (Bc.tmp _ _ rfl) Af), rfl, rfl, ⟨by decide, rfl⟩, rfl, rfl, ⟨rfl, rfl⟩⟩
  ·refine Bl (Ai (Aq (Ab (sv rfl (Ah rfl) (sv rfl (Ak rfl) (Ar ?_))))))
   refine Ov 61 12 4 (by decide) rfl ?_
   refine Bj ?_
   obtain rfl := SJ h
   exact ⟨Or.inr rfl, _, [0], [.one (.ls 0 ([] : List Ba).length)], [.arr 61 12 0 (([] : List Ba).flatMap A8)], (Ad (Bc.tmp _ _ rfl) Af), rfl, rfl, ⟨by decide, rfl⟩, rfl, rfl, ⟨rfl, rfl⟩⟩
 ·skip
  refine ccI h rfl (fun h => ?_) (fun h => ?_)
  ·cases h
  ·refine Bl (Ai ?_)
   exact ⟨(), _, h, ⟨rfl, rfl, trivial⟩, rfl⟩
def Kc (b3 : (List Ba)) : Option (List Ba) :=
 some b3
def Er (a0 : List (List Ba)) (s4 : Int × (List Ba)) : Option (LB (Int × (List Ba)) ((List Ba))) :=
 if (decide (s4.1 < (a0.length : Int))) then ((idx a0 s4.1).bind fun u5 => if (s4.2.length + u5.length) * 96 ≤ 140737488355328 then (some (.cont ((wI (s4.1 + 1)), (s4.2 ++ u5)))) else none) else (some (.brk s4.2))
def H7 (a0 : List (List Ba)) (b1 : Int) : Option (List Ba) :=
 (I4 b1).bind fun v2 => (Ez (Er a0) fuel (0, v2)).bind fun e7 => Kc e7
def Eu (a0 : List (List Ba)) (s8 : Int × Int) : Option (LB (Int × Int) (Int)) :=
 if (decide (s8.2 < (a0.length : Int))) then ((idx a0 s8.2).bind fun u9 => if (decide ((wI (s8.1 + (u9.length : Int))) < 0)) then none else (some (.cont ((wI (s8.1 + (u9.length : Int))), (wI (s8.2 + 1)))))) else (some (.brk s8.1))
def Hz (a0 : List (List Ba)) : Option (List Ba) :=
 (Ez (Eu a0) fuel (0, 0)).bind fun e10 => H7 a0 e10
theorem Q8 {a0 : List (List Ba)} {r : (List Ba)} (h : Hz a0 = some r) : Gs Tryz.prog 109 [] [.one (.sl a0.length (a0.flatMap (eL A8)))] (fun y m' => y = .s (.one (.ls 0 r.length)) ∧ m' = [.arr 61 12 0 (r.flatMap A8)]) := by
 unfold Hz at h
 refine Cv Tryz.func109 rfl (nt := 36) rfl (Nbl rfl) ?_
 intro w0 S0 X0 H0
 refine Aq (Ab (sv rfl (Ak rfl) (Ar (Aq (Ab (sv rfl (Ak rfl) (Ar (Aq (Aq (Ab (sv rfl (Ah rfl) (sv rfl (Az Aj1 rfl) (sv rfl (Ah rfl) (Ar (G5 (Int) (fun b1 => [(0, .s (.one (.sl a0.length (a0.flatMap (eL A8))))), (3, .s (.one (Ii6 b1)))]) (fun b1 => []) (fun b1 => H7 a0 b1 = some r) (fun _ _ => Bg rfl) (fun _ _ => A0 rfl) (fun _ _ => Nbl rfl) (fun b1 h => ?_) ?_)))))))))))))))
 ·unfold H7 at h
  refine Aq (Ab (sv rfl (Ah rfl) ?_))
  obtain ⟨v2, hv2, h⟩ := An h
  refine C2 (x' := .s (.one (.ls 0 v2.length))) (M' := [.arr 61 12 0 (v2.flatMap A8)]) [] rfl Asz (.func _) (Ac rfl (Ac rfl Al)) (So hv2) rfl rfl (by decide) rfl rfl rfl ?_
  refine sv rfl (Ak rfl) (Ar (Aq (Aq (Ab (sv rfl (Ah rfl) (sv rfl (Az Aj1 rfl) (sv rfl (Ah rfl) (Ar (G5 ((List Ba)) (fun b3 => [(6, .s (.one (.ls 0 b3.length)))]) (fun b3 => [.arr 61 12 0 (b3.flatMap A8)]) (fun b3 => Kc b3 = some r) (fun _ _ => Bg rfl) (fun _ _ => A0 rfl) (fun _ _ => Nbl rfl) (fun b3 h => ?_) ?_)))))))))
  ·unfold Kc at h
   refine Aq (Ab (sv rfl (Ah rfl) (sv rfl (Ak rfl) (Ar (Bj ?_)))))
   obtain rfl := SJ h
   exact ⟨Or.inr rfl, _, [0], [.one (.ls 0 b3.length)], [.arr 61 12 0 (b3.flatMap A8)], (Ad (Bc.tmp _ _ rfl) Af), rfl, rfl, ⟨by decide, rfl⟩, rfl, rfl, ⟨rfl, rfl⟩⟩
  ·skip
   refine Ca ?_
   obtain ⟨x4, hx4, ho4⟩ := An h
   refine De (G := Nat × (Int × (List Ba))) (fun g => [(6, .s (.one (.ls 0 g.2.2.length))), (25, .s (.one (.sl a0.length (a0.flatMap (eL A8))))), (26, .s (.one (Ii6 (a0.length : Int)))), (27, .s (.one (Ii6 g.2.1)))]) (fun g => [.arr 61 12 0 (g.2.2.flatMap A8)]) (fun g => Ez (Er a0) g.1 g.2 = some x4) (fun g => g.1) (fuel, (0, v2)) hx4 ⟨rfl, rfl, rfl, rfl, trivial⟩ [] rfl (fun _ _ => Bg rfl) (fun _ _ => A0 rfl) (fun _ _ => Nbl rfl) ?_
   clear hx4 h
   rintro ⟨n4, s4⟩ h
   obtain ⟨n4, y4, rfl, h, hk4⟩ := Gp h
   unfold Er at h
   refine Aq (Ab (sv rfl (Cs rfl rfl) (Ar (Aq (ccI h rfl (fun h => ?_) (fun h => ?_))))))
   ·refine Bl (Ai (Aq (Ca (Aq (Ab ?_)))))
    obtain ⟨u5, hu5, h⟩ := An h
    refine sv rfl (Fm (f := (eL A8)) Aj1 (fun _ => rfl) rfl rfl rfl rfl hu5) ?_
    refine sv rfl (Ae Ant rfl (.cp _) rfl) (sv rfl (Ak rfl) (Ar (Ab (sv rfl (Ah rfl) (sv rfl (Ah rfl) ?_)))))
    obtain ⟨hb6, h⟩ := D4 h
    refine Ah2 (f := A8) (xs := s4.2) (us := u5) rfl Tryz.underlying41 Atb Avz (fun _ => rfl) rfl rfl (.one _ _ _ _ (.id _ rfl)) rfl rfl rfl (.sl _ _ _ (Bf (f := A8) (fun _ => rfl) _)) rfl rfl hb6 (by decide) ?_
    refine sv rfl (Ak rfl) (Ls (A5 (Ai (Ab (sv rfl (B9 rfl rfl) (sv rfl (Ah rfl) (Ar ?_)))))))
    obtain rfl := SJ h
    exact ⟨(n4, ((wI (s4.1 + 1)), (s4.2 ++ u5))), _, hk4, ⟨rfl, rfl, rfl, rfl, trivial⟩, rfl, Nat.lt_succ_self _⟩
   ·refine Lw (Bi (Bi (Ck (Ai ?_))))
    obtain rfl := SJ h
    obtain rfl : _ = x4 := hk4
    exact ⟨s4.2, _, ho4, ⟨rfl, trivial⟩, rfl⟩
 ·skip
  refine Ca ?_
  obtain ⟨x8, hx8, ho8⟩ := An h
  refine De (G := Nat × (Int × Int)) (fun g => [(0, .s (.one (.sl a0.length (a0.flatMap (eL A8))))), (3, .s (.one (Ii6 g.2.1))), (9, .s (.one (.sl a0.length (a0.flatMap (eL A8))))), (10, .s (.one (Ii6 (a0.length : Int)))), (11, .s (.one (Ii6 g.2.2)))]) (fun g => []) (fun g => Ez (Eu a0) g.1 g.2 = some x8) (fun g => g.1) (fuel, (0, 0)) hx8 ⟨rfl, rfl, rfl, rfl, rfl, trivial⟩ [] rfl (fun _ _ => Bg rfl) (fun _ _ => A0 rfl) (fun _ _ => Nbl rfl) ?_
  clear hx8 h
  rintro ⟨n8, s8⟩ h
  obtain ⟨n8, y8, rfl, h, hk8⟩ := Gp h
  unfold Eu at h
  refine Aq (Ab (sv rfl (Cs rfl rfl) (Ar (Aq (ccI h rfl (fun h => ?_) (fun h => ?_))))))
  ·refine Bl (Ai (Aq (Ca (Aq (Ab ?_)))))
   obtain ⟨u9, hu9, h⟩ := An h
   refine sv rfl (Fm (f := (eL A8)) Aj1 (fun _ => rfl) rfl rfl rfl rfl hu9) ?_
   refine sv rfl (Ae Ant rfl (.cp _) rfl) (sv rfl (Ak rfl) (Ar (Aq (Ab (sv rfl (Ah rfl) (sv rfl (Ah rfl) (sv rfl (Az Ahv rfl) (sv rfl (B9 rfl rfl) (sv rfl (Ak rfl) (Ar (Aq (Ab (sv rfl (Ah rfl) (sv rfl (Cs rfl rfl) (Ar (ccI h rfl (fun h => ?_) (fun h => ?_)))))))))))))))))
   ·cases h
   ·refine Bl (A5 (Ai (Ab (sv rfl (B9 rfl rfl) (sv rfl (Ah rfl) (Ar ?_))))))
    obtain rfl := SJ h
    exact ⟨(n8, ((wI (s8.1 + (u9.length : Int))), (wI (s8.2 + 1)))), _, hk8, ⟨rfl, rfl, rfl, rfl, rfl, trivial⟩, rfl, Nat.lt_succ_self _⟩
  ·refine Lw (Bi (Bi (Ck (Ai ?_))))
   obtain rfl := SJ h
   obtain rfl : _ = x8 := hk8
   exact ⟨s8.1, _, ho8, ⟨rfl, rfl, trivial⟩, rfl⟩
end Go.Proofs.YtbjckaahoacbfaaGreatDoor.Abs
