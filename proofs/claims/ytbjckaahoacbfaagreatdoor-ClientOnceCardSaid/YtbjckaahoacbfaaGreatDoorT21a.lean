/-
 t
-/
import Derived.Test.YtbjckaahoacbfaaGreatDoorAbsC
import Derived.Test.YtbjckaahoacbfaaGreatDoorProg
set_option linter.unusedVariables false
set_option linter.unusedSimpArgs false
namespace Go.Proofs.YtbjckaahoacbfaaGreatDoor.Abs
open Go.RowKit Go.Proofs
structure B8 where
 Lo : List UInt8
 Hi : List UInt8
 Open : Bool
def Xv (x : B8) : List Lf := [.sl x.Lo.length (x.Lo.flatMap eU8), .sl x.Hi.length (x.Hi.flatMap eU8), .b x.Open]
structure W3 where
 What : Int
 A : Int
 B : Int
 N : Int
 Key : List UInt8
 Rng : B8
def O5 (x : W3) : List Lf := [.i .i64 x.What, .i .i64 x.A, .i .i64 x.B, .i .i64 x.N, .sl x.Key.length (x.Key.flatMap eU8), .sl x.Rng.Lo.length (x.Rng.Lo.flatMap eU8), .sl x.Rng.Hi.length (x.Rng.Hi.flatMap eU8), .b x.Rng.Open]
structure Iq where
 RO : Bool
 Ops : List W3
def Aas (x : Iq) : List Lf := [.b x.RO, .sl x.Ops.length (x.Ops.flatMap O5)]
structure Rk where
 Token : Int
 Prog : Iq
def Zv (x : Rk) : List Lf := [.i .i64 x.Token, .b x.Prog.RO, .sl x.Prog.Ops.length (x.Prog.Ops.flatMap O5)]
structure Db where
 Key : List UInt8
 Val : List UInt8
def Dw (x : Db) : List Lf := [.sl x.Key.length (x.Key.flatMap eU8), .sl x.Val.length (x.Val.flatMap eU8)]
structure Hu where
 Kind : Int
 Seq : Int
 Code : Int
 N : Int
 Found : Bool
 Val : List UInt8
 List : List Db
def Xl (x : Hu) : List Lf := [.i .i64 x.Kind, .i .i64 x.Seq, .i .i64 x.Code, .i .i64 x.N, .b x.Found, .sl x.Val.length (x.Val.flatMap eU8), .sl x.List.length (x.List.flatMap Dw)]
structure I9 where
 What : Int
 N : Int
 Task : Rk
 Reply : Hu
 Bytes : List UInt8
def Jg (x : I9) : List Lf := [.i .i64 x.What, .i .i64 x.N, .i .i64 x.Task.Token, .b x.Task.Prog.RO, .sl x.Task.Prog.Ops.length (x.Task.Prog.Ops.flatMap O5), .i .i64 x.Reply.Kind, .i .i64 x.Reply.Seq, .i .i64 x.Reply.Code, .i .i64 x.Reply.N, .b x.Reply.Found, .sl x.Reply.Val.length (x.Reply.Val.flatMap eU8), .sl x.Reply.List.length (x.Reply.List.flatMap Dw), .sl x.Bytes.length (x.Bytes.flatMap eU8)]
structure Dn where
 Wait : Int
 Most : Int
 Tries : Int
def Aa2 (x : Dn) : List Lf := [.i .i64 x.Wait, .i .i64 x.Most, .i .i64 x.Tries]
structure Cr where
 Who : Int
 Plan : Dn
 Attempts : Int
 Budget : Int
def W9 (x : Cr) : List Lf := [.i .i64 x.Who, .i .i64 x.Plan.Wait, .i .i64 x.Plan.Most, .i .i64 x.Plan.Tries, .i .i64 x.Attempts, .i .i64 x.Budget]
structure B6 where
 What : Int
 A : Int
 B : Int
 N : Int
 Key : List UInt8
 Rng : B8
def Cf (x : B6) : List Lf := [.i .i64 x.What, .i .i64 x.A, .i .i64 x.B, .i .i64 x.N, .sl x.Key.length (x.Key.flatMap eU8), .sl x.Rng.Lo.length (x.Rng.Lo.flatMap eU8), .sl x.Rng.Hi.length (x.Rng.Hi.flatMap eU8), .b x.Rng.Open]
structure Co where
 RO : Bool
 Ops : List B6
def Aeb (x : Co) : List Lf := [.b x.RO, .sl x.Ops.length (x.Ops.flatMap Cf)]
structure Aw where
 Token : Int
 Prog : Co
def Ay (x : Aw) : List Lf := [.i .i64 x.Token, .b x.Prog.RO, .sl x.Prog.Ops.length (x.Prog.Ops.flatMap Cf)]
structure E3 where
 R0 : Int
 R1 : Int
 R2 : Int
 R3 : Int
 R4 : Int
 R5 : Int
 R6 : Int
 R7 : Int
def Ys (x : E3) : List Lf := [.i .i64 x.R0, .i .i64 x.R1, .i .i64 x.R2, .i .i64 x.R3, .i .i64 x.R4, .i .i64 x.R5, .i .i64 x.R6, .i .i64 x.R7]
structure A7 where
 PC : Int
 Regs : E3
 Stopped : Bool
def Aa5 (x : A7) : List Lf := [.i .i64 x.PC, .i .i64 x.Regs.R0, .i .i64 x.Regs.R1, .i .i64 x.Regs.R2, .i .i64 x.Regs.R3, .i .i64 x.Regs.R4, .i .i64 x.Regs.R5, .i .i64 x.Regs.R6, .i .i64 x.Regs.R7, .b x.Stopped]
structure Ca where
 Kind : Int
 Seq : Int
 Token : Int
 Attempt : Int
 RO : Bool
 Key : List UInt8
 Val : List UInt8
 Rng : B8
def Ajz (x : Ca) : List Lf := [.i .i64 x.Kind, .i .i64 x.Seq, .i .i64 x.Token, .i .i64 x.Attempt, .b x.RO, .sl x.Key.length (x.Key.flatMap eU8), .sl x.Val.length (x.Val.flatMap eU8), .sl x.Rng.Lo.length (x.Rng.Lo.flatMap eU8), .sl x.Rng.Hi.length (x.Rng.Hi.flatMap eU8), .b x.Rng.Open]
structure Bm where
 Buf : List UInt8
 Dead : Int
def Xk (x : Bm) : List Lf := [.sl x.Buf.length (x.Buf.flatMap eU8), .i .i64 x.Dead]
structure A8 where
 Token : Int
 Code : Int
 Attempt : Int
 Ts : Int
 Regs : E3
def A6 (x : A8) : List Lf := [.i .i64 x.Token, .i .i64 x.Code, .i .i64 x.Attempt, .i .i64 x.Ts, .i .i64 x.Regs.R0, .i .i64 x.Regs.R1, .i .i64 x.Regs.R2, .i .i64 x.Regs.R3, .i .i64 x.Regs.R4, .i .i64 x.Regs.R5, .i .i64 x.Regs.R6, .i .i64 x.Regs.R7]
structure A5 where
 Token : Int
 Attempt : Int
 Regs : E3
def Bb (x : A5) : List Lf := [.i .i64 x.Token, .i .i64 x.Attempt, .i .i64 x.Regs.R0, .i .i64 x.Regs.R1, .i .i64 x.Regs.R2, .i .i64 x.Regs.R3, .i .i64 x.Regs.R4, .i .i64 x.Regs.R5, .i .i64 x.Regs.R6, .i .i64 x.Regs.R7]
structure Ah where
 Cfg : Cr
 Tasks : List Aw
 Phase : Int
 Epoch : Int
 Seq : Int
 Attempt : Int
 Sent : Int
 Left : Int
 Resets : Int
 Risk : Bool
 St : A7
 Req : Ca
 In : Bm
 Out : List UInt8
 Done : List A8
 Tried : List A5
def W6 (x : Ah) : List Lf := [.i .i64 x.Cfg.Who, .i .i64 x.Cfg.Plan.Wait, .i .i64 x.Cfg.Plan.Most, .i .i64 x.Cfg.Plan.Tries, .i .i64 x.Cfg.Attempts, .i .i64 x.Cfg.Budget, .sl x.Tasks.length (x.Tasks.flatMap Ay), .i .i64 x.Phase, .i .i64 x.Epoch, .i .i64 x.Seq, .i .i64 x.Attempt, .i .i64 x.Sent, .i .i64 x.Left, .i .i64 x.Resets, .b x.Risk, .i .i64 x.St.PC, .i .i64 x.St.Regs.R0, .i .i64 x.St.Regs.R1, .i .i64 x.St.Regs.R2, .i .i64 x.St.Regs.R3, .i .i64 x.St.Regs.R4, .i .i64 x.St.Regs.R5, .i .i64 x.St.Regs.R6, .i .i64 x.St.Regs.R7, .b x.St.Stopped, .i .i64 x.Req.Kind, .i .i64 x.Req.Seq, .i .i64 x.Req.Token, .i .i64 x.Req.Attempt, .b x.Req.RO, .sl x.Req.Key.length (x.Req.Key.flatMap eU8), .sl x.Req.Val.length (x.Req.Val.flatMap eU8), .sl x.Req.Rng.Lo.length (x.Req.Rng.Lo.flatMap eU8), .sl x.Req.Rng.Hi.length (x.Req.Rng.Hi.flatMap eU8), .b x.Req.Rng.Open, .sl x.In.Buf.length (x.In.Buf.flatMap eU8), .i .i64 x.In.Dead, .sl x.Out.length (x.Out.flatMap eU8), .sl x.Done.length (x.Done.flatMap A6), .sl x.Tried.length (x.Tried.flatMap Bb)]
structure K8 where
 R0 : Bool
 R1 : Bool
 R2 : Bool
def Aa8 (x : K8) : List Lf := [.b x.R0, .b x.R1, .b x.R2]
structure Lc where
 size_ : Int
 sum_ : BitVec 32
structure Gh where
 head_ : Lc
 payload_ : List UInt8
def Zx (x : Gh) : List Lf := [.i .i64 x.head_.size_, .i .u32 (x.head_.sum_.toNat : Int), .sl x.payload_.length (x.payload_.flatMap eU8)]
structure Gz where
 token_ : Bool
 attempt_ : Bool
 ro_ : Bool
 key_ : Bool
 val_ : Bool
 rng_ : Bool
def Uk (x : Gz) : List Lf := [.b x.token_, .b x.attempt_, .b x.ro_, .b x.key_, .b x.val_, .b x.rng_]
def Aqs : List Gz := [⟨false, false, false, false, false, false⟩, ⟨true, true, false, false, false, false⟩, ⟨true, true, true, false, false, false⟩, ⟨false, false, false, true, false, false⟩, ⟨false, false, false, true, true, false⟩, ⟨false, false, false, true, false, false⟩, ⟨false, false, false, false, false, true⟩, ⟨false, false, false, false, false, false⟩, ⟨false, false, false, false, false, false⟩, ⟨true, true, false, false, false, false⟩, ⟨true, false, false, false, false, false⟩, ⟨false, false, false, false, false, false⟩]
structure Bf where
 Kind : Int
 Seq : Int
 Code : Int
 N : Int
 Found : Bool
 Val : List UInt8
 List : List Db
def Aec (x : Bf) : List Lf := [.i .i64 x.Kind, .i .i64 x.Seq, .i .i64 x.Code, .i .i64 x.N, .b x.Found, .sl x.Val.length (x.Val.flatMap eU8), .sl x.List.length (x.List.flatMap Dw)]
def Ia (a : E3) (j : Int) (v : Int) : Option E3 :=
 if j = 0 then some ⟨v, a.R1, a.R2, a.R3, a.R4, a.R5, a.R6, a.R7⟩ else if j = 1 then some ⟨a.R0, v, a.R2, a.R3, a.R4, a.R5, a.R6, a.R7⟩ else if j = 2 then some ⟨a.R0, a.R1, v, a.R3, a.R4, a.R5, a.R6, a.R7⟩ else if j = 3 then some ⟨a.R0, a.R1, a.R2, v, a.R4, a.R5, a.R6, a.R7⟩ else if j = 4 then some ⟨a.R0, a.R1, a.R2, a.R3, v, a.R5, a.R6, a.R7⟩ else if j = 5 then some ⟨a.R0, a.R1, a.R2, a.R3, a.R4, v, a.R6, a.R7⟩ else if j = 6 then some ⟨a.R0, a.R1, a.R2, a.R3, a.R4, a.R5, v, a.R7⟩ else if j = 7 then some ⟨a.R0, a.R1, a.R2, a.R3, a.R4, a.R5, a.R6, v⟩ else none
def Ab8 (x : Lc) : List Lf := [.i .i64 x.size_, .i .u32 (x.sum_.toNat : Int)]
class EL (α : Type) where
 el : α → List Lf
instance : EL B8 := ⟨Xv⟩
instance : EL W3 := ⟨O5⟩
instance : EL Iq := ⟨Aas⟩
instance : EL Rk := ⟨Zv⟩
instance : EL Db := ⟨Dw⟩
instance : EL Hu := ⟨Xl⟩
instance : EL I9 := ⟨Jg⟩
instance : EL Dn := ⟨Aa2⟩
instance : EL Cr := ⟨W9⟩
instance : EL B6 := ⟨Cf⟩
instance : EL Co := ⟨Aeb⟩
instance : EL Aw := ⟨Ay⟩
instance : EL E3 := ⟨Ys⟩
instance : EL A7 := ⟨Aa5⟩
instance : EL Ca := ⟨Ajz⟩
instance : EL Bm := ⟨Xk⟩
instance : EL A8 := ⟨A6⟩
instance : EL A5 := ⟨Bb⟩
instance : EL Ah := ⟨W6⟩
instance : EL K8 := ⟨Aa8⟩
instance : EL Lc := ⟨Ab8⟩
instance : EL Gh := ⟨Zx⟩
instance : EL Gz := ⟨Uk⟩
instance : EL Bf := ⟨Aec⟩
abbrev Bt : B8 := (B8.mk ([] : List UInt8) ([] : List UInt8) false)
abbrev Nl : Aw := (Aw.mk 0 (Co.mk false ([] : List B6)))
abbrev Hw : A7 := (A7.mk 0 (E3.mk 0 0 0 0 0 0 0 0) false)
abbrev Oq : Ca := (Ca.mk 0 0 0 0 false ([] : List UInt8) ([] : List UInt8) (B8.mk ([] : List UInt8) ([] : List UInt8) false))
abbrev Lx : A8 := (A8.mk 0 0 0 0 (E3.mk 0 0 0 0 0 0 0 0))
abbrev Mo : A5 := (A5.mk 0 0 (E3.mk 0 0 0 0 0 0 0 0))
abbrev C0 : Ah := (Ah.mk (Cr.mk 0 (Dn.mk 0 0 0) 0 0) ([] : List Aw) 0 0 0 0 0 0 0 false (A7.mk 0 (E3.mk 0 0 0 0 0 0 0 0) false) (Ca.mk 0 0 0 0 false ([] : List UInt8) ([] : List UInt8) (B8.mk ([] : List UInt8) ([] : List UInt8) false)) (Bm.mk ([] : List UInt8) 0) ([] : List UInt8) ([] : List A8) ([] : List A5))
abbrev X3 : Bf := (Bf.mk 0 0 0 0 false ([] : List UInt8) ([] : List Db))
abbrev Znl : Lf := .raw (.slice none 0 0)
abbrev Ii6 (n : Int) : Lf := .i .i64 n
abbrev Zba : List Lf := [Ii6 0, Ii6 0, Ii6 0, Ii6 0, Ii6 0, Ii6 0, Znl, Ii6 0, Ii6 0, Ii6 0, Ii6 0, Ii6 0, Ii6 0, Ii6 0, .b false, Ii6 0, Ii6 0, Ii6 0, Ii6 0, Ii6 0, Ii6 0, Ii6 0, Ii6 0, Ii6 0, .b false, Ii6 0, Ii6 0, Ii6 0, Ii6 0, .b false, Znl, Znl, Znl, Znl, .b false, Znl, Ii6 0, Znl, Znl, Znl]
abbrev Zbb : List Lf := [Ii6 0, Ii6 0, Ii6 0, Ii6 0, Ii6 0, Ii6 0, Ii6 0, Ii6 0, Ii6 0, .b false]
abbrev Zbc : List Lf := [Ii6 0, Ii6 0, Ii6 0, Ii6 0, .b false, Znl, Znl, Znl, Znl, .b false]
abbrev Zbd : List Lf := [Ii6 0, Ii6 0, Ii6 0, Ii6 0, .b false, Znl, Znl]
theorem Nbl {n m : Nat} (h : Nat.ble n m = true) : n ≤ m := Nat.le_of_ble_eq_true h
theorem At6 : ZI Tryz.prog 28 ([Ii6 0, Ii6 0, Ii6 0, Ii6 0, Ii6 0, Ii6 0]) := Nv (by kernel_rfl)
theorem Auv : ZI Tryz.prog 26 ([Ii6 0, Ii6 0, Ii6 0]) := Nv (by kernel_rfl)
theorem Awg : PI Tryz.prog 26 [(0, 1), (1, 1), (2, 1)] := Qd Tryz.underlying26 (by kernel_rfl) (by kernel_rfl)
theorem Avi : PI Tryz.prog 28 [(0, 1), (1, 3), (4, 1), (5, 1)] := Qd Tryz.underlying28 (by kernel_rfl) (by kernel_rfl)
theorem Au6 : (Tryz.prog.info? 28).map (·.size) = some 6 := by kernel_rfl
theorem Aqh : TI Tryz.prog 28 true 6 := ⟨⟨_, Tryz.underlying28, rfl⟩, by kernel_rfl⟩
theorem Atm : FnI Tryz.prog 10 := ⟨⟨_, Tryz.func10, by kernel_rfl, by kernel_rfl⟩⟩
theorem Nn : ZI Tryz.prog 44 (Zba) := Nv (by kernel_rfl)
theorem Agn : FI Tryz.prog 28 0 0 := ⟨⟨_, _, 1, Tryz.underlying28, rfl, rfl, by kernel_rfl, by decide⟩⟩
theorem ti3 : TI Tryz.prog 3 false 1 := ⟨⟨_, Tryz.underlying3, rfl⟩, by kernel_rfl⟩
theorem Aer : FnI Tryz.prog 36 := ⟨⟨_, Tryz.func36, by kernel_rfl, by kernel_rfl⟩⟩
theorem Wt : FI Tryz.prog 28 1 1 := ⟨⟨_, _, 3, Tryz.underlying28, rfl, rfl, by kernel_rfl, by decide⟩⟩
theorem Aj4 : TI Tryz.prog 26 true 3 := ⟨⟨_, Tryz.underlying26, rfl⟩, by kernel_rfl⟩
theorem Adb : FI Tryz.prog 26 0 0 := ⟨⟨_, _, 1, Tryz.underlying26, rfl, rfl, by kernel_rfl, by decide⟩⟩
theorem Ahp : FI Tryz.prog 26 1 1 := ⟨⟨_, _, 1, Tryz.underlying26, rfl, rfl, by kernel_rfl, by decide⟩⟩
theorem Aap : FI Tryz.prog 26 2 2 := ⟨⟨_, _, 1, Tryz.underlying26, rfl, rfl, by kernel_rfl, by decide⟩⟩
theorem Atw : FnI Tryz.prog 58 := ⟨⟨_, Tryz.func58, by kernel_rfl, by kernel_rfl⟩⟩
theorem Afq : FI Tryz.prog 28 2 4 := ⟨⟨_, _, 1, Tryz.underlying28, rfl, rfl, by kernel_rfl, by decide⟩⟩
theorem Ak8 : FI Tryz.prog 28 3 5 := ⟨⟨_, _, 1, Tryz.underlying28, rfl, rfl, by kernel_rfl, by decide⟩⟩
theorem Aur : FnI Tryz.prog 25 := ⟨⟨_, Tryz.func25, by kernel_rfl, by kernel_rfl⟩⟩
theorem Ac4 : PI Tryz.prog 44 [(0, 6), (6, 1), (7, 1), (8, 1), (9, 1), (10, 1), (11, 1), (12, 1), (13, 1), (14, 1), (15, 10), (25, 10), (35, 2), (37, 1), (38, 1), (39, 1)] := Qd Tryz.underlying44 (by kernel_rfl) (by kernel_rfl)
theorem Ey : (Tryz.prog.info? 44).map (·.size) = some 40 := by kernel_rfl
theorem B5 : TI Tryz.prog 44 true 40 := ⟨⟨_, Tryz.underlying44, rfl⟩, by kernel_rfl⟩
theorem fn9 : FnI Tryz.prog 9 := ⟨⟨_, Tryz.func9, by kernel_rfl, by kernel_rfl⟩⟩
theorem Qt : FI Tryz.prog 44 0 0 := ⟨⟨_, _, 6, Tryz.underlying44, rfl, rfl, by kernel_rfl, by decide⟩⟩
theorem G4 : FI Tryz.prog 44 2 7 := ⟨⟨_, _, 1, Tryz.underlying44, rfl, rfl, by kernel_rfl, by decide⟩⟩
theorem Zz : FI Tryz.prog 44 3 8 := ⟨⟨_, _, 1, Tryz.underlying44, rfl, rfl, by kernel_rfl, by decide⟩⟩
theorem Xs : FI Tryz.prog 44 4 9 := ⟨⟨_, _, 1, Tryz.underlying44, rfl, rfl, by kernel_rfl, by decide⟩⟩
theorem Oe : FI Tryz.prog 44 5 10 := ⟨⟨_, _, 1, Tryz.underlying44, rfl, rfl, by kernel_rfl, by decide⟩⟩
theorem Aan : FI Tryz.prog 44 6 11 := ⟨⟨_, _, 1, Tryz.underlying44, rfl, rfl, by kernel_rfl, by decide⟩⟩
theorem Ra : FI Tryz.prog 44 7 12 := ⟨⟨_, _, 1, Tryz.underlying44, rfl, rfl, by kernel_rfl, by decide⟩⟩
theorem Acy : FI Tryz.prog 44 8 13 := ⟨⟨_, _, 1, Tryz.underlying44, rfl, rfl, by kernel_rfl, by decide⟩⟩
theorem Au0 : FnI Tryz.prog 29 := ⟨⟨_, Tryz.func29, by kernel_rfl, by kernel_rfl⟩⟩
theorem Lw : FI Tryz.prog 44 1 6 := ⟨⟨_, _, 1, Tryz.underlying44, rfl, rfl, by kernel_rfl, by decide⟩⟩
theorem Xy : TI Tryz.prog 29 false 1 := ⟨⟨_, Tryz.underlying29, rfl⟩, by kernel_rfl⟩
theorem T6 : SI Tryz.prog 29 94 3 := ⟨Tryz.underlying29, by kernel_rfl, by decide⟩
theorem Ama : TI Tryz.prog 94 true 3 := ⟨⟨_, Tryz.underlying94, rfl⟩, by kernel_rfl⟩
theorem Anv : ZI Tryz.prog 94 ([Ii6 0, .b false, Znl]) := Nv (by kernel_rfl)
theorem Aqq : (Tryz.prog.info? 94).map (·.size) = some 3 := by kernel_rfl
theorem Sj : FI Tryz.prog 94 0 0 := ⟨⟨_, _, 1, Tryz.underlying94, rfl, rfl, by kernel_rfl, by decide⟩⟩
theorem Acl : FI Tryz.prog 94 1 1 := ⟨⟨_, _, 2, Tryz.underlying94, rfl, rfl, by kernel_rfl, by decide⟩⟩
theorem Amw : TI Tryz.prog 92 true 2 := ⟨⟨_, Tryz.underlying92, rfl⟩, by kernel_rfl⟩
theorem R9 : FI Tryz.prog 92 1 1 := ⟨⟨_, _, 1, Tryz.underlying92, rfl, rfl, by kernel_rfl, by decide⟩⟩
theorem Aix : TI Tryz.prog 90 false 1 := ⟨⟨_, Tryz.underlying90, rfl⟩, by kernel_rfl⟩
theorem Ajo : SI Tryz.prog 90 89 8 := ⟨Tryz.underlying90, by kernel_rfl, by decide⟩
theorem Ako : TI Tryz.prog 89 true 8 := ⟨⟨_, Tryz.underlying89, rfl⟩, by kernel_rfl⟩
theorem Ap9 : ZI Tryz.prog 89 ([Ii6 0, Ii6 0, Ii6 0, Ii6 0, Znl, Znl, Znl, .b false]) := Nv (by kernel_rfl)
theorem Asb : (Tryz.prog.info? 89).map (·.size) = some 8 := by kernel_rfl
theorem Akw : FI Tryz.prog 92 0 0 := ⟨⟨_, _, 1, Tryz.underlying92, rfl, rfl, by kernel_rfl, by decide⟩⟩
theorem ti4 : TI Tryz.prog 4 false 1 := ⟨⟨_, Tryz.underlying4, rfl⟩, by kernel_rfl⟩
theorem Vu : FI Tryz.prog 89 0 0 := ⟨⟨_, _, 1, Tryz.underlying89, rfl, rfl, by kernel_rfl, by decide⟩⟩
theorem Afh : FnI Tryz.prog 120 := ⟨⟨_, Tryz.func120, by kernel_rfl, by kernel_rfl⟩⟩
theorem Uq : FI Tryz.prog 89 1 1 := ⟨⟨_, _, 1, Tryz.underlying89, rfl, rfl, by kernel_rfl, by decide⟩⟩
theorem Xt : FI Tryz.prog 89 2 2 := ⟨⟨_, _, 1, Tryz.underlying89, rfl, rfl, by kernel_rfl, by decide⟩⟩
theorem Z2 : FI Tryz.prog 89 3 3 := ⟨⟨_, _, 1, Tryz.underlying89, rfl, rfl, by kernel_rfl, by decide⟩⟩
theorem Aab : ZI Tryz.prog 201 ([.b false, .b false, .b false]) := Nv (by kernel_rfl)
theorem Aa9 : AI Tryz.prog 201 3 4 1 := ⟨Tryz.underlying201, by kernel_rfl, by decide, by decide⟩
theorem Ago : (Tryz.prog.info? 201).map (·.size) = some 3 := by kernel_rfl
theorem Ahm : TI Tryz.prog 201 true 3 := ⟨⟨_, Tryz.underlying201, rfl⟩, by kernel_rfl⟩
theorem Ap6 : FnI Tryz.prog 121 := ⟨⟨_, Tryz.func121, by kernel_rfl, by kernel_rfl⟩⟩
theorem Ma : Tryz.prog.follows .mixedOrders = true := by kernel_rfl
theorem Aay : FI Tryz.prog 89 4 4 := ⟨⟨_, _, 1, Tryz.underlying89, rfl, rfl, by kernel_rfl, by decide⟩⟩
theorem L4 : TI Tryz.prog 33 false 1 := ⟨⟨_, Tryz.underlying33, rfl⟩, by kernel_rfl⟩
theorem Lh : SI Tryz.prog 33 5 1 := ⟨Tryz.underlying33, by kernel_rfl, by decide⟩
theorem Agv : FI Tryz.prog 89 5 5 := ⟨⟨_, _, 3, Tryz.underlying89, rfl, rfl, by kernel_rfl, by decide⟩⟩
theorem Ajk : TI Tryz.prog 35 true 3 := ⟨⟨_, Tryz.underlying35, rfl⟩, by kernel_rfl⟩
theorem T2 : FI Tryz.prog 35 0 0 := ⟨⟨_, _, 1, Tryz.underlying35, rfl, rfl, by kernel_rfl, by decide⟩⟩
theorem Qv : FI Tryz.prog 35 1 1 := ⟨⟨_, _, 1, Tryz.underlying35, rfl, rfl, by kernel_rfl, by decide⟩⟩
theorem Xw : FI Tryz.prog 35 2 2 := ⟨⟨_, _, 1, Tryz.underlying35, rfl, rfl, by kernel_rfl, by decide⟩⟩
theorem As2 : FnI Tryz.prog 122 := ⟨⟨_, Tryz.func122, by kernel_rfl, by kernel_rfl⟩⟩
theorem Aoq : EqD Tryz.prog 201 [1, 1, 1] := ⟨by kernel_rfl, by kernel_rfl, by kernel_rfl, by kernel_rfl⟩
theorem Asv : FnI Tryz.prog 123 := ⟨⟨_, Tryz.func123, by kernel_rfl, by kernel_rfl⟩⟩
theorem Asc : FnI Tryz.prog 133 := ⟨⟨_, Tryz.func133, by kernel_rfl, by kernel_rfl⟩⟩
theorem ti5 : TI Tryz.prog 5 false 1 := ⟨⟨_, Tryz.underlying5, rfl⟩, by kernel_rfl⟩
theorem Asa : XI Tryz.prog 142 Extern.BytealgCompare.compare := ⟨⟨Tryz.f142, Tryz.func142, by kernel_rfl, by kernel_rfl, by kernel_rfl, by kernel_rfl⟩⟩
theorem Asr : FnI Tryz.prog 141 := ⟨⟨_, Tryz.func141, by kernel_rfl, by kernel_rfl⟩⟩
theorem Ark : FnI Tryz.prog 139 := ⟨⟨_, Tryz.func139, by kernel_rfl, by kernel_rfl⟩⟩
theorem Ar1 : FnI Tryz.prog 134 := ⟨⟨_, Tryz.func134, by kernel_rfl, by kernel_rfl⟩⟩
theorem Ash : FnI Tryz.prog 124 := ⟨⟨_, Tryz.func124, by kernel_rfl, by kernel_rfl⟩⟩
theorem Atd : FnI Tryz.prog 107 := ⟨⟨_, Tryz.func107, by kernel_rfl, by kernel_rfl⟩⟩
theorem Aru : FnI Tryz.prog 82 := ⟨⟨_, Tryz.func82, by kernel_rfl, by kernel_rfl⟩⟩
theorem Atp : FnI Tryz.prog 53 := ⟨⟨_, Tryz.func53, by kernel_rfl, by kernel_rfl⟩⟩
theorem At0 : FnI Tryz.prog 54 := ⟨⟨_, Tryz.func54, by kernel_rfl, by kernel_rfl⟩⟩
theorem Awe : FnI Tryz.prog 30 := ⟨⟨_, Tryz.func30, by kernel_rfl, by kernel_rfl⟩⟩
theorem Aus : FnI Tryz.prog 31 := ⟨⟨_, Tryz.func31, by kernel_rfl, by kernel_rfl⟩⟩
theorem Aim : FnI Tryz.prog 32 := ⟨⟨_, Tryz.func32, by kernel_rfl, by kernel_rfl⟩⟩
theorem Wv : FI Tryz.prog 44 12 35 := ⟨⟨_, _, 2, Tryz.underlying44, rfl, rfl, by kernel_rfl, by decide⟩⟩
theorem Ah2 : TI Tryz.prog 40 true 2 := ⟨⟨_, Tryz.underlying40, rfl⟩, by kernel_rfl⟩
theorem Aff : FI Tryz.prog 40 1 1 := ⟨⟨_, _, 1, Tryz.underlying40, rfl, rfl, by kernel_rfl, by decide⟩⟩
theorem Aa1 : TI Tryz.prog 38 false 1 := ⟨⟨_, Tryz.underlying38, rfl⟩, by kernel_rfl⟩
theorem Auc : FnI Tryz.prog 65 := ⟨⟨_, Tryz.func65, by kernel_rfl, by kernel_rfl⟩⟩
theorem Adi : FI Tryz.prog 40 0 0 := ⟨⟨_, _, 1, Tryz.underlying40, rfl, rfl, by kernel_rfl, by decide⟩⟩
theorem Ww : ZI Tryz.prog 121 ([Ii6 0, .i .u32 0, Znl]) := Nv (by kernel_rfl)
theorem zi3 : ZI Tryz.prog 3 ([Ii6 0]) := Nv (by kernel_rfl)
theorem sz3 : (Tryz.prog.info? 3).map (·.size) = some 1 := by kernel_rfl
theorem Atc : ZI Tryz.prog 193 ([.raw .nilFunc, Ii6 0]) := Nv (by kernel_rfl)
theorem Ar9 : PI Tryz.prog 193 [(0, 1), (1, 1)] := Qd Tryz.underlying193 (by kernel_rfl) (by kernel_rfl)
theorem As0 : FnI Tryz.prog 92 := ⟨⟨_, Tryz.func92, by kernel_rfl, by kernel_rfl⟩⟩
theorem Adt : PI Tryz.prog 121 [(0, 2), (2, 1)] := Qd Tryz.underlying121 (by kernel_rfl) (by kernel_rfl)
theorem Yw : (Tryz.prog.info? 121).map (·.size) = some 3 := by kernel_rfl
theorem Acc : FI Tryz.prog 193 1 1 := ⟨⟨_, _, 1, Tryz.underlying193, rfl, rfl, by kernel_rfl, by decide⟩⟩
theorem Aij : FnI Tryz.prog 108 := ⟨⟨_, Tryz.func108, by kernel_rfl, by kernel_rfl⟩⟩
theorem Aud : (Tryz.prog.info? 38).map (·.size) = some 1 := by kernel_rfl
theorem Amu : FnI Tryz.prog 94 := ⟨⟨_, Tryz.func94, by kernel_rfl, by kernel_rfl⟩⟩
theorem Aca : FI Tryz.prog 193 0 0 := ⟨⟨_, _, 1, Tryz.underlying193, rfl, rfl, by kernel_rfl, by decide⟩⟩
theorem Amh : TI Tryz.prog 191 false 1 := ⟨⟨_, Tryz.underlying191, rfl⟩, by kernel_rfl⟩
theorem Aoa : FnI Tryz.prog 112 := ⟨⟨_, Tryz.func112, by kernel_rfl, by kernel_rfl⟩⟩
theorem Aov : FnI Tryz.prog 114 := ⟨⟨_, Tryz.func114, by kernel_rfl, by kernel_rfl⟩⟩
theorem An8 : FnI Tryz.prog 113 := ⟨⟨_, Tryz.func113, by kernel_rfl, by kernel_rfl⟩⟩
theorem Ah5 : FnI Tryz.prog 93 := ⟨⟨_, Tryz.func93, by kernel_rfl, by kernel_rfl⟩⟩
theorem Pw : FI Tryz.prog 121 0 0 := ⟨⟨_, _, 2, Tryz.underlying121, rfl, rfl, by kernel_rfl, by decide⟩⟩
theorem Uc : FI Tryz.prog 119 0 0 := ⟨⟨_, _, 1, Tryz.underlying119, rfl, rfl, by kernel_rfl, by decide⟩⟩
theorem Abe : TI Tryz.prog 121 true 3 := ⟨⟨_, Tryz.underlying121, rfl⟩, by kernel_rfl⟩
theorem Abb : FI Tryz.prog 119 1 1 := ⟨⟨_, _, 1, Tryz.underlying119, rfl, rfl, by kernel_rfl, by decide⟩⟩
theorem An1 : (Tryz.prog.info? 117).map (·.size) = some 1 := by kernel_rfl
theorem Yx : FI Tryz.prog 121 1 2 := ⟨⟨_, _, 1, Tryz.underlying121, rfl, rfl, by kernel_rfl, by decide⟩⟩
theorem Aot : (Tryz.prog.info? 33).map (·.size) = some 1 := by kernel_rfl
theorem Anc : TI Tryz.prog 117 false 1 := ⟨⟨_, Tryz.underlying117, rfl⟩, by kernel_rfl⟩
theorem ei5 : EI Tryz.prog 5 1 1 [.i .u8 0] := Xe (by kernel_rfl) (by decide)
theorem sz5 : (Tryz.prog.info? 5).map (·.size) = some 1 := by kernel_rfl
theorem Anw : EI Tryz.prog 33 1 24 [Znl] := Xe (by kernel_rfl) (by decide)
theorem Aef : SI Tryz.prog 124 33 1 := ⟨Tryz.underlying124, by kernel_rfl, by decide⟩
theorem Auy : FnI Tryz.prog 75 := ⟨⟨_, Tryz.func75, by kernel_rfl, by kernel_rfl⟩⟩
theorem Asf : NI Tryz.prog 33 := ⟨.inl ⟨_, Tryz.underlying33⟩⟩
theorem Aqn : FnI Tryz.prog 44 := ⟨⟨_, Tryz.func44, by kernel_rfl, by kernel_rfl⟩⟩
theorem Aaz : FnI Tryz.prog 40 := ⟨⟨_, Tryz.func40, by kernel_rfl, by kernel_rfl⟩⟩
theorem Amo : ZI Tryz.prog 188 (List.replicate 256 (.i .u32 0)) := Nv (by kernel_rfl)
theorem Ar3 : FnI Tryz.prog 126 := ⟨⟨_, Tryz.func126, by kernel_rfl, by kernel_rfl⟩⟩
theorem Apx : AI Tryz.prog 188 256 117 1 := ⟨Tryz.underlying188, by kernel_rfl, by decide, by decide⟩
theorem Aos : TI Tryz.prog 188 true 256 := ⟨⟨_, Tryz.underlying188, rfl⟩, by kernel_rfl⟩
theorem Aol : (Tryz.prog.info? 188).map (·.size) = some 256 := by kernel_rfl
theorem Ard : FnI Tryz.prog 111 := ⟨⟨_, Tryz.func111, by kernel_rfl, by kernel_rfl⟩⟩
theorem Atx : FnI Tryz.prog 90 := ⟨⟨_, Tryz.func90, by kernel_rfl, by kernel_rfl⟩⟩
theorem Avp : FnI Tryz.prog 91 := ⟨⟨_, Tryz.func91, by kernel_rfl, by kernel_rfl⟩⟩
theorem Auh : FnI Tryz.prog 74 := ⟨⟨_, Tryz.func74, by kernel_rfl, by kernel_rfl⟩⟩
theorem Avj : FnI Tryz.prog 84 := ⟨⟨_, Tryz.func84, by kernel_rfl, by kernel_rfl⟩⟩
theorem At9 : FnI Tryz.prog 85 := ⟨⟨_, Tryz.func85, by kernel_rfl, by kernel_rfl⟩⟩
theorem Auf : FnI Tryz.prog 66 := ⟨⟨_, Tryz.func66, by kernel_rfl, by kernel_rfl⟩⟩
theorem Ar8 : FnI Tryz.prog 34 := ⟨⟨_, Tryz.func34, by kernel_rfl, by kernel_rfl⟩⟩
theorem Qi : FI Tryz.prog 44 13 37 := ⟨⟨_, _, 1, Tryz.underlying44, rfl, rfl, by kernel_rfl, by decide⟩⟩
theorem Jq : FI Tryz.prog 44 11 25 := ⟨⟨_, _, 10, Tryz.underlying44, rfl, rfl, by kernel_rfl, by decide⟩⟩
theorem Ad4 : TI Tryz.prog 37 true 10 := ⟨⟨_, Tryz.underlying37, rfl⟩, by kernel_rfl⟩
theorem Pz : FI Tryz.prog 37 0 0 := ⟨⟨_, _, 1, Tryz.underlying37, rfl, rfl, by kernel_rfl, by decide⟩⟩
theorem Aic : ZI Tryz.prog 142 ([.b false, .b false, .b false, .b false, .b false, .b false]) := Nv (by kernel_rfl)
theorem Aqr : FnI Tryz.prog 60 := ⟨⟨_, Tryz.func60, by kernel_rfl, by kernel_rfl⟩⟩
theorem Arb : PI Tryz.prog 142 [(0, 1), (1, 1), (2, 1), (3, 1), (4, 1), (5, 1)] := Qd Tryz.underlying142 (by kernel_rfl) (by kernel_rfl)
theorem Aik : (Tryz.prog.info? 142).map (·.size) = some 6 := by kernel_rfl
theorem Ani : TI Tryz.prog 142 true 6 := ⟨⟨_, Tryz.underlying142, rfl⟩, by kernel_rfl⟩
theorem Alx : (0, Aqs.flatMap Uk) ∈ GL := List.mem_cons.2 (.inl rfl)
theorem As3 : AI Tryz.prog 165 12 142 6 := ⟨Tryz.underlying165, by kernel_rfl, by decide, by decide⟩
theorem Aun : FnI Tryz.prog 59 := ⟨⟨_, Tryz.func59, by kernel_rfl, by kernel_rfl⟩⟩
theorem Qp : FI Tryz.prog 37 1 1 := ⟨⟨_, _, 1, Tryz.underlying37, rfl, rfl, by kernel_rfl, by decide⟩⟩
theorem Akq : FnI Tryz.prog 61 := ⟨⟨_, Tryz.func61, by kernel_rfl, by kernel_rfl⟩⟩
theorem Agb : FI Tryz.prog 142 0 0 := ⟨⟨_, _, 1, Tryz.underlying142, rfl, rfl, by kernel_rfl, by decide⟩⟩
theorem Aj8 : FI Tryz.prog 37 2 2 := ⟨⟨_, _, 1, Tryz.underlying37, rfl, rfl, by kernel_rfl, by decide⟩⟩
theorem Auq : FnI Tryz.prog 62 := ⟨⟨_, Tryz.func62, by kernel_rfl, by kernel_rfl⟩⟩
theorem Ahf : FI Tryz.prog 142 1 1 := ⟨⟨_, _, 1, Tryz.underlying142, rfl, rfl, by kernel_rfl, by decide⟩⟩
theorem Aki : FI Tryz.prog 37 3 3 := ⟨⟨_, _, 1, Tryz.underlying37, rfl, rfl, by kernel_rfl, by decide⟩⟩
theorem Ahh : FI Tryz.prog 142 2 2 := ⟨⟨_, _, 1, Tryz.underlying142, rfl, rfl, by kernel_rfl, by decide⟩⟩
theorem Acj : FI Tryz.prog 142 3 3 := ⟨⟨_, _, 1, Tryz.underlying142, rfl, rfl, by kernel_rfl, by decide⟩⟩
theorem Afu : FI Tryz.prog 37 5 5 := ⟨⟨_, _, 1, Tryz.underlying37, rfl, rfl, by kernel_rfl, by decide⟩⟩
theorem Ak4 : FnI Tryz.prog 63 := ⟨⟨_, Tryz.func63, by kernel_rfl, by kernel_rfl⟩⟩
theorem Abv : FI Tryz.prog 142 4 4 := ⟨⟨_, _, 1, Tryz.underlying142, rfl, rfl, by kernel_rfl, by decide⟩⟩
theorem Ahb : FI Tryz.prog 37 6 6 := ⟨⟨_, _, 1, Tryz.underlying37, rfl, rfl, by kernel_rfl, by decide⟩⟩
theorem Ach : FI Tryz.prog 142 5 5 := ⟨⟨_, _, 1, Tryz.underlying142, rfl, rfl, by kernel_rfl, by decide⟩⟩
theorem Aad : FI Tryz.prog 37 7 7 := ⟨⟨_, _, 3, Tryz.underlying37, rfl, rfl, by kernel_rfl, by decide⟩⟩
theorem Auj : FnI Tryz.prog 64 := ⟨⟨_, Tryz.func64, by kernel_rfl, by kernel_rfl⟩⟩
theorem Aj5 : FI Tryz.prog 37 4 4 := ⟨⟨_, _, 1, Tryz.underlying37, rfl, rfl, by kernel_rfl, by decide⟩⟩
theorem Aul : FnI Tryz.prog 33 := ⟨⟨_, Tryz.func33, by kernel_rfl, by kernel_rfl⟩⟩
theorem Ali : FnI Tryz.prog 12 := ⟨⟨_, Tryz.func12, by kernel_rfl, by kernel_rfl⟩⟩
theorem Aax : ZI Tryz.prog 37 (Zbc) := Nv (by kernel_rfl)
theorem Aed : PI Tryz.prog 37 [(0, 1), (1, 1), (2, 1), (3, 1), (4, 1), (5, 1), (6, 1), (7, 3)] := Qd Tryz.underlying37 (by kernel_rfl) (by kernel_rfl)
theorem Aoc : ZI Tryz.prog 61 ([Ii6 0, Ii6 0, Ii6 0, Ii6 0, Ii6 0, Ii6 0, Ii6 0, Ii6 0, Ii6 0, Ii6 0, Ii6 0, Ii6 0]) := Nv (by kernel_rfl)
theorem Arn : PI Tryz.prog 61 [(0, 1), (1, 1), (2, 1), (3, 1), (4, 8)] := Qd Tryz.underlying61 (by kernel_rfl) (by kernel_rfl)
theorem Ol : FI Tryz.prog 44 14 38 := ⟨⟨_, _, 1, Tryz.underlying44, rfl, rfl, by kernel_rfl, by decide⟩⟩
theorem Aet : TI Tryz.prog 41 false 1 := ⟨⟨_, Tryz.underlying41, rfl⟩, by kernel_rfl⟩
theorem Ary : TI Tryz.prog 61 true 12 := ⟨⟨_, Tryz.underlying61, rfl⟩, by kernel_rfl⟩
theorem Atb : EI Tryz.prog 61 12 96 [Ii6 0, Ii6 0, Ii6 0, Ii6 0, Ii6 0, Ii6 0, Ii6 0, Ii6 0, Ii6 0, Ii6 0, Ii6 0, Ii6 0] := Xe (by kernel_rfl) (by decide)
theorem Avm : EI Tryz.prog 41 1 24 [Znl] := Xe (by kernel_rfl) (by decide)
theorem Ajv : SI Tryz.prog 204 41 1 := ⟨Tryz.underlying204, by kernel_rfl, by decide⟩
theorem Zf : SI Tryz.prog 41 61 12 := ⟨Tryz.underlying41, by kernel_rfl, by decide⟩
theorem Asj : FnI Tryz.prog 125 := ⟨⟨_, Tryz.func125, by kernel_rfl, by kernel_rfl⟩⟩
theorem Awd : NI Tryz.prog 41 := ⟨.inl ⟨_, Tryz.underlying41⟩⟩
theorem Arp : FnI Tryz.prog 109 := ⟨⟨_, Tryz.func109, by kernel_rfl, by kernel_rfl⟩⟩
theorem Avo : (Tryz.prog.info? 41).map (·.size) = some 1 := by kernel_rfl
theorem Arc : FnI Tryz.prog 86 := ⟨⟨_, Tryz.func86, by kernel_rfl, by kernel_rfl⟩⟩
theorem Xo : FI Tryz.prog 44 9 14 := ⟨⟨_, _, 1, Tryz.underlying44, rfl, rfl, by kernel_rfl, by decide⟩⟩
theorem Py : FI Tryz.prog 44 10 15 := ⟨⟨_, _, 10, Tryz.underlying44, rfl, rfl, by kernel_rfl, by decide⟩⟩
theorem Wq : FI Tryz.prog 32 2 9 := ⟨⟨_, _, 1, Tryz.underlying32, rfl, rfl, by kernel_rfl, by decide⟩⟩
theorem Av3 : FnI Tryz.prog 87 := ⟨⟨_, Tryz.func87, by kernel_rfl, by kernel_rfl⟩⟩
theorem Ata : (Tryz.prog.info? 29).map (·.size) = some 1 := by kernel_rfl
theorem Al5 : FnI Tryz.prog 68 := ⟨⟨_, Tryz.func68, by kernel_rfl, by kernel_rfl⟩⟩
theorem Auk : FnI Tryz.prog 67 := ⟨⟨_, Tryz.func67, by kernel_rfl, by kernel_rfl⟩⟩
theorem Ah0 : (Tryz.prog.info? 37).map (·.size) = some 10 := by kernel_rfl
theorem zi4 : ZI Tryz.prog 4 ([.b false]) := Nv (by kernel_rfl)
theorem Au2 : FnI Tryz.prog 88 := ⟨⟨_, Tryz.func88, by kernel_rfl, by kernel_rfl⟩⟩
theorem Asy : FnI Tryz.prog 110 := ⟨⟨_, Tryz.func110, by kernel_rfl, by kernel_rfl⟩⟩
theorem sz4 : (Tryz.prog.info? 4).map (·.size) = some 1 := by kernel_rfl
theorem Aql : FnI Tryz.prog 69 := ⟨⟨_, Tryz.func69, by kernel_rfl, by kernel_rfl⟩⟩
theorem Atg : FnI Tryz.prog 42 := ⟨⟨_, Tryz.func42, by kernel_rfl, by kernel_rfl⟩⟩
theorem Alu : FnI Tryz.prog 41 := ⟨⟨_, Tryz.func41, by kernel_rfl, by kernel_rfl⟩⟩
theorem Avk : FnI Tryz.prog 89 := ⟨⟨_, Tryz.func89, by kernel_rfl, by kernel_rfl⟩⟩
theorem Ase : ZI Tryz.prog 119 ([Ii6 0, .i .u32 0]) := Nv (by kernel_rfl)
theorem Ar2 : PI Tryz.prog 119 [(0, 1), (1, 1)] := Qd Tryz.underlying119 (by kernel_rfl) (by kernel_rfl)
theorem Avl : FnI Tryz.prog 43 := ⟨⟨_, Tryz.func43, by kernel_rfl, by kernel_rfl⟩⟩
theorem At7 : FnI Tryz.prog 17 := ⟨⟨_, Tryz.func17, by kernel_rfl, by kernel_rfl⟩⟩
theorem At4 : FnI Tryz.prog 70 := ⟨⟨_, Tryz.func70, by kernel_rfl, by kernel_rfl⟩⟩
theorem Amx : FnI Tryz.prog 35 := ⟨⟨_, Tryz.func35, by kernel_rfl, by kernel_rfl⟩⟩
theorem At8 : FnI Tryz.prog 14 := ⟨⟨_, Tryz.func14, by kernel_rfl, by kernel_rfl⟩⟩
theorem At5 : PI Tryz.prog 89 [(0, 1), (1, 1), (2, 1), (3, 1), (4, 1), (5, 3)] := Qd Tryz.underlying89 (by kernel_rfl) (by kernel_rfl)
theorem As6 : EI Tryz.prog 89 8 112 [Ii6 0, Ii6 0, Ii6 0, Ii6 0, Znl, Znl, Znl, .b false] := Xe (by kernel_rfl) (by decide)
theorem Aqo : ZI Tryz.prog 92 ([.b false, Znl]) := Nv (by kernel_rfl)
theorem Aub : PI Tryz.prog 92 [(0, 1), (1, 1)] := Qd Tryz.underlying92 (by kernel_rfl) (by kernel_rfl)
theorem Att : PI Tryz.prog 94 [(0, 1), (1, 2)] := Qd Tryz.underlying94 (by kernel_rfl) (by kernel_rfl)
theorem Aon : EI Tryz.prog 94 3 40 [Ii6 0, .b false, Znl] := Xe (by kernel_rfl) (by decide)
theorem Avv : EI Tryz.prog 29 1 24 [Znl] := Xe (by kernel_rfl) (by decide)
theorem Ai0 : SI Tryz.prog 163 29 1 := ⟨Tryz.underlying163, by kernel_rfl, by decide⟩
theorem Avx : FnI Tryz.prog 83 := ⟨⟨_, Tryz.func83, by kernel_rfl, by kernel_rfl⟩⟩
theorem Atk : NI Tryz.prog 29 := ⟨.inl ⟨_, Tryz.underlying29⟩⟩
theorem Ava : FnI Tryz.prog 55 := ⟨⟨_, Tryz.func55, by kernel_rfl, by kernel_rfl⟩⟩
theorem Asm : FnI Tryz.prog 72 := ⟨⟨_, Tryz.func72, by kernel_rfl, by kernel_rfl⟩⟩
theorem Agz : ZI Tryz.prog 32 (Zbb) := Nv (by kernel_rfl)
theorem Apd : PI Tryz.prog 32 [(0, 1), (1, 8), (9, 1)] := Qd Tryz.underlying32 (by kernel_rfl) (by kernel_rfl)
theorem Xa : (Tryz.prog.info? 32).map (·.size) = some 10 := by kernel_rfl
theorem Auo : FnI Tryz.prog 71 := ⟨⟨_, Tryz.func71, by kernel_rfl, by kernel_rfl⟩⟩
theorem Asz : FnI Tryz.prog 56 := ⟨⟨_, Tryz.func56, by kernel_rfl, by kernel_rfl⟩⟩
theorem Atu : FnI Tryz.prog 21 := ⟨⟨_, Tryz.func21, by kernel_rfl, by kernel_rfl⟩⟩
theorem Av6 : ZI Tryz.prog 55 (Zbd) := Nv (by kernel_rfl)
theorem Avr : PI Tryz.prog 55 [(0, 1), (1, 1), (2, 1), (3, 1), (4, 1), (5, 1), (6, 1)] := Qd Tryz.underlying55 (by kernel_rfl) (by kernel_rfl)
theorem Ap7 : FI Tryz.prog 55 2 2 := ⟨⟨_, _, 1, Tryz.underlying55, rfl, rfl, by kernel_rfl, by decide⟩⟩
theorem Aou : FI Tryz.prog 55 3 3 := ⟨⟨_, _, 1, Tryz.underlying55, rfl, rfl, by kernel_rfl, by decide⟩⟩
theorem App : FI Tryz.prog 55 4 4 := ⟨⟨_, _, 1, Tryz.underlying55, rfl, rfl, by kernel_rfl, by decide⟩⟩
theorem Ak2 : FI Tryz.prog 55 5 5 := ⟨⟨_, _, 1, Tryz.underlying55, rfl, rfl, by kernel_rfl, by decide⟩⟩
theorem Aaq : FI Tryz.prog 55 6 6 := ⟨⟨_, _, 1, Tryz.underlying55, rfl, rfl, by kernel_rfl, by decide⟩⟩
theorem Aes : TI Tryz.prog 53 false 1 := ⟨⟨_, Tryz.underlying53, rfl⟩, by kernel_rfl⟩
theorem Akr : ZI Tryz.prog 68 (Zbd) := Nv (by kernel_rfl)
theorem Aqv : PI Tryz.prog 68 [(0, 1), (1, 1), (2, 1), (3, 1), (4, 1), (5, 1), (6, 1)] := Qd Tryz.underlying68 (by kernel_rfl) (by kernel_rfl)
theorem Anp : (Tryz.prog.info? 68).map (·.size) = some 7 := by kernel_rfl
theorem Aa7 : TI Tryz.prog 68 true 7 := ⟨⟨_, Tryz.underlying68, rfl⟩, by kernel_rfl⟩
theorem Ut : FI Tryz.prog 68 6 6 := ⟨⟨_, _, 1, Tryz.underlying68, rfl, rfl, by kernel_rfl, by decide⟩⟩
theorem Adj : SI Tryz.prog 53 116 2 := ⟨Tryz.underlying53, by kernel_rfl, by decide⟩
theorem Alj : TI Tryz.prog 116 true 2 := ⟨⟨_, Tryz.underlying116, rfl⟩, by kernel_rfl⟩
theorem Aiu : ZI Tryz.prog 116 ([Znl, Znl]) := Nv (by kernel_rfl)
theorem Am1 : (Tryz.prog.info? 116).map (·.size) = some 2 := by kernel_rfl
theorem Aby : FI Tryz.prog 116 0 0 := ⟨⟨_, _, 1, Tryz.underlying116, rfl, rfl, by kernel_rfl, by decide⟩⟩
theorem Yn : FI Tryz.prog 116 1 1 := ⟨⟨_, _, 1, Tryz.underlying116, rfl, rfl, by kernel_rfl, by decide⟩⟩
theorem P5 : FI Tryz.prog 68 0 0 := ⟨⟨_, _, 1, Tryz.underlying68, rfl, rfl, by kernel_rfl, by decide⟩⟩
theorem Sg : FI Tryz.prog 68 1 1 := ⟨⟨_, _, 1, Tryz.underlying68, rfl, rfl, by kernel_rfl, by decide⟩⟩
theorem Rd : FI Tryz.prog 68 2 2 := ⟨⟨_, _, 1, Tryz.underlying68, rfl, rfl, by kernel_rfl, by decide⟩⟩
theorem Qh : FI Tryz.prog 68 3 3 := ⟨⟨_, _, 1, Tryz.underlying68, rfl, rfl, by kernel_rfl, by decide⟩⟩
theorem Aam : FI Tryz.prog 68 4 4 := ⟨⟨_, _, 1, Tryz.underlying68, rfl, rfl, by kernel_rfl, by decide⟩⟩
theorem Zi : FI Tryz.prog 68 5 5 := ⟨⟨_, _, 1, Tryz.underlying68, rfl, rfl, by kernel_rfl, by decide⟩⟩
theorem Aup : FnI Tryz.prog 39 := ⟨⟨_, Tryz.func39, by kernel_rfl, by kernel_rfl⟩⟩
theorem Auu : FnI Tryz.prog 16 := ⟨⟨_, Tryz.func16, by kernel_rfl, by kernel_rfl⟩⟩
theorem Aui : FnI Tryz.prog 22 := ⟨⟨_, Tryz.func22, by kernel_rfl, by kernel_rfl⟩⟩
theorem Ap0 : FnI Tryz.prog 37 := ⟨⟨_, Tryz.func37, by kernel_rfl, by kernel_rfl⟩⟩
theorem Anx : ZI Tryz.prog 40 ([Znl, Ii6 0]) := Nv (by kernel_rfl)
theorem Aqt : PI Tryz.prog 40 [(0, 1), (1, 1)] := Qd Tryz.underlying40 (by kernel_rfl) (by kernel_rfl)
theorem Ank : (Tryz.prog.info? 40).map (·.size) = some 2 := by kernel_rfl
theorem Asp : NI Tryz.prog 124 := ⟨.inl ⟨_, Tryz.underlying124⟩⟩
theorem Au4 : FnI Tryz.prog 76 := ⟨⟨_, Tryz.func76, by kernel_rfl, by kernel_rfl⟩⟩
theorem Au3 : FnI Tryz.prog 77 := ⟨⟨_, Tryz.func77, by kernel_rfl, by kernel_rfl⟩⟩
theorem Av4 : FnI Tryz.prog 45 := ⟨⟨_, Tryz.func45, by kernel_rfl, by kernel_rfl⟩⟩
theorem Au7 : FnI Tryz.prog 95 := ⟨⟨_, Tryz.func95, by kernel_rfl, by kernel_rfl⟩⟩
theorem Ast : FnI Tryz.prog 96 := ⟨⟨_, Tryz.func96, by kernel_rfl, by kernel_rfl⟩⟩
theorem Aq5 : PI Tryz.prog 116 [(0, 1), (1, 1)] := Qd Tryz.underlying116 (by kernel_rfl) (by kernel_rfl)
theorem Apk : EI Tryz.prog 116 2 48 [Znl, Znl] := Xe (by kernel_rfl) (by decide)
theorem Au5 : NI Tryz.prog 53 := ⟨.inl ⟨_, Tryz.underlying53⟩⟩
theorem Au8 : FnI Tryz.prog 97 := ⟨⟨_, Tryz.func97, by kernel_rfl, by kernel_rfl⟩⟩
theorem Au9 : (Tryz.prog.info? 53).map (·.size) = some 1 := by kernel_rfl
theorem Av9 : FnI Tryz.prog 98 := ⟨⟨_, Tryz.func98, by kernel_rfl, by kernel_rfl⟩⟩
theorem Awa : FnI Tryz.prog 78 := ⟨⟨_, Tryz.func78, by kernel_rfl, by kernel_rfl⟩⟩
theorem Aq0 : FnI Tryz.prog 106 := ⟨⟨_, Tryz.func106, by kernel_rfl, by kernel_rfl⟩⟩
theorem At2 : FnI Tryz.prog 80 := ⟨⟨_, Tryz.func80, by kernel_rfl, by kernel_rfl⟩⟩
theorem Aob : FnI Tryz.prog 47 := ⟨⟨_, Tryz.func47, by kernel_rfl, by kernel_rfl⟩⟩
theorem Rx : ZI Tryz.prog 184 ([.raw .nilFunc, .raw .nilFunc, .raw .nilFunc, .raw .nilFunc, .raw .nilFunc, .raw .nilFunc, .raw .nilFunc, .raw .nilFunc, .raw .nilFunc, .raw .nilFunc]) := Nv (by kernel_rfl)
theorem S4 : AI Tryz.prog 184 10 159 1 := ⟨Tryz.underlying184, by kernel_rfl, by decide, by decide⟩
theorem Zt : (Tryz.prog.info? 184).map (·.size) = some 10 := by kernel_rfl
theorem Acb : TI Tryz.prog 159 false 1 := ⟨⟨_, Tryz.underlying159, rfl⟩, by kernel_rfl⟩
theorem Akp : FnI Tryz.prog 79 := ⟨⟨_, Tryz.func79, by kernel_rfl, by kernel_rfl⟩⟩
theorem Avn : FnI Tryz.prog 99 := ⟨⟨_, Tryz.func99, by kernel_rfl, by kernel_rfl⟩⟩
theorem Atn : (Tryz.prog.info? 61).map (·.size) = some 12 := by kernel_rfl
theorem O0 : FI Tryz.prog 32 1 1 := ⟨⟨_, _, 8, Tryz.underlying32, rfl, rfl, by kernel_rfl, by decide⟩⟩
theorem Aua : TI Tryz.prog 30 true 8 := ⟨⟨_, Tryz.underlying30, rfl⟩, by kernel_rfl⟩
theorem An9 : FI Tryz.prog 61 4 4 := ⟨⟨_, _, 8, Tryz.underlying61, rfl, rfl, by kernel_rfl, by decide⟩⟩
theorem Av5 : (Tryz.prog.info? 30).map (·.size) = some 8 := by kernel_rfl
theorem Af0 : FI Tryz.prog 61 0 0 := ⟨⟨_, _, 1, Tryz.underlying61, rfl, rfl, by kernel_rfl, by decide⟩⟩
theorem Aal : FnI Tryz.prog 119 := ⟨⟨_, Tryz.func119, by kernel_rfl, by kernel_rfl⟩⟩
theorem Ati : FnI Tryz.prog 129 := ⟨⟨_, Tryz.func129, by kernel_rfl, by kernel_rfl⟩⟩
theorem Ahj : FnI Tryz.prog 117 := ⟨⟨_, Tryz.func117, by kernel_rfl, by kernel_rfl⟩⟩
theorem Ao4 : FnI Tryz.prog 115 := ⟨⟨_, Tryz.func115, by kernel_rfl, by kernel_rfl⟩⟩
theorem Sb : TI Tryz.prog 32 true 10 := ⟨⟨_, Tryz.underlying32, rfl⟩, by kernel_rfl⟩
theorem Ot : FI Tryz.prog 32 0 0 := ⟨⟨_, _, 1, Tryz.underlying32, rfl, rfl, by kernel_rfl, by decide⟩⟩
theorem An2 : FnI Tryz.prog 130 := ⟨⟨_, Tryz.func130, by kernel_rfl, by kernel_rfl⟩⟩
theorem Aeq : AI Tryz.prog 30 8 3 1 := ⟨Tryz.underlying30, by kernel_rfl, by decide, by decide⟩
theorem Ar7 : FnI Tryz.prog 140 := ⟨⟨_, Tryz.func140, by kernel_rfl, by kernel_rfl⟩⟩
theorem Arl : FnI Tryz.prog 135 := ⟨⟨_, Tryz.func135, by kernel_rfl, by kernel_rfl⟩⟩
theorem Akl : ∀ {a b : E3} {j : Int} {v : Int}, Ia a j v = some b → ∀ pre post : List Lf, Je (pre ++ (Ys a ++ post)) (pre.length + j.toNat) [Ii6 v] = pre ++ (Ys b ++ post) := by
 intro a b j v h pre post
 rw [Ae7]
 unfold Ia at h
 split at h
 ·rename_i hj; subst hj; cases h; rfl
 split at h
 ·rename_i hj; subst hj; cases h; rfl
 split at h
 ·rename_i hj; subst hj; cases h; rfl
 split at h
 ·rename_i hj; subst hj; cases h; rfl
 split at h
 ·rename_i hj; subst hj; cases h; rfl
 split at h
 ·rename_i hj; subst hj; cases h; rfl
 split at h
 ·rename_i hj; subst hj; cases h; rfl
 split at h
 ·rename_i hj; subst hj; cases h; rfl
 cases h
theorem Apy : FnI Tryz.prog 138 := ⟨⟨_, Tryz.func138, by kernel_rfl, by kernel_rfl⟩⟩
theorem As1 : FnI Tryz.prog 136 := ⟨⟨_, Tryz.func136, by kernel_rfl, by kernel_rfl⟩⟩
theorem Atf : FnI Tryz.prog 127 := ⟨⟨_, Tryz.func127, by kernel_rfl, by kernel_rfl⟩⟩
theorem Aue : ZI Tryz.prog 64 ([Ii6 0, Ii6 0, Ii6 0, Ii6 0, Ii6 0, Ii6 0, Ii6 0, Ii6 0, Ii6 0, Ii6 0]) := Nv (by kernel_rfl)
theorem Au1 : PI Tryz.prog 64 [(0, 1), (1, 1), (2, 8)] := Qd Tryz.underlying64 (by kernel_rfl) (by kernel_rfl)
theorem Avq : (Tryz.prog.info? 64).map (·.size) = some 10 := by kernel_rfl
theorem Abr : FI Tryz.prog 44 15 39 := ⟨⟨_, _, 1, Tryz.underlying44, rfl, rfl, by kernel_rfl, by decide⟩⟩
theorem Aqj : TI Tryz.prog 42 false 1 := ⟨⟨_, Tryz.underlying42, rfl⟩, by kernel_rfl⟩
theorem Auz : TI Tryz.prog 64 true 10 := ⟨⟨_, Tryz.underlying64, rfl⟩, by kernel_rfl⟩
theorem Ate : EI Tryz.prog 64 10 80 [Ii6 0, Ii6 0, Ii6 0, Ii6 0, Ii6 0, Ii6 0, Ii6 0, Ii6 0, Ii6 0, Ii6 0] := Xe (by kernel_rfl) (by decide)
theorem Auw : EI Tryz.prog 42 1 24 [Znl] := Xe (by kernel_rfl) (by decide)
theorem Aih : SI Tryz.prog 216 42 1 := ⟨Tryz.underlying216, by kernel_rfl, by decide⟩
theorem Ak0 : SI Tryz.prog 42 64 10 := ⟨Tryz.underlying42, by kernel_rfl, by decide⟩
theorem Ask : FnI Tryz.prog 137 := ⟨⟨_, Tryz.func137, by kernel_rfl, by kernel_rfl⟩⟩
theorem Avz : NI Tryz.prog 42 := ⟨.inl ⟨_, Tryz.underlying42⟩⟩
theorem Ar0 : FnI Tryz.prog 128 := ⟨⟨_, Tryz.func128, by kernel_rfl, by kernel_rfl⟩⟩
theorem Av7 : (Tryz.prog.info? 42).map (·.size) = some 1 := by kernel_rfl
theorem Aqa : FnI Tryz.prog 116 := ⟨⟨_, Tryz.func116, by kernel_rfl, by kernel_rfl⟩⟩
theorem Asu : FnI Tryz.prog 100 := ⟨⟨_, Tryz.func100, by kernel_rfl, by kernel_rfl⟩⟩
theorem Apz : FnI Tryz.prog 131 := ⟨⟨_, Tryz.func131, by kernel_rfl, by kernel_rfl⟩⟩
theorem Aq9 : FnI Tryz.prog 132 := ⟨⟨_, Tryz.func132, by kernel_rfl, by kernel_rfl⟩⟩
theorem Asg : FnI Tryz.prog 118 := ⟨⟨_, Tryz.func118, by kernel_rfl, by kernel_rfl⟩⟩
theorem As4 : FnI Tryz.prog 101 := ⟨⟨_, Tryz.func101, by kernel_rfl, by kernel_rfl⟩⟩
theorem Aro : FnI Tryz.prog 102 := ⟨⟨_, Tryz.func102, by kernel_rfl, by kernel_rfl⟩⟩
theorem Asi : FnI Tryz.prog 103 := ⟨⟨_, Tryz.func103, by kernel_rfl, by kernel_rfl⟩⟩
theorem Are : FnI Tryz.prog 104 := ⟨⟨_, Tryz.func104, by kernel_rfl, by kernel_rfl⟩⟩
theorem Arv : FnI Tryz.prog 105 := ⟨⟨_, Tryz.func105, by kernel_rfl, by kernel_rfl⟩⟩
theorem Ave : FnI Tryz.prog 46 := ⟨⟨_, Tryz.func46, by kernel_rfl, by kernel_rfl⟩⟩
theorem Arm : FnI Tryz.prog 18 := ⟨⟨_, Tryz.func18, by kernel_rfl, by kernel_rfl⟩⟩
theorem Ac3 : FI Tryz.prog 61 1 1 := ⟨⟨_, _, 1, Tryz.underlying61, rfl, rfl, by kernel_rfl, by decide⟩⟩
theorem Akv : FI Tryz.prog 61 3 3 := ⟨⟨_, _, 1, Tryz.underlying61, rfl, rfl, by kernel_rfl, by decide⟩⟩
theorem fn7 : FnI Tryz.prog 7 := ⟨⟨_, Tryz.func7, by kernel_rfl, by kernel_rfl⟩⟩
theorem Alo : SI Tryz.prog 22 57 13 := ⟨Tryz.underlying22, by kernel_rfl, by decide⟩
theorem Acr : FI Tryz.prog 57 2 2 := ⟨⟨_, _, 3, Tryz.underlying57, rfl, rfl, by kernel_rfl, by decide⟩⟩
theorem Aj9 : FI Tryz.prog 52 1 1 := ⟨⟨_, _, 2, Tryz.underlying52, rfl, rfl, by kernel_rfl, by decide⟩⟩
theorem At1 : TI Tryz.prog 50 true 2 := ⟨⟨_, Tryz.underlying50, rfl⟩, by kernel_rfl⟩
theorem Xp : FI Tryz.prog 50 1 1 := ⟨⟨_, _, 1, Tryz.underlying50, rfl, rfl, by kernel_rfl, by decide⟩⟩
theorem Anu : TI Tryz.prog 48 false 1 := ⟨⟨_, Tryz.underlying48, rfl⟩, by kernel_rfl⟩
theorem Ano : SI Tryz.prog 48 135 8 := ⟨Tryz.underlying48, by kernel_rfl, by decide⟩
theorem Aez : FI Tryz.prog 135 4 4 := ⟨⟨_, _, 1, Tryz.underlying135, rfl, rfl, by kernel_rfl, by decide⟩⟩
theorem Ahg : FI Tryz.prog 135 5 5 := ⟨⟨_, _, 3, Tryz.underlying135, rfl, rfl, by kernel_rfl, by decide⟩⟩
theorem Av8 : FnI Tryz.prog 57 := ⟨⟨_, Tryz.func57, by kernel_rfl, by kernel_rfl⟩⟩
theorem Avt : FnI Tryz.prog 23 := ⟨⟨_, Tryz.func23, by kernel_rfl, by kernel_rfl⟩⟩
theorem Aj7 : FI Tryz.prog 57 3 5 := ⟨⟨_, _, 7, Tryz.underlying57, rfl, rfl, by kernel_rfl, by decide⟩⟩
theorem Atq : TI Tryz.prog 55 true 7 := ⟨⟨_, Tryz.underlying55, rfl⟩, by kernel_rfl⟩
theorem Avg : FnI Tryz.prog 24 := ⟨⟨_, Tryz.func24, by kernel_rfl, by kernel_rfl⟩⟩
theorem Ak3 : FI Tryz.prog 57 4 12 := ⟨⟨_, _, 1, Tryz.underlying57, rfl, rfl, by kernel_rfl, by decide⟩⟩
theorem fn8 : FnI Tryz.prog 8 := ⟨⟨_, Tryz.func8, by kernel_rfl, by kernel_rfl⟩⟩
theorem Aum : TI Tryz.prog 57 true 13 := ⟨⟨_, Tryz.underlying57, rfl⟩, by kernel_rfl⟩
theorem Aut : ZI Tryz.prog 57 ([Ii6 0, Ii6 0, Ii6 0, .b false, Znl, Ii6 0, Ii6 0, Ii6 0, Ii6 0, .b false, Znl, Znl, Znl]) := Nv (by kernel_rfl)
theorem Awb : (Tryz.prog.info? 57).map (·.size) = some 13 := by kernel_rfl
theorem Ak5 : FI Tryz.prog 52 0 0 := ⟨⟨_, _, 1, Tryz.underlying52, rfl, rfl, by kernel_rfl, by decide⟩⟩
theorem V7 : FI Tryz.prog 57 0 0 := ⟨⟨_, _, 1, Tryz.underlying57, rfl, rfl, by kernel_rfl, by decide⟩⟩
theorem Aoo : FI Tryz.prog 50 0 0 := ⟨⟨_, _, 1, Tryz.underlying50, rfl, rfl, by kernel_rfl, by decide⟩⟩
theorem Atv : (Tryz.prog.info? 92).map (·.size) = some 2 := by kernel_rfl
theorem Aq3 : TI Tryz.prog 135 true 8 := ⟨⟨_, Tryz.underlying135, rfl⟩, by kernel_rfl⟩
theorem Ath : ZI Tryz.prog 135 ([Ii6 0, Ii6 0, Ii6 0, Ii6 0, Znl, Znl, Znl, .b false]) := Nv (by kernel_rfl)
theorem As9 : (Tryz.prog.info? 135).map (·.size) = some 8 := by kernel_rfl
theorem Ane : FI Tryz.prog 135 0 0 := ⟨⟨_, _, 1, Tryz.underlying135, rfl, rfl, by kernel_rfl, by decide⟩⟩
theorem Al9 : FI Tryz.prog 135 1 1 := ⟨⟨_, _, 1, Tryz.underlying135, rfl, rfl, by kernel_rfl, by decide⟩⟩
theorem Amc : FI Tryz.prog 135 2 2 := ⟨⟨_, _, 1, Tryz.underlying135, rfl, rfl, by kernel_rfl, by decide⟩⟩
theorem Ald : FI Tryz.prog 135 3 3 := ⟨⟨_, _, 1, Tryz.underlying135, rfl, rfl, by kernel_rfl, by decide⟩⟩
theorem Avf : NI Tryz.prog 90 := ⟨.inl ⟨_, Tryz.underlying90⟩⟩
theorem Avu : (Tryz.prog.info? 90).map (·.size) = some 1 := by kernel_rfl
theorem Aux : FnI Tryz.prog 26 := ⟨⟨_, Tryz.func26, by kernel_rfl, by kernel_rfl⟩⟩
theorem Avc : FnI Tryz.prog 27 := ⟨⟨_, Tryz.func27, by kernel_rfl, by kernel_rfl⟩⟩
theorem Apq : FI Tryz.prog 57 1 1 := ⟨⟨_, _, 1, Tryz.underlying57, rfl, rfl, by kernel_rfl, by decide⟩⟩
theorem Av2 : FnI Tryz.prog 73 := ⟨⟨_, Tryz.func73, by kernel_rfl, by kernel_rfl⟩⟩
theorem Awc : FnI Tryz.prog 38 := ⟨⟨_, Tryz.func38, by kernel_rfl, by kernel_rfl⟩⟩
theorem Av0 : FnI Tryz.prog 15 := ⟨⟨_, Tryz.func15, by kernel_rfl, by kernel_rfl⟩⟩
theorem Avh : FnI Tryz.prog 28 := ⟨⟨_, Tryz.func28, by kernel_rfl, by kernel_rfl⟩⟩
theorem Awf : FnI Tryz.prog 11 := ⟨⟨_, Tryz.func11, by kernel_rfl, by kernel_rfl⟩⟩
theorem Av1 : FnI Tryz.prog 13 := ⟨⟨_, Tryz.func13, by kernel_rfl, by kernel_rfl⟩⟩
def Ng  : Option Cr :=
 some (Cr.mk 3 (Dn.mk 4 30 4) 3 2)
set_option maxRecDepth 100000 in
theorem Se  {r : Cr} (h : Ng = some r) : Bp Tryz.prog 10 [] (· = .s (.agg (EL.el r))) := by
 unfold Ng at h
 refine A1 Tryz.func10 rfl (nt := 3) rfl (Nbl rfl) ?_
 intro w0 S0
 refine Aq (Ab (Bz rfl At6 (As (Aq (Ab (sv rfl (Bk Auv Awg (Ap rfl (Ap rfl (Ap rfl Ba))) (.cons _ _ _ _ _ _ _ rfl rfl (Nbl rfl) (.cons _ _ _ _ _ _ _ rfl rfl (Nbl rfl) (.cons _ _ _ _ _ _ _ rfl rfl (Nbl rfl) (.nil _))))) (sv rfl (Bk At6 Avi (Ap rfl (Ap rfl (Ap rfl (Ap rfl Ba)))) (.cons _ _ _ _ _ _ _ rfl rfl (Nbl rfl) (.cons _ _ _ _ _ _ _ rfl rfl (Nbl rfl) (.cons _ _ _ _ _ _ _ rfl rfl (Nbl rfl) (.cons _ _ _ _ _ _ _ rfl rfl (Nbl rfl) (.nil _)))))) (Ax Au6 rfl rfl rfl rfl (Nbl rfl) (Bs [.box [Ii6 3, Ii6 4, Ii6 30, Ii6 4, Ii6 3, Ii6 2]] rfl (As (Bj ?_)))))))))))
 obtain rfl := Option.some.inj h
 refine ⟨Or.inr rfl, _, _, _, (Ad (Bd.agg _ _ _ _ _ Aqh rfl (.lp _ _ _ rfl) (Nbl rfl)) Af), (Aj rfl), ?_⟩
 rfl
def Bx (a0 : Int) (a1 : Int) (a2 : Int) : Option Bool :=
 if (decide (a1 ≤ a0)) then (some (decide (a0 ≤ a2))) else (some false)
set_option maxRecDepth 100000 in
theorem Ci {a0 : Int} {a1 : Int} {a2 : Int} {r : Bool} (h : Bx a0 a1 a2 = some r) : Bp Tryz.prog 36 [.one (Ii6 a0), .one (Ii6 a1), .one (Ii6 a2)] (· = .s (.one (.b r))) := by
 unfold Bx at h
 refine A1 Tryz.func36 rfl (nt := 15) rfl (Nbl rfl) ?_
 intro w0 S0
 refine Aq (Ab (sv rfl (Ak rfl) (As (Aq (Ab (sv rfl (Ag rfl) (sv rfl (Ag rfl) (sv rfl (L8 rfl rfl) (sv rfl (Ag rfl) (Bo 10 rfl (fun hc => ?_) (fun hc => ?_)))))))))))
 ·replace h := B2 hc h
  clear hc
  refine son rfl rfl rfl (sv rfl (Ag rfl) (son rfl rfl rfl (sv rfl (Ag rfl) (son rfl rfl rfl (sv rfl (Fv rfl rfl) (sv rfl (Au rfl rfl) (sv rfl (Ak rfl) (As (Bj ?_)))))))))
  obtain rfl := Option.some.inj h
  refine ⟨Or.inr rfl, _, _, _, (Ad (Bd.tmp _ _ rfl) Af), (Aj rfl), ?_⟩
  rfl
 ·replace h := B1 hc h
  clear hc
  refine Av rfl rfl rfl rfl (Av rfl rfl rfl rfl (Av rfl rfl rfl rfl (sv rfl (Am rfl rfl) (sv rfl (Ak rfl) (As (Bj ?_))))))
  obtain rfl := Option.some.inj h
  refine ⟨Or.inr rfl, _, _, _, (Ad (Bd.tmp _ _ rfl) Af), (Aj rfl), ?_⟩
  rfl
def J8 (a0 : Dn) : Option Bool :=
 if (decide (1 ≤ a0.Wait)) then (if (decide (a0.Wait ≤ 1048576)) then (if (decide (a0.Wait ≤ a0.Most)) then (if (decide (a0.Most ≤ 1073741824)) then (if (decide (0 ≤ a0.Tries)) then (some (decide (a0.Tries ≤ 100))) else (some false)) else (some false)) else (some false)) else (some false)) else (some false)
set_option maxRecDepth 100000 in
theorem P3 {a0 : Dn} {r : Bool} (h : J8 a0 = some r) : Bp Tryz.prog 58 [.agg (EL.el a0)] (· = .s (.one (.b r))) := by
 unfold J8 at h
 refine A1 Tryz.func58 rfl (nt := 33) rfl (Nbl rfl) ?_
 intro w0 S0
 refine Aq (Ab (Jd rfl rfl (sv rfl (Ak rfl) (As (Aq (Ab (sv rfl (Aa Adb rfl) (sv rfl (Ae ti3 rfl (.lp _ _ _ rfl) rfl) (sv rfl (L8 rfl rfl) (sv rfl (Ag rfl) (Bo 6 rfl (fun hc => ?_) (fun hc => ?_))))))))))))
 ·replace h := B2 hc h
  clear hc
  refine son rfl rfl rfl (sv rfl (Aa Adb rfl) (son rfl rfl rfl (sv rfl (Ae ti3 rfl (.lp _ _ _ rfl) rfl) (son rfl rfl rfl (sv rfl (Fv rfl rfl) (sv rfl (Au rfl rfl) (sv rfl (Ag rfl) (Bo 11 rfl (fun hc => ?_) (fun hc => ?_)))))))))
  ·replace h := B2 hc h
   clear hc
   refine son rfl rfl rfl (sv rfl (Aa Ahp rfl) (son rfl rfl rfl (sv rfl (Ae ti3 rfl (.lp _ _ _ rfl) rfl) (son rfl rfl rfl (sv rfl (Aa Adb rfl) (son rfl rfl rfl (sv rfl (Ae ti3 rfl (.lp _ _ _ rfl) rfl) (son rfl rfl rfl (sv rfl (L8 rfl rfl) (sv rfl (Au rfl rfl) (sv rfl (Ag rfl) (Bo 18 rfl (fun hc => ?_) (fun hc => ?_)))))))))))))
   ·replace h := B2 hc h
    clear hc
    refine son rfl rfl rfl (sv rfl (Aa Ahp rfl) (son rfl rfl rfl (sv rfl (Ae ti3 rfl (.lp _ _ _ rfl) rfl) (son rfl rfl rfl (sv rfl (Fv rfl rfl) (sv rfl (Au rfl rfl) (sv rfl (Ag rfl) (Bo 23 rfl (fun hc => ?_) (fun hc => ?_)))))))))
    ·replace h := B2 hc h
     clear hc
     refine son rfl rfl rfl (sv rfl (Aa Aap rfl) (son rfl rfl rfl (sv rfl (Ae ti3 rfl (.lp _ _ _ rfl) rfl) (son rfl rfl rfl (sv rfl (L8 rfl rfl) (sv rfl (Au rfl rfl) (sv rfl (Ag rfl) (Bo 28 rfl (fun hc => ?_) (fun hc => ?_)))))))))
     ·replace h := B2 hc h
      clear hc
      refine son rfl rfl rfl (sv rfl (Aa Aap rfl) (son rfl rfl rfl (sv rfl (Ae ti3 rfl (.lp _ _ _ rfl) rfl) (son rfl rfl rfl (sv rfl (Fv rfl rfl) (sv rfl (Au rfl rfl) (sv rfl (Ak rfl) (As (Bj ?_)))))))))
      obtain rfl := Option.some.inj h
      refine ⟨Or.inr rfl, _, _, _, (Ad (Bd.tmp _ _ rfl) Af), (Aj rfl), ?_⟩
      rfl
     ·replace h := B1 hc h
      clear hc
      refine Av rfl rfl rfl rfl (Av rfl rfl rfl rfl (Av rfl rfl rfl rfl (sv rfl (Am rfl rfl) (sv rfl (Ak rfl) (As (Bj ?_))))))
      obtain rfl := Option.some.inj h
      refine ⟨Or.inr rfl, _, _, _, (Ad (Bd.tmp _ _ rfl) Af), (Aj rfl), ?_⟩
      rfl
    ·replace h := B1 hc h
     clear hc
     refine Av rfl rfl rfl rfl (Av rfl rfl rfl rfl (Av rfl rfl rfl rfl (sv rfl (Am rfl rfl) (sv rfl (Ag rfl) (Av rfl rfl rfl rfl (Av rfl rfl rfl rfl (Av rfl rfl rfl rfl (sv rfl (Am rfl rfl) (sv rfl (Ak rfl) (As (Bj ?_)))))))))))
     obtain rfl := Option.some.inj h
     refine ⟨Or.inr rfl, _, _, _, (Ad (Bd.tmp _ _ rfl) Af), (Aj rfl), ?_⟩
     rfl
   ·replace h := B1 hc h
    clear hc
    refine Av rfl rfl rfl rfl (Av rfl rfl rfl rfl (Av rfl rfl rfl rfl (sv rfl (Am rfl rfl) (sv rfl (Ag rfl) (Av rfl rfl rfl rfl (Av rfl rfl rfl rfl (Av rfl rfl rfl rfl (sv rfl (Am rfl rfl) (sv rfl (Ag rfl) (Av rfl rfl rfl rfl (Av rfl rfl rfl rfl (Av rfl rfl rfl rfl (sv rfl (Am rfl rfl) (sv rfl (Ak rfl) (As (Bj ?_))))))))))))))))
    obtain rfl := Option.some.inj h
    refine ⟨Or.inr rfl, _, _, _, (Ad (Bd.tmp _ _ rfl) Af), (Aj rfl), ?_⟩
    rfl
  ·replace h := B1 hc h
   clear hc
   refine Av rfl rfl rfl rfl (Av rfl rfl rfl rfl (Av rfl rfl rfl rfl (Av rfl rfl rfl rfl (Av rfl rfl rfl rfl (sv rfl (Am rfl rfl) (sv rfl (Ag rfl) (Av rfl rfl rfl rfl (Av rfl rfl rfl rfl (Av rfl rfl rfl rfl (sv rfl (Am rfl rfl) (sv rfl (Ag rfl) (Av rfl rfl rfl rfl (Av rfl rfl rfl rfl (Av rfl rfl rfl rfl (sv rfl (Am rfl rfl) (sv rfl (Ag rfl) (Av rfl rfl rfl rfl (Av rfl rfl rfl rfl (Av rfl rfl rfl rfl (sv rfl (Am rfl rfl) (sv rfl (Ak rfl) (As (Bj ?_)))))))))))))))))))))))
   obtain rfl := Option.some.inj h
   refine ⟨Or.inr rfl, _, _, _, (Ad (Bd.tmp _ _ rfl) Af), (Aj rfl), ?_⟩
   rfl
 ·replace h := B1 hc h
  clear hc
  refine Av rfl rfl rfl rfl (Av rfl rfl rfl rfl (Av rfl rfl rfl rfl (sv rfl (Am rfl rfl) (sv rfl (Ag rfl) (Av rfl rfl rfl rfl (Av rfl rfl rfl rfl (Av rfl rfl rfl rfl (Av rfl rfl rfl rfl (Av rfl rfl rfl rfl (sv rfl (Am rfl rfl) (sv rfl (Ag rfl) (Av rfl rfl rfl rfl (Av rfl rfl rfl rfl (Av rfl rfl rfl rfl (sv rfl (Am rfl rfl) (sv rfl (Ag rfl) (Av rfl rfl rfl rfl (Av rfl rfl rfl rfl (Av rfl rfl rfl rfl (sv rfl (Am rfl rfl) (sv rfl (Ag rfl) (Av rfl rfl rfl rfl (Av rfl rfl rfl rfl (Av rfl rfl rfl rfl (sv rfl (Am rfl rfl) (sv rfl (Ak rfl) (As (Bj ?_))))))))))))))))))))))))))))
  obtain rfl := Option.some.inj h
  refine ⟨Or.inr rfl, _, _, _, (Ad (Bd.tmp _ _ rfl) Af), (Aj rfl), ?_⟩
  rfl
def Gx (a0 : Cr) : Option Bool :=
 (Bx a0.Who 0 1048576).bind fun v1 => if v1 then ((J8 a0.Plan).bind fun v2 => if v2 then (if (decide (0 < a0.Plan.Tries)) then ((Bx a0.Attempts 1 1000).bind fun v3 => if v3 then ((Bx a0.Budget 0 1000).bind fun v4 => some v4) else (some false)) else (some false)) else (some false)) else (some false)
set_option maxRecDepth 100000 in
theorem Ml {a0 : Cr} {r : Bool} (h : Gx a0 = some r) : Bp Tryz.prog 25 [.agg (EL.el a0)] (· = .s (.one (.b r))) := by
 unfold Gx at h
 refine A1 Tryz.func25 rfl (nt := 27) rfl (Nbl rfl) ?_
 intro w0 S0
 refine Aq (Ab (Jd rfl rfl (sv rfl (Ak rfl) (As (Aq (Ab (sv rfl (Aa Agn rfl) (sv rfl (Ae ti3 rfl (.lp _ _ _ rfl) rfl) ?_))))))))
 obtain ⟨v1, hv1, h⟩ := An h
 refine A2 rfl Aer (Ac rfl (Ac rfl (Ac rfl Al))) (Aj rfl) (Ci hv1) (sv rfl (Ag rfl) (Bo 6 rfl (fun hc => ?_) (fun hc => ?_)))
 ·replace h := B2 hc h
  clear hc
  refine son rfl rfl rfl (sv rfl (Aa Wt rfl) (son rfl rfl rfl (sv rfl (Ao Aj4 rfl (.lp _ _ _ rfl) (Nbl rfl)) (son rfl rfl rfl ?_))))
  obtain ⟨v2, hv2, h⟩ := An h
  refine A2 rfl Atw (Ac rfl Al) (Aj rfl) (P3 hv2) (sv rfl (Au rfl rfl) (sv rfl (Ag rfl) (Bo 11 rfl (fun hc => ?_) (fun hc => ?_))))
  ·replace h := B2 hc h
   clear hc
   refine son rfl rfl rfl (sv rfl (Aa Wt rfl) (son rfl rfl rfl (sv rfl (Aa Aap rfl) (son rfl rfl rfl (sv rfl (Ae ti3 rfl (.lp _ _ _ rfl) rfl) (son rfl rfl rfl (sv rfl (C6 rfl rfl) (sv rfl (Au rfl rfl) (sv rfl (Ag rfl) (Bo 17 rfl (fun hc => ?_) (fun hc => ?_)))))))))))
   ·replace h := B2 hc h
    clear hc
    refine son rfl rfl rfl (sv rfl (Aa Afq rfl) (son rfl rfl rfl (sv rfl (Ae ti3 rfl (.lp _ _ _ rfl) rfl) (son rfl rfl rfl ?_))))
    obtain ⟨v3, hv3, h⟩ := An h
    refine A2 rfl Aer (Ac rfl (Ac rfl (Ac rfl Al))) (Aj rfl) (Ci hv3) (sv rfl (Au rfl rfl) (sv rfl (Ag rfl) (Bo 22 rfl (fun hc => ?_) (fun hc => ?_))))
    ·replace h := B2 hc h
     clear hc
     refine son rfl rfl rfl (sv rfl (Aa Ak8 rfl) (son rfl rfl rfl (sv rfl (Ae ti3 rfl (.lp _ _ _ rfl) rfl) (son rfl rfl rfl ?_))))
     obtain ⟨v4, hv4, h⟩ := An h
     refine A2 rfl Aer (Ac rfl (Ac rfl (Ac rfl Al))) (Aj rfl) (Ci hv4) (sv rfl (Au rfl rfl) (sv rfl (Ak rfl) (As (Bj ?_))))
     obtain rfl := Option.some.inj h
     refine ⟨Or.inr rfl, _, _, _, (Ad (Bd.tmp _ _ rfl) Af), (Aj rfl), ?_⟩
     rfl
    ·replace h := B1 hc h
     clear hc
     refine Av rfl rfl rfl rfl (Av rfl rfl rfl rfl (Av rfl rfl rfl rfl (sv rfl (Am rfl rfl) (sv rfl (Ak rfl) (As (Bj ?_))))))
     obtain rfl := Option.some.inj h
     refine ⟨Or.inr rfl, _, _, _, (Ad (Bd.tmp _ _ rfl) Af), (Aj rfl), ?_⟩
     rfl
   ·replace h := B1 hc h
    clear hc
    refine Av rfl rfl rfl rfl (Av rfl rfl rfl rfl (Av rfl rfl rfl rfl (sv rfl (Am rfl rfl) (sv rfl (Ag rfl) (Av rfl rfl rfl rfl (Av rfl rfl rfl rfl (Av rfl rfl rfl rfl (sv rfl (Am rfl rfl) (sv rfl (Ak rfl) (As (Bj ?_)))))))))))
    obtain rfl := Option.some.inj h
    refine ⟨Or.inr rfl, _, _, _, (Ad (Bd.tmp _ _ rfl) Af), (Aj rfl), ?_⟩
    rfl
  ·replace h := B1 hc h
   clear hc
   refine Av rfl rfl rfl rfl (Av rfl rfl rfl rfl (Av rfl rfl rfl rfl (Av rfl rfl rfl rfl (sv rfl (Am rfl rfl) (sv rfl (Ag rfl) (Av rfl rfl rfl rfl (Av rfl rfl rfl rfl (Av rfl rfl rfl rfl (sv rfl (Am rfl rfl) (sv rfl (Ag rfl) (Av rfl rfl rfl rfl (Av rfl rfl rfl rfl (Av rfl rfl rfl rfl (sv rfl (Am rfl rfl) (sv rfl (Ak rfl) (As (Bj ?_)))))))))))))))))
   obtain rfl := Option.some.inj h
   refine ⟨Or.inr rfl, _, _, _, (Ad (Bd.tmp _ _ rfl) Af), (Aj rfl), ?_⟩
   rfl
 ·replace h := B1 hc h
  clear hc
  refine Av rfl rfl rfl rfl (Av rfl rfl rfl rfl (Av rfl rfl rfl rfl (sv rfl (Am rfl rfl) (sv rfl (Ag rfl) (Av rfl rfl rfl rfl (Av rfl rfl rfl rfl (Av rfl rfl rfl rfl (Av rfl rfl rfl rfl (sv rfl (Am rfl rfl) (sv rfl (Ag rfl) (Av rfl rfl rfl rfl (Av rfl rfl rfl rfl (Av rfl rfl rfl rfl (sv rfl (Am rfl rfl) (sv rfl (Ag rfl) (Av rfl rfl rfl rfl (Av rfl rfl rfl rfl (Av rfl rfl rfl rfl (sv rfl (Am rfl rfl) (sv rfl (Ak rfl) (As (Bj ?_))))))))))))))))))))))
  obtain rfl := Option.some.inj h
  refine ⟨Or.inr rfl, _, _, _, (Ad (Bd.tmp _ _ rfl) Af), (Aj rfl), ?_⟩
  rfl
def Kz (a0 : Cr) : Option (Ah × Int) :=
 (Gx a0).bind fun v1 => if (!v1) then (some (C0, 1)) else (some ((Ah.mk a0 ([] : List Aw) 1 1 0 0 0 0 0 false Hw Oq (Bm.mk ([] : List UInt8) 0) ([] : List UInt8) ([] : List A8) ([] : List A5)), 0))
set_option maxRecDepth 100000 in
theorem Ql {a0 : Cr} {r : Ah × Int} (h : Kz a0 = some r) : Bp Tryz.prog 9 [.agg (EL.el a0)] (· = .tup [.agg (EL.el r.1), .one (Ii6 r.2)]) := by
 unfold Kz at h
 refine A1 Tryz.func9 rfl (nt := 10) rfl (Nbl rfl) ?_
 intro w0 S0
 refine Aq (Ab (Jd rfl rfl (Bz rfl Nn (sv rfl (Ak rfl) (As (Aq (Aq (Ab (sv rfl (Ao Aqh rfl (.lp _ _ _ rfl) (Nbl rfl)) ?_)))))))))
 obtain ⟨v1, hv1, h⟩ := An h
 refine A2 rfl Aur (Ac rfl Al) (Aj rfl) (Ml hv1) (sv rfl (B9 rfl) (As (ccI h rfl (fun h => ?_) (fun h => ?_))))
 ·refine Aq (Ab (sv rfl (Bk Nn Ac4 Ba (.nil _)) (Ax Ey rfl rfl rfl rfl (Nbl rfl) (Bs [.box (EL.el a0), .box Zba] rfl (sv rfl (Ak rfl) (As (Bj (Ar ?_))))))))
  obtain rfl := Option.some.inj h
  refine ⟨Or.inr rfl, _, _, _, (Ad (Bd.agg _ _ _ _ _ B5 rfl (.lp _ _ _ rfl) (Nbl rfl)) (Ad (Bd.tmp _ _ rfl) Af)), (Np rfl), ?_⟩
  rfl
 ·refine Bl (Ai (Aq (Ab (sv rfl (Ao Aqh rfl (.lp _ _ _ rfl) (Nbl rfl)) (sv rfl (Bk Nn Ac4 (Ap rfl (Ap rfl (Ap rfl Ba))) (.cons _ _ _ _ _ _ _ rfl rfl (Nbl rfl) (.cons _ _ _ _ _ _ _ rfl rfl (Nbl rfl) (.cons _ _ _ _ _ _ _ rfl rfl (Nbl rfl) (.nil _))))) (Ax Ey rfl rfl rfl rfl (Nbl rfl) (Bs [.box (EL.el a0), .box [Ii6 a0.Who, Ii6 a0.Plan.Wait, Ii6 a0.Plan.Most, Ii6 a0.Plan.Tries, Ii6 a0.Attempts, Ii6 a0.Budget, Znl, Ii6 1, Ii6 1, Ii6 0, Ii6 0, Ii6 0, Ii6 0, Ii6 0, .b false, Ii6 0, Ii6 0, Ii6 0, Ii6 0, Ii6 0, Ii6 0, Ii6 0, Ii6 0, Ii6 0, .b false, Ii6 0, Ii6 0, Ii6 0, Ii6 0, .b false, Znl, Znl, Znl, Znl, .b false, Znl, Ii6 0, Znl, Znl, Znl]] rfl (sv rfl (Ak rfl) (As (Bj ?_))))))))))
  obtain rfl := Option.some.inj h
  refine ⟨Or.inr rfl, _, _, _, (Ad (Bd.agg _ _ _ _ _ B5 rfl (.lp _ _ _ rfl) (Nbl rfl)) (Ad (Bd.tmp _ _ rfl) Af)), (Np rfl), ?_⟩
  rfl
def Gb (a0 : Ah) : Option Bool :=
 (Bx a0.Phase 0 11).bind fun v1 => if v1 then ((Bx a0.Epoch 1 65535).bind fun v2 => if v2 then ((Bx a0.Seq 0 4294967296).bind fun v3 => if v3 then ((Bx a0.Attempt 0 a0.Cfg.Attempts).bind fun v4 => if v4 then (if (decide (0 ≤ a0.Sent)) then (if (decide (0 ≤ a0.Left)) then ((Bx a0.Resets 0 1001).bind fun v5 => some v5) else (some false)) else (some false)) else (some false)) else (some false)) else (some false)) else (some false)
set_option maxRecDepth 100000 in
theorem Pc {a0 : Ah} {r : Bool} (h : Gb a0 = some r) : Bp Tryz.prog 29 [.agg (EL.el a0)] (· = .s (.one (.b r))) := by
 unfold Gb at h
 refine A1 Tryz.func29 rfl (nt := 39) rfl (Nbl rfl) ?_
 intro w0 S0
 refine Aq (Ab (Jd rfl rfl (sv rfl (Ak rfl) (As (Aq (Ab (sv rfl (Aa G4 rfl) (sv rfl (Ae ti3 rfl (.lp _ _ _ rfl) rfl) ?_))))))))
 obtain ⟨v1, hv1, h⟩ := An h
 refine A2 rfl Aer (Ac rfl (Ac rfl (Ac rfl Al))) (Aj rfl) (Ci hv1) (sv rfl (Ag rfl) (Bo 6 rfl (fun hc => ?_) (fun hc => ?_)))
 ·replace h := B2 hc h
  clear hc
  refine son rfl rfl rfl (sv rfl (Aa Zz rfl) (son rfl rfl rfl (sv rfl (Ae ti3 rfl (.lp _ _ _ rfl) rfl) (son rfl rfl rfl ?_))))
  obtain ⟨v2, hv2, h⟩ := An h
  refine A2 rfl Aer (Ac rfl (Ac rfl (Ac rfl Al))) (Aj rfl) (Ci hv2) (sv rfl (Au rfl rfl) (sv rfl (Ag rfl) (Bo 11 rfl (fun hc => ?_) (fun hc => ?_))))
  ·replace h := B2 hc h
   clear hc
   refine son rfl rfl rfl (sv rfl (Aa Xs rfl) (son rfl rfl rfl (sv rfl (Ae ti3 rfl (.lp _ _ _ rfl) rfl) (son rfl rfl rfl ?_))))
   obtain ⟨v3, hv3, h⟩ := An h
   refine A2 rfl Aer (Ac rfl (Ac rfl (Ac rfl Al))) (Aj rfl) (Ci hv3) (sv rfl (Au rfl rfl) (sv rfl (Ag rfl) (Bo 16 rfl (fun hc => ?_) (fun hc => ?_))))
   ·replace h := B2 hc h
    clear hc
    refine son rfl rfl rfl (sv rfl (Aa Oe rfl) (son rfl rfl rfl (sv rfl (Ae ti3 rfl (.lp _ _ _ rfl) rfl) (son rfl rfl rfl (sv rfl (Aa Qt rfl) (son rfl rfl rfl (sv rfl (Aa Afq rfl) (son rfl rfl rfl (sv rfl (Ae ti3 rfl (.lp _ _ _ rfl) rfl) (son rfl rfl rfl ?_))))))))))
    obtain ⟨v4, hv4, h⟩ := An h
    refine A2 rfl Aer (Ac rfl (Ac rfl (Ac rfl Al))) (Aj rfl) (Ci hv4) (sv rfl (Au rfl rfl) (sv rfl (Ag rfl) (Bo 24 rfl (fun hc => ?_) (fun hc => ?_))))
    ·replace h := B2 hc h
     clear hc
     refine son rfl rfl rfl (sv rfl (Aa Aan rfl) (son rfl rfl rfl (sv rfl (Ae ti3 rfl (.lp _ _ _ rfl) rfl) (son rfl rfl rfl (sv rfl (L8 rfl rfl) (sv rfl (Au rfl rfl) (sv rfl (Ag rfl) (Bo 29 rfl (fun hc => ?_) (fun hc => ?_)))))))))
     ·replace h := B2 hc h
      clear hc
      refine son rfl rfl rfl (sv rfl (Aa Ra rfl) (son rfl rfl rfl (sv rfl (Ae ti3 rfl (.lp _ _ _ rfl) rfl) (son rfl rfl rfl (sv rfl (L8 rfl rfl) (sv rfl (Au rfl rfl) (sv rfl (Ag rfl) (Bo 34 rfl (fun hc => ?_) (fun hc => ?_)))))))))
      ·replace h := B2 hc h
       clear hc
       refine son rfl rfl rfl (sv rfl (Aa Acy rfl) (son rfl rfl rfl (sv rfl (Ae ti3 rfl (.lp _ _ _ rfl) rfl) (son rfl rfl rfl ?_))))
       obtain ⟨v5, hv5, h⟩ := An h
       refine A2 rfl Aer (Ac rfl (Ac rfl (Ac rfl Al))) (Aj rfl) (Ci hv5) (sv rfl (Au rfl rfl) (sv rfl (Ak rfl) (As (Bj ?_))))
       obtain rfl := Option.some.inj h
       refine ⟨Or.inr rfl, _, _, _, (Ad (Bd.tmp _ _ rfl) Af), (Aj rfl), ?_⟩
       rfl
      ·replace h := B1 hc h
       clear hc
       refine Av rfl rfl rfl rfl (Av rfl rfl rfl rfl (Av rfl rfl rfl rfl (sv rfl (Am rfl rfl) (sv rfl (Ak rfl) (As (Bj ?_))))))
       obtain rfl := Option.some.inj h
       refine ⟨Or.inr rfl, _, _, _, (Ad (Bd.tmp _ _ rfl) Af), (Aj rfl), ?_⟩
       rfl
     ·replace h := B1 hc h
      clear hc
      refine Av rfl rfl rfl rfl (Av rfl rfl rfl rfl (Av rfl rfl rfl rfl (sv rfl (Am rfl rfl) (sv rfl (Ag rfl) (Av rfl rfl rfl rfl (Av rfl rfl rfl rfl (Av rfl rfl rfl rfl (sv rfl (Am rfl rfl) (sv rfl (Ak rfl) (As (Bj ?_)))))))))))
      obtain rfl := Option.some.inj h
      refine ⟨Or.inr rfl, _, _, _, (Ad (Bd.tmp _ _ rfl) Af), (Aj rfl), ?_⟩
      rfl
    ·replace h := B1 hc h
     clear hc
     refine Av rfl rfl rfl rfl (Av rfl rfl rfl rfl (Av rfl rfl rfl rfl (sv rfl (Am rfl rfl) (sv rfl (Ag rfl) (Av rfl rfl rfl rfl (Av rfl rfl rfl rfl (Av rfl rfl rfl rfl (sv rfl (Am rfl rfl) (sv rfl (Ag rfl) (Av rfl rfl rfl rfl (Av rfl rfl rfl rfl (Av rfl rfl rfl rfl (sv rfl (Am rfl rfl) (sv rfl (Ak rfl) (As (Bj ?_))))))))))))))))
     obtain rfl := Option.some.inj h
     refine ⟨Or.inr rfl, _, _, _, (Ad (Bd.tmp _ _ rfl) Af), (Aj rfl), ?_⟩
     rfl
   ·replace h := B1 hc h
    clear hc
    refine Av rfl rfl rfl rfl (Av rfl rfl rfl rfl (Av rfl rfl rfl rfl (Av rfl rfl rfl rfl (Av rfl rfl rfl rfl (Av rfl rfl rfl rfl (sv rfl (Am rfl rfl) (sv rfl (Ag rfl) (Av rfl rfl rfl rfl (Av rfl rfl rfl rfl (Av rfl rfl rfl rfl (sv rfl (Am rfl rfl) (sv rfl (Ag rfl) (Av rfl rfl rfl rfl (Av rfl rfl rfl rfl (Av rfl rfl rfl rfl (sv rfl (Am rfl rfl) (sv rfl (Ag rfl) (Av rfl rfl rfl rfl (Av rfl rfl rfl rfl (Av rfl rfl rfl rfl (sv rfl (Am rfl rfl) (sv rfl (Ak rfl) (As (Bj ?_))))))))))))))))))))))))
    obtain rfl := Option.some.inj h
    refine ⟨Or.inr rfl, _, _, _, (Ad (Bd.tmp _ _ rfl) Af), (Aj rfl), ?_⟩
    rfl
  ·replace h := B1 hc h
   clear hc
   refine Av rfl rfl rfl rfl (Av rfl rfl rfl rfl (Av rfl rfl rfl rfl (sv rfl (Am rfl rfl) (sv rfl (Ag rfl) (Av rfl rfl rfl rfl (Av rfl rfl rfl rfl (Av rfl rfl rfl rfl (Av rfl rfl rfl rfl (Av rfl rfl rfl rfl (Av rfl rfl rfl rfl (sv rfl (Am rfl rfl) (sv rfl (Ag rfl) (Av rfl rfl rfl rfl (Av rfl rfl rfl rfl (Av rfl rfl rfl rfl (sv rfl (Am rfl rfl) (sv rfl (Ag rfl) (Av rfl rfl rfl rfl (Av rfl rfl rfl rfl (Av rfl rfl rfl rfl (sv rfl (Am rfl rfl) (sv rfl (Ag rfl) (Av rfl rfl rfl rfl (Av rfl rfl rfl rfl (Av rfl rfl rfl rfl (sv rfl (Am rfl rfl) (sv rfl (Ak rfl) (As (Bj ?_)))))))))))))))))))))))))))))
   obtain rfl := Option.some.inj h
   refine ⟨Or.inr rfl, _, _, _, (Ad (Bd.tmp _ _ rfl) Af), (Aj rfl), ?_⟩
   rfl
 ·replace h := B1 hc h
  clear hc
  refine Av rfl rfl rfl rfl (Av rfl rfl rfl rfl (Av rfl rfl rfl rfl (sv rfl (Am rfl rfl) (sv rfl (Ag rfl) (Av rfl rfl rfl rfl (Av rfl rfl rfl rfl (Av rfl rfl rfl rfl (sv rfl (Am rfl rfl) (sv rfl (Ag rfl) (Av rfl rfl rfl rfl (Av rfl rfl rfl rfl (Av rfl rfl rfl rfl (Av rfl rfl rfl rfl (Av rfl rfl rfl rfl (Av rfl rfl rfl rfl (sv rfl (Am rfl rfl) (sv rfl (Ag rfl) (Av rfl rfl rfl rfl (Av rfl rfl rfl rfl (Av rfl rfl rfl rfl (sv rfl (Am rfl rfl) (sv rfl (Ag rfl) (Av rfl rfl rfl rfl (Av rfl rfl rfl rfl (Av rfl rfl rfl rfl (sv rfl (Am rfl rfl) (sv rfl (Ag rfl) (Av rfl rfl rfl rfl (Av rfl rfl rfl rfl (Av rfl rfl rfl rfl (sv rfl (Am rfl rfl) (sv rfl (Ak rfl) (As (Bj ?_))))))))))))))))))))))))))))))))))
  obtain rfl := Option.some.inj h
  refine ⟨Or.inr rfl, _, _, _, (Ad (Bd.tmp _ _ rfl) Af), (Aj rfl), ?_⟩
  rfl
def E8 (a0 : Int) (a1 : Int) : Option Bool :=
 if (decide (0 ≤ a0)) then (some (decide (a0 ≤ a1))) else (some false)
set_option maxRecDepth 100000 in
theorem Ie {a0 : Int} {a1 : Int} {r : Bool} (h : E8 a0 a1 = some r) : Bp Tryz.prog 120 [.one (Ii6 a0), .one (Ii6 a1)] (· = .s (.one (.b r))) := by
 unfold E8 at h
 refine A1 Tryz.func120 rfl (nt := 12) rfl (Nbl rfl) ?_
 intro w0 S0
 refine Aq (Ab (sv rfl (Ak rfl) (As (Aq (Ab (sv rfl (Ag rfl) (sv rfl (L8 rfl rfl) (sv rfl (Ag rfl) (Bo 7 rfl (fun hc => ?_) (fun hc => ?_))))))))))
 ·replace h := B2 hc h
  clear hc
  refine son rfl rfl rfl (sv rfl (Ag rfl) (son rfl rfl rfl (sv rfl (Ag rfl) (son rfl rfl rfl (sv rfl (Fv rfl rfl) (sv rfl (Au rfl rfl) (sv rfl (Ak rfl) (As (Bj ?_)))))))))
  obtain rfl := Option.some.inj h
  refine ⟨Or.inr rfl, _, _, _, (Ad (Bd.tmp _ _ rfl) Af), (Aj rfl), ?_⟩
  rfl
 ·replace h := B1 hc h
  clear hc
  refine Av rfl rfl rfl rfl (Av rfl rfl rfl rfl (Av rfl rfl rfl rfl (sv rfl (Am rfl rfl) (sv rfl (Ak rfl) (As (Bj ?_))))))
  obtain rfl := Option.some.inj h
  refine ⟨Or.inr rfl, _, _, _, (Ad (Bd.tmp _ _ rfl) Af), (Aj rfl), ?_⟩
  rfl
def Hf (a0 : Int) (b1 : Bool) : Option K8 :=
 if b1 then (some (K8.mk true false true)) else (if (decide (a0 = 4)) then (some (K8.mk false true false)) else (some (K8.mk false false false)))
def Gp (a0 : Int) : Option K8 :=
 if (decide (a0 = 1)) then (some (K8.mk true false false)) else (if (decide (a0 = 2)) then (Hf a0 (decide (a0 = 2))) else (Hf a0 (decide (a0 = 3))))
set_option maxRecDepth 100000 in
theorem Oj {a0 : Int} {r : K8} (h : Gp a0 = some r) : Bp Tryz.prog 121 [.one (Ii6 a0)] (· = .s (.agg (EL.el r))) := by
 unfold Gp at h
 refine A1 Tryz.func121 rfl (nt := 15) rfl (Nbl rfl) ?_
 intro w0 S0
 refine Aq (Ab (Bz rfl Aab (As (Aq (Aq (Ab (sv rfl (Ag rfl) (As (B7 (Aq (Ab (sv rfl (Bq rfl rfl) (sv rfl (Ak rfl) (As (ccI h rfl (fun h => ?_) (fun h => ?_))))))))))))))))
 ·refine Aq (Ab (sv rfl (G6 Aab Aa9 (Ap rfl (Ap rfl (Ap rfl Ba))) (.cons _ _ _ _ _ _ _ rfl rfl (Nbl rfl) (.cons _ _ _ _ _ _ _ rfl rfl (Nbl rfl) (.cons _ _ _ _ _ _ _ rfl rfl (Nbl rfl) (.nil _))))) (Ax Ago rfl rfl rfl rfl (Nbl rfl) (Bs [.box [.b true, .b false, .b false]] rfl (As (Bj (A9 (Ar ?_))))))))
  obtain rfl := Option.some.inj h
  refine ⟨Or.inr rfl, _, _, _, (Ad (Bd.agg _ _ _ _ _ Ahm rfl (.lp _ _ _ rfl) (Nbl rfl)) Af), (Aj rfl), ?_⟩
  rfl
 ·refine Aq (Aq (Ab (sv rfl (Bq rfl rfl) (sv rfl (Ak rfl) (As (G5 (Bool) (fun b1 => [(2, .s (.one (.lp 0 0))), (3, .s (.one (Ii6 a0))), (7, .s (.one (.b b1)))]) (fun b1 => [.box [.b false, .b false, .b false]]) (fun b1 => Hf a0 b1 = some r) (fun _ _ => Be rfl) (fun _ _ => A0 rfl) (fun _ _ => Nat.le_of_ble_eq_true rfl) (fun b1 h => ?_) ?_))))))
  ·unfold Hf at h
   refine ccI h rfl (fun h => ?_) (fun h => ?_)
   ·refine Aq (Ab (sv rfl (G6 Aab Aa9 (Ap rfl (Ap rfl (Ap rfl Ba))) (.cons _ _ _ _ _ _ _ rfl rfl (Nbl rfl) (.cons _ _ _ _ _ _ _ rfl rfl (Nbl rfl) (.cons _ _ _ _ _ _ _ rfl rfl (Nbl rfl) (.nil _))))) (Ax Ago rfl rfl rfl rfl (Nbl rfl) (Bs [.box [.b true, .b false, .b true]] rfl (As (Bj (A9 (Ar ?_))))))))
    obtain rfl := Option.some.inj h
    refine ⟨Or.inr rfl, _, _, _, (Ad (Bd.agg _ _ _ _ _ Ahm rfl (.lp _ _ _ rfl) (Nbl rfl)) Af), (Aj rfl), ?_⟩
    rfl
   ·refine Aq (Ab (sv rfl (Bq rfl rfl) (sv rfl (Ak rfl) (As (ccI h rfl (fun h => ?_) (fun h => ?_))))))
    ·refine Aq (Ab (sv rfl (G6 Aab Aa9 (Ap rfl (Ap rfl (Ap rfl Ba))) (.cons _ _ _ _ _ _ _ rfl rfl (Nbl rfl) (.cons _ _ _ _ _ _ _ rfl rfl (Nbl rfl) (.cons _ _ _ _ _ _ _ rfl rfl (Nbl rfl) (.nil _))))) (Ax Ago rfl rfl rfl rfl (Nbl rfl) (Bs [.box [.b false, .b true, .b false]] rfl (As (Bj (A9 (Ar ?_))))))))
     obtain rfl := Option.some.inj h
     refine ⟨Or.inr rfl, _, _, _, (Ad (Bd.agg _ _ _ _ _ Ahm rfl (.lp _ _ _ rfl) (Nbl rfl)) Af), (Aj rfl), ?_⟩
     rfl
    ·refine Bl (A4 (Ai (Aq (Ab (sv rfl (G6 Aab Aa9 Ba (.nil _)) (Ax Ago rfl rfl rfl rfl (Nbl rfl) (Bs [.box [.b false, .b false, .b false]] rfl (As (Bj ?_)))))))))
     obtain rfl := Option.some.inj h
     refine ⟨Or.inr rfl, _, _, _, (Ad (Bd.agg _ _ _ _ _ Ahm rfl (.lp _ _ _ rfl) (Nbl rfl)) Af), (Aj rfl), ?_⟩
     rfl
  ·skip
   refine ccI h rfl (fun h => ?_) (fun h => ?_)
   ·refine Bl (Ai ?_)
    exact ⟨(decide (a0 = 2)), _, h, ⟨rfl, rfl, rfl, trivial⟩, rfl⟩
   ·refine Ab (sv rfl (Bq rfl rfl) (sv rfl (Ak rfl) (As ?_)))
    exact ⟨(decide (a0 = 3)), _, h, ⟨rfl, rfl, rfl, trivial⟩, rfl⟩
def Ig (a0 : B8) : Option Bool :=
 if (decide (0 < (a0.Lo.length : Int))) then (some true) else (if (decide (0 < (a0.Hi.length : Int))) then (some true) else (some a0.Open))
set_option maxRecDepth 100000 in
theorem Rp {a0 : B8} {r : Bool} (h : Ig a0 = some r) : Bp Tryz.prog 122 [.agg (EL.el a0)] (· = .s (.one (.b r))) := by
 unfold Ig at h
 refine A1 Tryz.func122 rfl (nt := 17) rfl (Nbl rfl) ?_
 intro w0 S0
 refine Aq (Ab (Jd rfl rfl (sv rfl (Ak rfl) (As (Aq (Ab (sv rfl (Aa T2 rfl) (sv rfl (Ae L4 rfl (.lp _ _ _ rfl) rfl) (sv rfl (Az Lh rfl) (sv rfl (C6 rfl rfl) (sv rfl (Ag rfl) (Bo 7 rfl (fun hc => ?_) (fun hc => ?_)))))))))))))
 ·replace h := B2 hc h
  clear hc
  refine Av rfl rfl rfl rfl (Av rfl rfl rfl rfl (Av rfl rfl rfl rfl (Av rfl rfl rfl rfl (sv rfl (Au rfl rfl) (sv rfl (Ag rfl) (Av rfl rfl rfl rfl (Av rfl rfl rfl rfl (sv rfl (Au rfl rfl) (sv rfl (Ak rfl) (As (Bj ?_)))))))))))
  obtain rfl := Option.some.inj h
  refine ⟨Or.inr rfl, _, _, _, (Ad (Bd.tmp _ _ rfl) Af), (Aj rfl), ?_⟩
  rfl
 ·replace h := B1 hc h
  clear hc
  refine son rfl rfl rfl (sv rfl (Aa Qv rfl) (son rfl rfl rfl (sv rfl (Ae L4 rfl (.lp _ _ _ rfl) rfl) (son rfl rfl rfl (sv rfl (Az Lh rfl) (son rfl rfl rfl (sv rfl (C6 rfl rfl) (sv rfl (Am rfl rfl) (sv rfl (Ag rfl) (Bo 13 rfl (fun hc => ?_) (fun hc => ?_)))))))))))
  ·replace h := B2 hc h
   clear hc
   refine Av rfl rfl rfl rfl (Av rfl rfl rfl rfl (sv rfl (Au rfl rfl) (sv rfl (Ak rfl) (As (Bj ?_)))))
   obtain rfl := Option.some.inj h
   refine ⟨Or.inr rfl, _, _, _, (Ad (Bd.tmp _ _ rfl) Af), (Aj rfl), ?_⟩
   rfl
  ·replace h := B1 hc h
   clear hc
   refine son rfl rfl rfl (sv rfl (Aa Xw rfl) (son rfl rfl rfl (sv rfl (Ae ti4 rfl (.lp _ _ _ rfl) rfl) (sv rfl (Am rfl rfl) (sv rfl (Ak rfl) (As (Bj ?_)))))))
   obtain rfl := Option.some.inj h
   refine ⟨Or.inr rfl, _, _, _, (Ad (Bd.tmp _ _ rfl) Af), (Aj rfl), ?_⟩
   rfl
def J9 (a0 : List UInt8) : Option Bool :=
 if (decide (1 ≤ (a0.length : Int))) then (some (decide ((a0.length : Int) ≤ 16))) else (some false)
set_option maxRecDepth 100000 in
theorem Vb {a0 : List UInt8} {r : Bool} (h : J9 a0 = some r) : Bp Tryz.prog 123 [.one (.sl a0.length (a0.flatMap eU8))] (· = .s (.one (.b r))) := by
 unfold J9 at h
 refine A1 Tryz.func123 rfl (nt := 11) rfl (Nbl rfl) ?_
 intro w0 S0
 refine Aq (Ab (sv rfl (Ak rfl) (As (Aq (Ab (sv rfl (Ag rfl) (sv rfl (Az Lh rfl) (sv rfl (L8 rfl rfl) (sv rfl (Ag rfl) (Bo 6 rfl (fun hc => ?_) (fun hc => ?_)))))))))))
 ·replace h := B2 hc h
  clear hc
  refine son rfl rfl rfl (sv rfl (Ag rfl) (son rfl rfl rfl (sv rfl (Az Lh rfl) (son rfl rfl rfl (sv rfl (Fv rfl rfl) (sv rfl (Au rfl rfl) (sv rfl (Ak rfl) (As (Bj ?_)))))))))
  obtain rfl := Option.some.inj h
  refine ⟨Or.inr rfl, _, _, _, (Ad (Bd.tmp _ _ rfl) Af), (Aj rfl), ?_⟩
  rfl
 ·replace h := B1 hc h
  clear hc
  refine Av rfl rfl rfl rfl (Av rfl rfl rfl rfl (Av rfl rfl rfl rfl (sv rfl (Am rfl rfl) (sv rfl (Ak rfl) (As (Bj ?_))))))
  obtain rfl := Option.some.inj h
  refine ⟨Or.inr rfl, _, _, _, (Ad (Bd.tmp _ _ rfl) Af), (Aj rfl), ?_⟩
  rfl
def Gk (a0 : B8) : Option Bool :=
 if (decide ((a0.Lo.length : Int) ≤ 17)) then (if (decide ((a0.Hi.length : Int) ≤ 17)) then (if a0.Open then (some (!(decide (0 < (a0.Hi.length : Int))))) else (some true)) else (some false)) else (some false)
set_option maxRecDepth 100000 in
theorem Qk {a0 : B8} {r : Bool} (h : Gk a0 = some r) : Bp Tryz.prog 133 [.agg (EL.el a0)] (· = .s (.one (.b r))) := by
 unfold Gk at h
 refine A1 Tryz.func133 rfl (nt := 24) rfl (Nbl rfl) ?_
 intro w0 S0
 refine Aq (Ab (Jd rfl rfl (sv rfl (Ak rfl) (As (Aq (Ab (sv rfl (Aa T2 rfl) (sv rfl (Ae L4 rfl (.lp _ _ _ rfl) rfl) (sv rfl (Az Lh rfl) (sv rfl (Fv rfl rfl) (sv rfl (Ag rfl) (Bo 7 rfl (fun hc => ?_) (fun hc => ?_)))))))))))))
 ·replace h := B2 hc h
  clear hc
  refine son rfl rfl rfl (sv rfl (Aa Qv rfl) (son rfl rfl rfl (sv rfl (Ae L4 rfl (.lp _ _ _ rfl) rfl) (son rfl rfl rfl (sv rfl (Az Lh rfl) (son rfl rfl rfl (sv rfl (Fv rfl rfl) (sv rfl (Au rfl rfl) (sv rfl (Ag rfl) (Bo 13 rfl (fun hc => ?_) (fun hc => ?_)))))))))))
  ·replace h := B2 hc h
   clear hc
   refine son rfl rfl rfl (sv rfl (Aa Xw rfl) (son rfl rfl rfl (sv rfl (Ae ti4 rfl (.lp _ _ _ rfl) rfl) (son rfl rfl rfl (sv rfl (Ag rfl) (Bo 16 rfl (fun hc => ?_) (fun hc => ?_)))))))
   ·replace h := B2 hc h
    clear hc
    refine son rfl rfl rfl (sv rfl (Aa Qv rfl) (son rfl rfl rfl (sv rfl (Ae L4 rfl (.lp _ _ _ rfl) rfl) (son rfl rfl rfl (sv rfl (Az Lh rfl) (son rfl rfl rfl (sv rfl (C6 rfl rfl) (son rfl rfl rfl (sv rfl (Au rfl rfl) (son rfl rfl rfl (sv rfl (B9 rfl) (sv rfl (Au rfl rfl) (sv rfl (Ak rfl) (As (Bj ?_)))))))))))))))
    obtain rfl := Option.some.inj h
    refine ⟨Or.inr rfl, _, _, _, (Ad (Bd.tmp _ _ rfl) Af), (Aj rfl), ?_⟩
    rfl
   ·replace h := B1 hc h
    clear hc
    refine Av rfl rfl rfl rfl (Av rfl rfl rfl rfl (Av rfl rfl rfl rfl (Av rfl rfl rfl rfl (son rfl rfl rfl (sv rfl (Am rfl rfl) (son rfl rfl rfl (sv rfl (B9 rfl) (sv rfl (Au rfl rfl) (sv rfl (Ak rfl) (As (Bj ?_)))))))))))
    obtain rfl := Option.some.inj h
    refine ⟨Or.inr rfl, _, _, _, (Ad (Bd.tmp _ _ rfl) Af), (Aj rfl), ?_⟩
    rfl
  ·replace h := B1 hc h
   clear hc
   refine Av rfl rfl rfl rfl (Av rfl rfl rfl rfl (Av rfl rfl rfl rfl (Fz rfl rfl rfl (Fz rfl rfl rfl (Fz rfl rfl rfl (Fz rfl rfl rfl (Av rfl rfl rfl rfl (Av rfl rfl rfl rfl (sv rfl (Am rfl rfl) (sv rfl (Ak rfl) (As (Bj ?_))))))))))))
   obtain rfl := Option.some.inj h
   refine ⟨Or.inr rfl, _, _, _, (Ad (Bd.tmp _ _ rfl) Af), (Aj rfl), ?_⟩
   rfl
 ·replace h := B1 hc h
  clear hc
  refine Av rfl rfl rfl rfl (Av rfl rfl rfl rfl (Av rfl rfl rfl rfl (Av rfl rfl rfl rfl (sv rfl (Am rfl rfl) (sv rfl (Ag rfl) (Av rfl rfl rfl rfl (Av rfl rfl rfl rfl (Av rfl rfl rfl rfl (Fz rfl rfl rfl (Fz rfl rfl rfl (Fz rfl rfl rfl (Fz rfl rfl rfl (Av rfl rfl rfl rfl (Av rfl rfl rfl rfl (sv rfl (Am rfl rfl) (sv rfl (Ak rfl) (As (Bj ?_))))))))))))))))))
  obtain rfl := Option.some.inj h
  refine ⟨Or.inr rfl, _, _, _, (Ad (Bd.tmp _ _ rfl) Af), (Aj rfl), ?_⟩
  rfl
def Mw (a0 : List UInt8) (a1 : List UInt8) : Option Int :=
 some (Aeu a0 a1)
set_option maxRecDepth 100000 in
theorem Rv {a0 : List UInt8} {a1 : List UInt8} {r : Int} (h : Mw a0 a1 = some r) : Bp Tryz.prog 141 [.one (.sl a0.length (a0.flatMap eU8)), .one (.sl a1.length (a1.flatMap eU8))] (· = .s (.one (Ii6 r))) := by
 unfold Mw at h
 refine A1 Tryz.func141 rfl (nt := 8) rfl (Nbl rfl) ?_
 intro w0 S0
 refine Aq (Ab (sv rfl (Ak rfl) (As (Aq (Ab (sv rfl (Ag rfl) (sv rfl (Ag rfl) (sv rfl (Aio (a := a0) (b := a1) Asa rfl rfl rfl rfl rfl rfl) (sv rfl (Ak rfl) (As (Bj ?_)))))))))))
 obtain rfl := Option.some.inj h
 refine ⟨Or.inr rfl, _, _, _, (Ad (Bd.tmp _ _ rfl) Af), (Aj rfl), ?_⟩
 rfl
def Pt (a0 : List UInt8) (a1 : List UInt8) : Option Int :=
 (Mw a0 a1).bind fun v1 => some v1
set_option maxRecDepth 100000 in
theorem Wr {a0 : List UInt8} {a1 : List UInt8} {r : Int} (h : Pt a0 a1 = some r) : Bp Tryz.prog 139 [.one (.sl a0.length (a0.flatMap eU8)), .one (.sl a1.length (a1.flatMap eU8))] (· = .s (.one (Ii6 r))) := by
 unfold Pt at h
 refine A1 Tryz.func139 rfl (nt := 8) rfl (Nbl rfl) ?_
 intro w0 S0
 refine Aq (Ab (sv rfl (Ak rfl) (As (Aq (Ab (sv rfl (Ag rfl) (sv rfl (Ag rfl) ?_)))))))
 obtain ⟨v1, hv1, h⟩ := An h
 refine A2 rfl Asr (Ac rfl (Ac rfl Al)) (Aj rfl) (Rv hv1) (sv rfl (Ak rfl) (As (Bj ?_)))
 obtain rfl := Option.some.inj h
 refine ⟨Or.inr rfl, _, _, _, (Ad (Bd.tmp _ _ rfl) Af), (Aj rfl), ?_⟩
 rfl
def Fw (a0 : B8) (b1 : Bool) : Option Bool :=
 if b1 then (some true) else ((Pt a0.Hi a0.Lo).bind fun v2 => some (decide (v2 ≤ 0)))
def Kr (a0 : B8) : Option Bool :=
 if a0.Open then (some false) else (if (decide ((a0.Lo.length : Int) = 0)) then (if (decide ((a0.Hi.length : Int) = 1)) then ((idx a0.Hi 0).bind fun u3 => Fw a0 (decide ((u3.toBitVec.toNat : Int) = (0 : Int)))) else (Fw a0 false)) else (Fw a0 false))
set_option maxRecDepth 100000 in
theorem Ub {a0 : B8} {r : Bool} (h : Kr a0 = some r) : Bp Tryz.prog 134 [.agg (EL.el a0)] (· = .s (.one (.b r))) := by
 unfold Kr at h
 refine A1 Tryz.func134 rfl (nt := 32) rfl (Nbl rfl) ?_
 intro w0 S0
 refine Aq (Ab (Jd rfl rfl (sv rfl (Ak rfl) (As (Aq (Aq (Ab (sv rfl (Aa Xw rfl) (sv rfl (Ae ti4 rfl (.lp _ _ _ rfl) rfl) (As (ccI h rfl (fun h => ?_) (fun h => ?_))))))))))))
 ·refine Aq (Ab (sv rfl (Ak rfl) (As (Bj (Ar ?_)))))
  obtain rfl := Option.some.inj h
  refine ⟨Or.inr rfl, _, _, _, (Ad (Bd.tmp _ _ rfl) Af), (Aj rfl), ?_⟩
  rfl
 ·refine Bl (Ai (Aq (G5 (Bool) (fun b1 => [(1, .s (.one (.lp 0 0))), (3, .s (.one (.b b1)))]) (fun b1 => [.box (EL.el a0)]) (fun b1 => Fw a0 b1 = some r) (fun _ _ => Be rfl) (fun _ _ => A0 rfl) (fun _ _ => Nat.le_of_ble_eq_true rfl) (fun b1 h => ?_) ?_)))
  ·unfold Fw at h
   refine Aq (Ab (sv rfl (Ag rfl) (sv rfl (Ag rfl) (Bo 24 rfl (fun hc => ?_) (fun hc => ?_)))))
   ·replace h := B2 hc h
    clear hc
    refine Av rfl rfl rfl rfl (Av rfl rfl rfl rfl (Av rfl rfl rfl rfl (Av rfl rfl rfl rfl (Av rfl rfl rfl rfl (Av rfl rfl rfl rfl (sv rfl (Au rfl rfl) (sv rfl (Ak rfl) (As (Bj ?_)))))))))
    obtain rfl := Option.some.inj h
    refine ⟨Or.inr rfl, _, _, _, (Ad (Bd.tmp _ _ rfl) Af), (Aj rfl), ?_⟩
    rfl
   ·replace h := B1 hc h
    clear hc
    refine son rfl rfl rfl (sv rfl (Aa Qv rfl) (son rfl rfl rfl (sv rfl (Ae L4 rfl (.lp _ _ _ rfl) rfl) (son rfl rfl rfl (sv rfl (Aa T2 rfl) (son rfl rfl rfl (sv rfl (Ae L4 rfl (.lp _ _ _ rfl) rfl) (son rfl rfl rfl ?_))))))))
    obtain ⟨v2, hv2, h⟩ := An h
    refine A2 rfl Ark (Ac rfl (Ac rfl Al)) (Aj rfl) (Wr hv2) (son rfl rfl rfl (sv rfl (Fv rfl rfl) (sv rfl (Am rfl rfl) (sv rfl (Ak rfl) (As (Bj ?_))))))
    obtain rfl := Option.some.inj h
    refine ⟨Or.inr rfl, _, _, _, (Ad (Bd.tmp _ _ rfl) Af), (Aj rfl), ?_⟩
    rfl
  ·skip
   refine Ab (sv rfl (Aa T2 rfl) (sv rfl (Ae L4 rfl (.lp _ _ _ rfl) rfl) (sv rfl (Az Lh rfl) (sv rfl (Bq rfl rfl) (sv rfl (Ag rfl) (Bo 10 rfl (fun hc => ?_) (fun hc => ?_)))))))
   ·replace h := B2 hc h
    clear hc
    refine son rfl rfl rfl (sv rfl (Aa Qv rfl) (son rfl rfl rfl (sv rfl (Ae L4 rfl (.lp _ _ _ rfl) rfl) (son rfl rfl rfl (sv rfl (Az Lh rfl) (son rfl rfl rfl (sv rfl (Bq rfl rfl) (sv rfl (Au rfl rfl) (sv rfl (Ag rfl) (Bo 16 rfl (fun hc => ?_) (fun hc => ?_)))))))))))
    ·replace h := B2 hc h
     clear hc
     refine son rfl rfl rfl (sv rfl (Aa Qv rfl) (son rfl rfl rfl (sv rfl (Ae L4 rfl (.lp _ _ _ rfl) rfl) (son rfl rfl rfl ?_))))
     obtain ⟨u3, hu3, h⟩ := An h
     refine sv rfl (Fe (f := eU8) Lh (fun _ => rfl) rfl rfl rfl rfl hu3) ?_
     refine son rfl rfl rfl (sv rfl (Ae ti5 rfl (.cp _) rfl) (son rfl rfl rfl (sv rfl (Bq rfl rfl) (sv rfl (Au rfl rfl) (sv rfl (Ak rfl) (As ?_))))))
     exact ⟨(decide ((u3.toBitVec.toNat : Int) = (0 : Int))), _, h, ⟨rfl, rfl, trivial⟩, rfl⟩
    ·replace h := B1 hc h
     clear hc
     refine Av rfl rfl rfl rfl (Av rfl rfl rfl rfl (Av rfl rfl rfl rfl (Av rfl rfl rfl rfl (Av rfl rfl rfl rfl (sv rfl (Am rfl rfl) (sv rfl (Ak rfl) (As ?_)))))))
     exact ⟨false, _, h, ⟨rfl, rfl, trivial⟩, rfl⟩
   ·replace h := B1 hc h
    clear hc
    refine Av rfl rfl rfl rfl (Av rfl rfl rfl rfl (Av rfl rfl rfl rfl (Av rfl rfl rfl rfl (sv rfl (Am rfl rfl) (sv rfl (Ag rfl) (Av rfl rfl rfl rfl (Av rfl rfl rfl rfl (Av rfl rfl rfl rfl (Av rfl rfl rfl rfl (Av rfl rfl rfl rfl (sv rfl (Am rfl rfl) (sv rfl (Ak rfl) (As ?_)))))))))))))
    exact ⟨false, _, h, ⟨rfl, rfl, trivial⟩, rfl⟩
def D3 (a0 : B8) : Option Bool :=
 (Gk a0).bind fun v1 => if v1 then (if (decide ((a0.Lo.length : Int) ≤ 16)) then (if (decide ((a0.Hi.length : Int) ≤ 16)) then ((Kr a0).bind fun v2 => some (!v2)) else (some false)) else (some false)) else (some false)
set_option maxRecDepth 100000 in
theorem Qu {a0 : B8} {r : Bool} (h : D3 a0 = some r) : Bp Tryz.prog 124 [.agg (EL.el a0)] (· = .s (.one (.b r))) := by
 unfold D3 at h
 refine A1 Tryz.func124 rfl (nt := 22) rfl (Nbl rfl) ?_
 intro w0 S0
 refine Aq (Ab (Jd rfl rfl (sv rfl (Ak rfl) (As (Aq (Ab (sv rfl (Ao Ajk rfl (.lp _ _ _ rfl) (Nbl rfl)) ?_)))))))
 obtain ⟨v1, hv1, h⟩ := An h
 refine A2 rfl Asc (Ac rfl Al) (Aj rfl) (Qk hv1) (sv rfl (Ag rfl) (Bo 5 rfl (fun hc => ?_) (fun hc => ?_)))
 ·replace h := B2 hc h
  clear hc
  refine son rfl rfl rfl (sv rfl (Aa T2 rfl) (son rfl rfl rfl (sv rfl (Ae L4 rfl (.lp _ _ _ rfl) rfl) (son rfl rfl rfl (sv rfl (Az Lh rfl) (son rfl rfl rfl (sv rfl (Fv rfl rfl) (sv rfl (Au rfl rfl) (sv rfl (Ag rfl) (Bo 11 rfl (fun hc => ?_) (fun hc => ?_)))))))))))
  ·replace h := B2 hc h
   clear hc
   refine son rfl rfl rfl (sv rfl (Aa Qv rfl) (son rfl rfl rfl (sv rfl (Ae L4 rfl (.lp _ _ _ rfl) rfl) (son rfl rfl rfl (sv rfl (Az Lh rfl) (son rfl rfl rfl (sv rfl (Fv rfl rfl) (sv rfl (Au rfl rfl) (sv rfl (Ag rfl) (Bo 17 rfl (fun hc => ?_) (fun hc => ?_)))))))))))
   ·replace h := B2 hc h
    clear hc
    refine son rfl rfl rfl (sv rfl (Ao Ajk rfl (.lp _ _ _ rfl) (Nbl rfl)) (son rfl rfl rfl ?_))
    obtain ⟨v2, hv2, h⟩ := An h
    refine A2 rfl Ar1 (Ac rfl Al) (Aj rfl) (Ub hv2) (son rfl rfl rfl (sv rfl (B9 rfl) (sv rfl (Au rfl rfl) (sv rfl (Ak rfl) (As (Bj ?_))))))
    obtain rfl := Option.some.inj h
    refine ⟨Or.inr rfl, _, _, _, (Ad (Bd.tmp _ _ rfl) Af), (Aj rfl), ?_⟩
    rfl
   ·replace h := B1 hc h
    clear hc
    refine Av rfl rfl rfl rfl (Av rfl rfl rfl rfl (Av rfl rfl rfl rfl (sv rfl (Am rfl rfl) (sv rfl (Ak rfl) (As (Bj ?_))))))
    obtain rfl := Option.some.inj h
    refine ⟨Or.inr rfl, _, _, _, (Ad (Bd.tmp _ _ rfl) Af), (Aj rfl), ?_⟩
    rfl
  ·replace h := B1 hc h
   clear hc
   refine Av rfl rfl rfl rfl (Av rfl rfl rfl rfl (Av rfl rfl rfl rfl (Av rfl rfl rfl rfl (sv rfl (Am rfl rfl) (sv rfl (Ag rfl) (Av rfl rfl rfl rfl (Av rfl rfl rfl rfl (Av rfl rfl rfl rfl (sv rfl (Am rfl rfl) (sv rfl (Ak rfl) (As (Bj ?_))))))))))))
   obtain rfl := Option.some.inj h
   refine ⟨Or.inr rfl, _, _, _, (Ad (Bd.tmp _ _ rfl) Af), (Aj rfl), ?_⟩
   rfl
 ·replace h := B1 hc h
  clear hc
  refine Av rfl rfl rfl rfl (Av rfl rfl rfl rfl (Av rfl rfl rfl rfl (Av rfl rfl rfl rfl (sv rfl (Am rfl rfl) (sv rfl (Ag rfl) (Av rfl rfl rfl rfl (Av rfl rfl rfl rfl (Av rfl rfl rfl rfl (Av rfl rfl rfl rfl (sv rfl (Am rfl rfl) (sv rfl (Ag rfl) (Av rfl rfl rfl rfl (Av rfl rfl rfl rfl (Av rfl rfl rfl rfl (sv rfl (Am rfl rfl) (sv rfl (Ak rfl) (As (Bj ?_))))))))))))))))))
  obtain rfl := Option.some.inj h
  refine ⟨Or.inr rfl, _, _, _, (Ad (Bd.tmp _ _ rfl) Af), (Aj rfl), ?_⟩
  rfl
def Cy (a0 : B6) (b4 : Bool) : Option Bool :=
 if b4 then ((J9 a0.Key).bind fun v5 => some v5) else (if (decide (a0.What = 4)) then ((D3 a0.Rng).bind fun v6 => some v6) else (if (decide (a0.What = 7)) then (some (decide (a0.N ≤ 24))) else (some true)))
def Cw (a0 : B6) (b3 : Unit) : Option Bool :=
 if (decide (a0.What = 1)) then (Cy a0 (decide (a0.What = 1))) else (if (decide (a0.What = 2)) then (Cy a0 (decide (a0.What = 2))) else (Cy a0 (decide (a0.What = 3))))
def E9 (a0 : B6) (a1 : Bool) (b1 : Unit) : Option Bool :=
 (Gp a0.What).bind fun v2 => (Ig a0.Rng).bind fun v7 => if (!(((decide (0 < (a0.Key.length : Int))) == v2.R0) && ((v7 == v2.R1) && ((v2.R2 == v2.R2) && true)))) then (some false) else (if a1 then (if v2.R2 then (some false) else (Cw a0 ())) else (Cw a0 ()))
def Cj (a0 : B6) (a1 : Bool) : Option Bool :=
 (E8 (wI (a0.What - 1)) 7).bind fun v8 => if (!v8) then (some false) else ((E8 a0.A 7).bind fun v9 => if (!v9) then (some false) else ((E8 a0.B 7).bind fun v10 => if (!v10) then (some false) else ((E8 a0.N 4294967295).bind fun v11 => if (!v11) then (some false) else (E9 a0 a1 ()))))
set_option maxRecDepth 100000 in
theorem Tt {a0 : B6} {a1 : Bool} {r : Bool} (h : Cj a0 a1 = some r) : Bp Tryz.prog 107 [.agg (EL.el a0), .one (.b a1)] (· = .s (.one (.b r))) := by
 unfold Cj at h
 refine A1 Tryz.func107 rfl (nt := 71) rfl (Nbl rfl) ?_
 intro w0 S0
 refine Aq (Ab (Jd rfl rfl (sv rfl (Ak rfl) (As (Aq (Aq (Ki (Unit) (fun b1 => [(1, .s (.one (.b a1))), (2, .s (.one (.lp 0 0)))]) (fun b1 => [.box (EL.el a0)]) (fun b1 => E9 a0 a1 b1 = some r) (fun _ _ => Be rfl) (fun _ _ => A0 rfl) (fun _ _ => Nat.le_of_ble_eq_true rfl) (fun b1 h => ?_) ?_)))))))
 ·unfold E9 at h
  refine Aq (Ab (sv rfl (Aa Vu rfl) (sv rfl (Ae ti3 rfl (.lp _ _ _ rfl) rfl) ?_)))
  obtain ⟨v2, hv2, h⟩ := An h
  refine A2 rfl Ap6 (Ac rfl Al) (Aj rfl) (Oj hv2) (Bz rfl Aab (Ax Ago rfl rfl rfl rfl (Nbl rfl) (Bs [.box (EL.el a0), .box (EL.el v2)] rfl (As (Aq (Ab ?_))))))
  refine sv rfl (Oz (o := 2) Aa9 rfl rfl (by decide)) ?_
  refine sv rfl (Ae ti4 rfl (.lp _ _ _ rfl) rfl) (sv rfl (Ak rfl) (As (Aq (Aq (Ki (Unit) (fun b3 => [(2, .s (.one (.lp 0 0)))]) (fun b3 => [.box (EL.el a0), .box (EL.el v2)]) (fun b3 => Cw a0 b3 = some r) (fun _ _ => Be rfl) (fun _ _ => A0 rfl) (fun _ _ => Nat.le_of_ble_eq_true rfl) (fun b3 h => ?_) ?_)))))
  ·unfold Cw at h
   refine Aq (Aq (Ab (sv rfl (Aa Vu rfl) (sv rfl (Ae ti3 rfl (.lp _ _ _ rfl) rfl) (As (B7 (Aq (Aq (Ab (sv rfl (Bq rfl rfl) (sv rfl (Ak rfl) (As (G5 (Bool) (fun b4 => [(2, .s (.one (.lp 0 0))), (53, .s (.one (Ii6 a0.What))), (54, .s (.one (.b b4)))]) (fun b4 => [.box (EL.el a0), .box (EL.el v2)]) (fun b4 => Cy a0 b4 = some r) (fun _ _ => Be rfl) (fun _ _ => A0 rfl) (fun _ _ => Nat.le_of_ble_eq_true rfl) (fun b4 h => ?_) ?_)))))))))))))
   ·unfold Cy at h
    refine ccI h rfl (fun h => ?_) (fun h => ?_)
    ·refine Aq (Ab (sv rfl (Aa Aay rfl) (sv rfl (Ae L4 rfl (.lp _ _ _ rfl) rfl) ?_)))
     obtain ⟨v5, hv5, h⟩ := An h
     refine A2 rfl Asv (Ac rfl Al) (Aj rfl) (Vb hv5) (sv rfl (Ak rfl) (As (Bj (A9 (Ar ?_)))))
     obtain rfl := Option.some.inj h
     refine ⟨Or.inr rfl, _, _, _, (Ad (Bd.tmp _ _ rfl) Af), (Aj rfl), ?_⟩
     rfl
    ·refine Aq (Ab (sv rfl (Bq rfl rfl) (sv rfl (Ak rfl) (As (ccI h rfl (fun h => ?_) (fun h => ?_))))))
     ·refine Aq (Ab (sv rfl (Aa Agv rfl) (sv rfl (Ao Ajk rfl (.lp _ _ _ rfl) (Nbl rfl)) ?_)))
      obtain ⟨v6, hv6, h⟩ := An h
      refine A2 rfl Ash (Ac rfl Al) (Aj rfl) (Qu hv6) (sv rfl (Ak rfl) (As (Bj (A9 (Ar ?_)))))
      obtain rfl := Option.some.inj h
      refine ⟨Or.inr rfl, _, _, _, (Ad (Bd.tmp _ _ rfl) Af), (Aj rfl), ?_⟩
      rfl
     ·refine Aq (Ab (sv rfl (Bq rfl rfl) (sv rfl (Ak rfl) (As (ccI h rfl (fun h => ?_) (fun h => ?_))))))
      ·refine Aq (Ab (sv rfl (Aa Z2 rfl) (sv rfl (Ae ti3 rfl (.lp _ _ _ rfl) rfl) (sv rfl (Fv rfl rfl) (sv rfl (Ak rfl) (As (Bj (A9 (Ar ?_)))))))))
       obtain rfl := Option.some.inj h
       refine ⟨Or.inr rfl, _, _, _, (Ad (Bd.tmp _ _ rfl) Af), (Aj rfl), ?_⟩
       rfl
      ·refine Bl (A4 (Ai (Aq (Ab (sv rfl (Ak rfl) (As (Bj ?_)))))))
       obtain rfl := Option.some.inj h
       refine ⟨Or.inr rfl, _, _, _, (Ad (Bd.tmp _ _ rfl) Af), (Aj rfl), ?_⟩
       rfl
   ·skip
    refine ccI h rfl (fun h => ?_) (fun h => ?_)
    ·refine Bl (Ai ?_)
     exact ⟨(decide (a0.What = 1)), _, h, ⟨rfl, rfl, rfl, trivial⟩, rfl⟩
    ·refine Aq (Ab (sv rfl (Bq rfl rfl) (sv rfl (Ak rfl) (As (ccI h rfl (fun h => ?_) (fun h => ?_))))))
     ·refine Bl (Ai ?_)
      exact ⟨(decide (a0.What = 2)), _, h, ⟨rfl, rfl, rfl, trivial⟩, rfl⟩
     ·refine Ab (sv rfl (Bq rfl rfl) (sv rfl (Ak rfl) (As ?_)))
      exact ⟨(decide (a0.What = 3)), _, h, ⟨rfl, rfl, rfl, trivial⟩, rfl⟩
  ·skip
   refine Ae6 Ma (by kernel_rfl) ?_
   refine dv rfl (Aa Aay rfl) (dv rfl (Ae L4 rfl (.lp _ _ _ rfl) rfl) (dv rfl (Az Lh rfl) (dv rfl (C6 rfl rfl) (dv rfl (Aa Agv rfl) (dv rfl (Ao Ajk rfl (.lp _ _ _ rfl) (Nbl rfl)) ?_)))))
   obtain ⟨v7, hv7, h⟩ := An h
   refine dd rfl (D2 As2 (Ac rfl Al) rfl (Rp hv7)) (dv rfl (Ag rfl) (dv rfl (G6 Aab Aa9 (Ap rfl (Ap rfl (Ap rfl Ba))) (.cons _ _ _ _ _ _ _ rfl rfl (Nbl rfl) (.cons _ _ _ _ _ _ _ rfl rfl (Nbl rfl) (.cons _ _ _ _ _ _ _ rfl rfl (Nbl rfl) (.nil _))))) (dv rfl (Ao Ahm rfl (.lp _ _ _ rfl) (Nbl rfl)) (dv rfl (Adg Aoq rfl rfl rfl rfl rfl) (dv rfl (Ag rfl) (Akd 46 rfl (fun hc => ?_) (fun hc => ?_)))))))
   ·replace h := B2 hc h
    clear hc
    refine Aqw rfl rfl rfl rfl (Aqw rfl rfl rfl rfl (Aso rfl rfl rfl (Aqw rfl rfl rfl rfl (dv rfl (Au rfl rfl) (Afb (Ai (G0 rfl (fun _ => ?_) (fun hx => Bool.noConfusion hx))))))))
    refine Aq (Ab (sv rfl (Ak rfl) (As (Bj (Ar ?_)))))
    obtain rfl := Option.some.inj h
    refine ⟨Or.inr rfl, _, _, _, (Ad (Bd.tmp _ _ rfl) Af), (Aj rfl), ?_⟩
    rfl
   ·replace h := B1 hc h
    clear hc
    refine dvg rfl rfl rfl (Ag rfl) (dvg rfl rfl rfl (Ag rfl) (Akd 48 rfl (fun hc => ?_) (fun hc => ?_)))
    ·replace h := B2 hc h
     clear hc
     refine dvg rfl rfl rfl (Ag rfl) (dvg rfl rfl rfl (Au rfl rfl) (dv rfl (Am rfl rfl) (Afb (Ai (ccI h rfl (fun h => ?_) (fun h => ?_))))))
     ·refine Aq (Ab (sv rfl (Ak rfl) (As (Bj (Ar ?_)))))
      obtain rfl := Option.some.inj h
      refine ⟨Or.inr rfl, _, _, _, (Ad (Bd.tmp _ _ rfl) Af), (Aj rfl), ?_⟩
      rfl
     ·refine Bl (Ai ?_)
      exact ⟨(), _, h, ⟨rfl, trivial⟩, rfl⟩
    ·replace h := B1 hc h
     clear hc
     refine Aqw rfl rfl rfl rfl (dvg rfl rfl rfl (Am rfl rfl) (dv rfl (Am rfl rfl) (Afb (Ai (G0 rfl (fun hx => Bool.noConfusion hx) (fun _ => ?_))))))
     refine Bl (Ai ?_)
     exact ⟨(), _, h, ⟨rfl, trivial⟩, rfl⟩
 ·skip
  refine Ab (sv rfl (Aa Vu rfl) (sv rfl (Ae ti3 rfl (.lp _ _ _ rfl) rfl) (sv rfl (Mq rfl rfl) ?_)))
  obtain ⟨v8, hv8, h⟩ := An h
  refine A2 rfl Afh (Ac rfl (Ac rfl Al)) (Aj rfl) (Ie hv8) (sv rfl (B9 rfl) (sv rfl (Ag rfl) (Bo 12 rfl (fun hc => ?_) (fun hc => ?_))))
  ·replace h := B2 hc h
   clear hc
   refine Av rfl rfl rfl rfl (Av rfl rfl rfl rfl (Av rfl rfl rfl rfl (Av rfl rfl rfl rfl (sv rfl (Au rfl rfl) (sv rfl (Ag rfl) (Av rfl rfl rfl rfl (Av rfl rfl rfl rfl (Av rfl rfl rfl rfl (Av rfl rfl rfl rfl (sv rfl (Au rfl rfl) (sv rfl (Ag rfl) (Av rfl rfl rfl rfl (Av rfl rfl rfl rfl (Av rfl rfl rfl rfl (Av rfl rfl rfl rfl (sv rfl (Au rfl rfl) (As (G0 rfl (fun _ => ?_) (fun hx => Bool.noConfusion hx)))))))))))))))))))
   refine Aq (Ab (sv rfl (Ak rfl) (As (Bj (Ar ?_)))))
   obtain rfl := Option.some.inj h
   refine ⟨Or.inr rfl, _, _, _, (Ad (Bd.tmp _ _ rfl) Af), (Aj rfl), ?_⟩
   rfl
  ·replace h := B1 hc h
   clear hc
   refine son rfl rfl rfl (sv rfl (Aa Uq rfl) (son rfl rfl rfl (sv rfl (Ae ti3 rfl (.lp _ _ _ rfl) rfl) (son rfl rfl rfl ?_))))
   obtain ⟨v9, hv9, h⟩ := An h
   refine A2 rfl Afh (Ac rfl (Ac rfl Al)) (Aj rfl) (Ie hv9) (son rfl rfl rfl (sv rfl (B9 rfl) (sv rfl (Am rfl rfl) (sv rfl (Ag rfl) (Bo 18 rfl (fun hc => ?_) (fun hc => ?_))))))
   ·replace h := B2 hc h
    clear hc
    refine Av rfl rfl rfl rfl (Av rfl rfl rfl rfl (Av rfl rfl rfl rfl (Av rfl rfl rfl rfl (sv rfl (Au rfl rfl) (sv rfl (Ag rfl) (Av rfl rfl rfl rfl (Av rfl rfl rfl rfl (Av rfl rfl rfl rfl (Av rfl rfl rfl rfl (sv rfl (Au rfl rfl) (As (G0 rfl (fun _ => ?_) (fun hx => Bool.noConfusion hx)))))))))))))
    refine Aq (Ab (sv rfl (Ak rfl) (As (Bj (Ar ?_)))))
    obtain rfl := Option.some.inj h
    refine ⟨Or.inr rfl, _, _, _, (Ad (Bd.tmp _ _ rfl) Af), (Aj rfl), ?_⟩
    rfl
   ·replace h := B1 hc h
    clear hc
    refine son rfl rfl rfl (sv rfl (Aa Xt rfl) (son rfl rfl rfl (sv rfl (Ae ti3 rfl (.lp _ _ _ rfl) rfl) (son rfl rfl rfl ?_))))
    obtain ⟨v10, hv10, h⟩ := An h
    refine A2 rfl Afh (Ac rfl (Ac rfl Al)) (Aj rfl) (Ie hv10) (son rfl rfl rfl (sv rfl (B9 rfl) (sv rfl (Am rfl rfl) (sv rfl (Ag rfl) (Bo 24 rfl (fun hc => ?_) (fun hc => ?_))))))
    ·replace h := B2 hc h
     clear hc
     refine Av rfl rfl rfl rfl (Av rfl rfl rfl rfl (Av rfl rfl rfl rfl (Av rfl rfl rfl rfl (sv rfl (Au rfl rfl) (As (G0 rfl (fun _ => ?_) (fun hx => Bool.noConfusion hx)))))))
     refine Aq (Ab (sv rfl (Ak rfl) (As (Bj (Ar ?_)))))
     obtain rfl := Option.some.inj h
     refine ⟨Or.inr rfl, _, _, _, (Ad (Bd.tmp _ _ rfl) Af), (Aj rfl), ?_⟩
     rfl
    ·replace h := B1 hc h
     clear hc
     refine son rfl rfl rfl (sv rfl (Aa Z2 rfl) (son rfl rfl rfl (sv rfl (Ae ti3 rfl (.lp _ _ _ rfl) rfl) (son rfl rfl rfl ?_))))
     obtain ⟨v11, hv11, h⟩ := An h
     refine A2 rfl Afh (Ac rfl (Ac rfl Al)) (Aj rfl) (Ie hv11) (son rfl rfl rfl (sv rfl (B9 rfl) (sv rfl (Am rfl rfl) (As (ccI h rfl (fun h => ?_) (fun h => ?_))))))
     ·refine Aq (Ab (sv rfl (Ak rfl) (As (Bj (Ar ?_)))))
      obtain rfl := Option.some.inj h
      refine ⟨Or.inr rfl, _, _, _, (Ad (Bd.tmp _ _ rfl) Af), (Aj rfl), ?_⟩
      rfl
     ·refine Bl (Ai ?_)
      exact ⟨(), _, h, ⟨rfl, rfl, trivial⟩, rfl⟩
def No (a0 : Co) (b1 : Unit) : Option Bool :=
 some (decide ((a0.Ops.length : Int) ≤ 24))
def E7 (a0 : Co) (s2 : Int) : Option (LR (Int) (Unit) (Bool)) :=
 if (decide (s2 < (a0.Ops.length : Int))) then ((idx a0.Ops s2).bind fun u3 => (Cj u3 a0.RO).bind fun v4 => if (!v4) then (some (.ret false)) else (some (.cont (wI (s2 + 1))))) else (some (.brk ()))
def D0 (a0 : Co) : Option Bool :=
 (Qg (E7 a0) Di 0).bind fun x => match x with | .inl r => some r | .inr e5 => No a0 e5
set_option maxRecDepth 100000 in
theorem N8 {a0 : Co} {r : Bool} (h : D0 a0 = some r) : Bp Tryz.prog 82 [.agg (EL.el a0)] (· = .s (.one (.b r))) := by
 unfold D0 at h
 refine A1 Tryz.func82 rfl (nt := 22) rfl (Nbl rfl) ?_
 intro w0 S0
 refine Aq (Ab (Jd rfl rfl (sv rfl (Ak rfl) (As (Aq (Aq (Ab (sv rfl (Aa R9 rfl) (sv rfl (Ae Aix rfl (.lp _ _ _ rfl) rfl) (sv rfl (Az Ajo rfl) (sv rfl (Ag rfl) (As (G5 (Unit) (fun b1 => [(1, .s (.one (.lp 0 0)))]) (fun b1 => [.box (EL.el a0)]) (fun b1 => No a0 b1 = some r) (fun _ _ => Be rfl) (fun _ _ => A0 rfl) (fun _ _ => Nat.le_of_ble_eq_true rfl) (fun b1 h => ?_) ?_)))))))))))))
 ·unfold No at h
  refine Aq (Ab (sv rfl (Aa R9 rfl) (sv rfl (Ae Aix rfl (.lp _ _ _ rfl) rfl) (sv rfl (Az Ajo rfl) (sv rfl (Fv rfl rfl) (sv rfl (Ak rfl) (As (Bj ?_))))))))
  obtain rfl := Option.some.inj h
  refine ⟨Or.inr rfl, _, _, _, (Ad (Bd.tmp _ _ rfl) Af), (Aj rfl), ?_⟩
  rfl
 ·skip
  refine B7 ?_
  obtain ⟨x2, hx2, ho2⟩ := An h
  refine Da (G := Nat × (Int)) (fun g => [(1, .s (.one (.lp 0 0))), (6, .s (.one (.sl a0.Ops.length (a0.Ops.flatMap Cf)))), (7, .s (.one (Ii6 (a0.Ops.length : Int)))), (8, .s (.one (Ii6 g.2)))]) (fun g => [.box (EL.el a0)]) (fun g => Qg (E7 a0) g.1 g.2 = some x2) (fun g => g.1) (Di, 0) hx2 ⟨rfl, rfl, rfl, rfl, trivial⟩ [] rfl (fun _ _ => Be rfl) (fun _ _ => A0 rfl) (fun _ _ => Nat.le_of_ble_eq_true rfl) ?_
  clear hx2 h
  rintro ⟨n2, s2⟩ h
  obtain ⟨n2, y2, rfl, h, hk2⟩ := Oc h
  unfold E7 at h
  refine Aq (Ab (sv rfl (Cp rfl rfl) (As (Aq (ccI h rfl (fun h => ?_) (fun h => ?_))))))
  ·refine Bl (Ai (Aq (B7 (Aq (Ab ?_)))))
   obtain ⟨u3, hu3, h⟩ := An h
   refine sv rfl (Fe (f := Cf) Ajo (fun _ => rfl) rfl rfl rfl rfl hu3) ?_
   refine sv rfl (Dd (ys := [Ii6 u3.What, Ii6 u3.A, Ii6 u3.B, Ii6 u3.N, .sl u3.Key.length (u3.Key.flatMap eU8), .sl u3.Rng.Lo.length (u3.Rng.Lo.flatMap eU8), .sl u3.Rng.Hi.length (u3.Rng.Hi.flatMap eU8), .b u3.Rng.Open]) Ako rfl (.cp _) rfl rfl) (Bz rfl Ap9 (Ax Asb rfl rfl rfl rfl (Nbl rfl) (Bs [.box (EL.el a0), .box (EL.el u3)] rfl (As (Aq (Ab (sv rfl (Ao Ako rfl (.lp _ _ _ rfl) (Nbl rfl)) (sv rfl (Aa Akw rfl) (sv rfl (Ae ti4 rfl (.lp _ _ _ rfl) rfl) ?_)))))))))
   obtain ⟨v4, hv4, h⟩ := An h
   refine A2 rfl Atd (Ac rfl (Ac rfl Al)) (Aj rfl) (Tt hv4) (sv rfl (B9 rfl) (As (ccI h rfl (fun h => ?_) (fun h => ?_))))
   ·refine Aq (Ab (sv rfl (Ak rfl) (As (Bj (A9 (Ar (Ar (A9 (Ar ?_)))))))))
    obtain rfl := Option.some.inj h
    obtain rfl : Sum.inl _ = x2 := hk2
    replace ho2 : some _ = some _ := ho2
    obtain rfl := Option.some.inj ho2
    refine ⟨Or.inr rfl, _, _, _, (Ad (Bd.tmp _ _ rfl) Af), (Aj rfl), ?_⟩
    rfl
   ·refine Bl (A4 (Ai (Ab (sv rfl (B0 rfl rfl) (sv rfl (Ag rfl) (As ?_))))))
    obtain rfl := Option.some.inj h
    exact ⟨(n2, (wI (s2 + 1))), _, hk2, ⟨rfl, rfl, rfl, rfl, trivial⟩, rfl, Nat.lt_succ_self _⟩
  ·refine Lj (Bi (Bi (Ck (Ai ?_))))
   obtain rfl := Option.some.inj h
   obtain rfl : _ = x2 := hk2
   exact ⟨(), _, ho2, ⟨rfl, trivial⟩, rfl⟩
def Dh (a0 : Aw) : Option Bool :=
 (Bx a0.Token 0 1099511627776).bind fun v1 => if v1 then ((D0 a0.Prog).bind fun v2 => some v2) else (some false)
set_option maxRecDepth 100000 in
theorem Nf {a0 : Aw} {r : Bool} (h : Dh a0 = some r) : Bp Tryz.prog 53 [.agg (EL.el a0)] (· = .s (.one (.b r))) := by
 unfold Dh at h
 refine A1 Tryz.func53 rfl (nt := 11) rfl (Nbl rfl) ?_
 intro w0 S0
 refine Aq (Ab (Jd rfl rfl (sv rfl (Ak rfl) (As (Aq (Ab (sv rfl (Aa Sj rfl) (sv rfl (Ae ti3 rfl (.lp _ _ _ rfl) rfl) ?_))))))))
 obtain ⟨v1, hv1, h⟩ := An h
 refine A2 rfl Aer (Ac rfl (Ac rfl (Ac rfl Al))) (Aj rfl) (Ci hv1) (sv rfl (Ag rfl) (Bo 6 rfl (fun hc => ?_) (fun hc => ?_)))
 ·replace h := B2 hc h
  clear hc
  refine son rfl rfl rfl (sv rfl (Aa Acl rfl) (son rfl rfl rfl (sv rfl (Ao Amw rfl (.lp _ _ _ rfl) (Nbl rfl)) (son rfl rfl rfl ?_))))
  obtain ⟨v2, hv2, h⟩ := An h
  refine A2 rfl Aru (Ac rfl Al) (Aj rfl) (N8 hv2) (sv rfl (Au rfl rfl) (sv rfl (Ak rfl) (As (Bj ?_))))
  obtain rfl := Option.some.inj h
  refine ⟨Or.inr rfl, _, _, _, (Ad (Bd.tmp _ _ rfl) Af), (Aj rfl), ?_⟩
  rfl
 ·replace h := B1 hc h
  clear hc
  refine Av rfl rfl rfl rfl (Av rfl rfl rfl rfl (Av rfl rfl rfl rfl (sv rfl (Am rfl rfl) (sv rfl (Ak rfl) (As (Bj ?_))))))
  obtain rfl := Option.some.inj h
  refine ⟨Or.inr rfl, _, _, _, (Ad (Bd.tmp _ _ rfl) Af), (Aj rfl), ?_⟩
  rfl
def Lk (b1 : Unit) : Option Int :=
 some (-1)
def Hd (a0 : List Aw) (a1 : Int) (s2 : Int) : Option (LR (Int) (Unit) (Int)) :=
 if (decide (s2 < (a0.length : Int))) then ((idx a0 s2).bind fun u3 => if (decide (u3.Token = a1)) then (some (.ret s2)) else (some (.cont (wI (s2 + 1))))) else (some (.brk ()))
def Ff (a0 : List Aw) (a1 : Int) : Option Int :=
 (Qg (Hd a0 a1) Di 0).bind fun x => match x with | .inl r => some r | .inr e4 => Lk e4
set_option maxRecDepth 100000 in
theorem Ok {a0 : List Aw} {a1 : Int} {r : Int} (h : Ff a0 a1 = some r) : Bp Tryz.prog 54 [.one (.sl a0.length (a0.flatMap Ay)), .one (Ii6 a1)] (· = .s (.one (Ii6 r))) := by
 unfold Ff at h
 refine A1 Tryz.func54 rfl (nt := 20) rfl (Nbl rfl) ?_
 intro w0 S0
 refine Aq (Ab (sv rfl (Ak rfl) (As (Aq (Aq (Ab (sv rfl (Ag rfl) (sv rfl (Az T6 rfl) (sv rfl (Ag rfl) (As (G5 (Unit) (fun b1 => []) (fun b1 => []) (fun b1 => Lk b1 = some r) (fun _ _ => Be rfl) (fun _ _ => A0 rfl) (fun _ _ => Nat.le_of_ble_eq_true rfl) (fun b1 h => ?_) ?_)))))))))))
 ·unfold Lk at h
  refine Aq (Ab (sv rfl (Ak rfl) (As (Bj ?_))))
  obtain rfl := Option.some.inj h
  refine ⟨Or.inr rfl, _, _, _, (Ad (Bd.tmp _ _ rfl) Af), (Aj rfl), ?_⟩
  rfl
 ·skip
  refine B7 ?_
  obtain ⟨x2, hx2, ho2⟩ := An h
  refine Da (G := Nat × (Int)) (fun g => [(1, .s (.one (Ii6 a1))), (7, .s (.one (.sl a0.length (a0.flatMap Ay)))), (8, .s (.one (Ii6 (a0.length : Int)))), (9, .s (.one (Ii6 g.2)))]) (fun g => []) (fun g => Qg (Hd a0 a1) g.1 g.2 = some x2) (fun g => g.1) (Di, 0) hx2 ⟨rfl, rfl, rfl, rfl, trivial⟩ [] rfl (fun _ _ => Be rfl) (fun _ _ => A0 rfl) (fun _ _ => Nat.le_of_ble_eq_true rfl) ?_
  clear hx2 h
  rintro ⟨n2, s2⟩ h
  obtain ⟨n2, y2, rfl, h, hk2⟩ := Oc h
  unfold Hd at h
  refine Aq (Ab (sv rfl (Cp rfl rfl) (As (Aq (ccI h rfl (fun h => ?_) (fun h => ?_))))))
  ·refine Bl (Ai (Aq (B7 (Aq (Ab (sv rfl (Ag rfl) ?_))))))
   obtain ⟨u3, hu3, h⟩ := An h
   refine sv rfl (Fe (f := Ay) T6 (fun _ => rfl) rfl rfl rfl rfl hu3) ?_
   refine sv rfl (Dd (ys := [Ii6 u3.Token, .b u3.Prog.RO, .sl u3.Prog.Ops.length (u3.Prog.Ops.flatMap Cf)]) Ama rfl (.cp _) rfl rfl) (Bz rfl Anv (sv rfl (Ak rfl) (Ax Aqq rfl rfl rfl rfl (Nbl rfl) (Bs [.box (EL.el u3)] rfl (As (Aq (Ab (sv rfl (Aa Sj rfl) (sv rfl (Ae ti3 rfl (.lp _ _ _ rfl) rfl) (sv rfl (Ag rfl) (sv rfl (Bq rfl rfl) (As (ccI h rfl (fun h => ?_) (fun h => ?_))))))))))))))
   ·refine Aq (Ab (sv rfl (Ag rfl) (sv rfl (Ak rfl) (As (Bj (A9 (Ar (Ar (A9 (Ar ?_))))))))))
    obtain rfl := Option.some.inj h
    obtain rfl : Sum.inl _ = x2 := hk2
    replace ho2 : some _ = some _ := ho2
    obtain rfl := Option.some.inj ho2
    refine ⟨Or.inr rfl, _, _, _, (Ad (Bd.tmp _ _ rfl) Af), (Aj rfl), ?_⟩
    rfl
   ·refine Bl (A4 (Ai (Ab (sv rfl (B0 rfl rfl) (sv rfl (Ag rfl) (As ?_))))))
    obtain rfl := Option.some.inj h
    exact ⟨(n2, (wI (s2 + 1))), _, hk2, ⟨rfl, rfl, rfl, rfl, trivial⟩, rfl, Nat.lt_succ_self _⟩
  ·refine Lj (Bi (Bi (Ck (Ai ?_))))
   obtain rfl := Option.some.inj h
   obtain rfl : _ = x2 := hk2
   exact ⟨(), _, ho2, trivial, rfl⟩
def Ji (a0 : List Aw) (b1 : Unit) : Option Bool :=
 some (decide ((a0.length : Int) ≤ 8))
def Fq (a0 : List Aw) (s2 : Int) : Option (LR (Int) (Unit) (Bool)) :=
 if (decide (s2 < (a0.length : Int))) then ((idx a0 s2).bind fun u3 => (Dh u3).bind fun v4 => if (!v4) then (some (.ret false)) else ((Ff a0 u3.Token).bind fun v5 => if (!decide (v5 = s2)) then (some (.ret false)) else (some (.cont (wI (s2 + 1)))))) else (some (.brk ()))
def Hg (a0 : List Aw) : Option Bool :=
 (Qg (Fq a0) Di 0).bind fun x => match x with | .inl r => some r | .inr e6 => Ji a0 e6
set_option maxRecDepth 100000 in
theorem P6 {a0 : List Aw} {r : Bool} (h : Hg a0 = some r) : Bp Tryz.prog 30 [.one (.sl a0.length (a0.flatMap Ay))] (· = .s (.one (.b r))) := by
 unfold Hg at h
 refine A1 Tryz.func30 rfl (nt := 27) rfl (Nbl rfl) ?_
 intro w0 S0
 refine Aq (Ab (sv rfl (Ak rfl) (As (Aq (Aq (Ab (sv rfl (Ag rfl) (sv rfl (Az T6 rfl) (sv rfl (Ag rfl) (As (G5 (Unit) (fun b1 => [(0, .s (.one (.sl a0.length (a0.flatMap Ay))))]) (fun b1 => []) (fun b1 => Ji a0 b1 = some r) (fun _ _ => Be rfl) (fun _ _ => A0 rfl) (fun _ _ => Nat.le_of_ble_eq_true rfl) (fun b1 h => ?_) ?_)))))))))))
 ·unfold Ji at h
  refine Aq (Ab (sv rfl (Ag rfl) (sv rfl (Az T6 rfl) (sv rfl (Fv rfl rfl) (sv rfl (Ak rfl) (As (Bj ?_)))))))
  obtain rfl := Option.some.inj h
  refine ⟨Or.inr rfl, _, _, _, (Ad (Bd.tmp _ _ rfl) Af), (Aj rfl), ?_⟩
  rfl
 ·skip
  refine B7 ?_
  obtain ⟨x2, hx2, ho2⟩ := An h
  refine Da (G := Nat × (Int)) (fun g => [(0, .s (.one (.sl a0.length (a0.flatMap Ay)))), (5, .s (.one (.sl a0.length (a0.flatMap Ay)))), (6, .s (.one (Ii6 (a0.length : Int)))), (7, .s (.one (Ii6 g.2)))]) (fun g => []) (fun g => Qg (Fq a0) g.1 g.2 = some x2) (fun g => g.1) (Di, 0) hx2 ⟨rfl, rfl, rfl, rfl, trivial⟩ [] rfl (fun _ _ => Be rfl) (fun _ _ => A0 rfl) (fun _ _ => Nat.le_of_ble_eq_true rfl) ?_
  clear hx2 h
  rintro ⟨n2, s2⟩ h
  obtain ⟨n2, y2, rfl, h, hk2⟩ := Oc h
  unfold Fq at h
  refine Aq (Ab (sv rfl (Cp rfl rfl) (As (Aq (ccI h rfl (fun h => ?_) (fun h => ?_))))))
  ·refine Bl (Ai (Aq (B7 (Aq (Ab (sv rfl (Ag rfl) ?_))))))
   obtain ⟨u3, hu3, h⟩ := An h
   refine sv rfl (Fe (f := Ay) T6 (fun _ => rfl) rfl rfl rfl rfl hu3) ?_
   refine sv rfl (Dd (ys := [Ii6 u3.Token, .b u3.Prog.RO, .sl u3.Prog.Ops.length (u3.Prog.Ops.flatMap Cf)]) Ama rfl (.cp _) rfl rfl) (Bz rfl Anv (sv rfl (Ak rfl) (Ax Aqq rfl rfl rfl rfl (Nbl rfl) (Bs [.box (EL.el u3)] rfl (As (Aq (Ab (sv rfl (Ao Ama rfl (.lp _ _ _ rfl) (Nbl rfl)) ?_))))))))
   obtain ⟨v4, hv4, h⟩ := An h
   refine A2 rfl Atp (Ac rfl Al) (Aj rfl) (Nf hv4) (sv rfl (B9 rfl) (sv rfl (Ag rfl) (Bo 15 rfl (fun hc => ?_) (fun hc => ?_))))
   ·replace h := B2 hc h
    clear hc
    refine Av rfl rfl rfl rfl (Av rfl rfl rfl rfl (Av rfl rfl rfl rfl (Av rfl rfl rfl rfl (Av rfl rfl rfl rfl (Av rfl rfl rfl rfl (sv rfl (Au rfl rfl) (As (G0 rfl (fun _ => ?_) (fun hx => Bool.noConfusion hx)))))))))
    refine Aq (Ab (sv rfl (Ak rfl) (As (Bj (A9 (Ar (Ar (A9 (Ar ?_)))))))))
    obtain rfl := Option.some.inj h
    obtain rfl : Sum.inl _ = x2 := hk2
    replace ho2 : some _ = some _ := ho2
    obtain rfl := Option.some.inj ho2
    refine ⟨Or.inr rfl, _, _, _, (Ad (Bd.tmp _ _ rfl) Af), (Aj rfl), ?_⟩
    rfl
   ·replace h := B1 hc h
    clear hc
    refine son rfl rfl rfl (sv rfl (Ag rfl) (son rfl rfl rfl (sv rfl (Aa Sj rfl) (son rfl rfl rfl (sv rfl (Ae ti3 rfl (.lp _ _ _ rfl) rfl) (son rfl rfl rfl ?_))))))
    obtain ⟨v5, hv5, h⟩ := An h
    refine A2 rfl At0 (Ac rfl (Ac rfl Al)) (Aj rfl) (Ok hv5) (son rfl rfl rfl (sv rfl (Ag rfl) (son rfl rfl rfl (sv rfl (Cd rfl rfl) (sv rfl (Am rfl rfl) (As (ccI h rfl (fun h => ?_) (fun h => ?_))))))))
    ·refine Aq (Ab (sv rfl (Ak rfl) (As (Bj (A9 (Ar (Ar (A9 (Ar ?_)))))))))
     obtain rfl := Option.some.inj h
     obtain rfl : Sum.inl _ = x2 := hk2
     replace ho2 : some _ = some _ := ho2
     obtain rfl := Option.some.inj ho2
     refine ⟨Or.inr rfl, _, _, _, (Ad (Bd.tmp _ _ rfl) Af), (Aj rfl), ?_⟩
     rfl
    ·refine Bl (A4 (Ai (Ab (sv rfl (B0 rfl rfl) (sv rfl (Ag rfl) (As ?_))))))
     obtain rfl := Option.some.inj h
     exact ⟨(n2, (wI (s2 + 1))), _, hk2, ⟨rfl, rfl, rfl, rfl, trivial⟩, rfl, Nat.lt_succ_self _⟩
  ·refine Lj (Bi (Bi (Ck (Ai ?_))))
   obtain rfl := Option.some.inj h
   obtain rfl : _ = x2 := hk2
   exact ⟨(), _, ho2, ⟨rfl, trivial⟩, rfl⟩
def Hv (a0 : Ah) : Option Bool :=
 (Bx a0.Phase 3 10).bind fun v1 => if v1 then (if (decide (0 < (a0.Tasks.length : Int))) then (some (decide (0 < a0.Attempt))) else (some false)) else (if (decide ((a0.Tasks.length : Int) = 0)) then (some true) else (if (!decide (a0.Phase = 0)) then (some (!decide (a0.Phase = 11))) else (some false)))
set_option maxRecDepth 100000 in
theorem Q5 {a0 : Ah} {r : Bool} (h : Hv a0 = some r) : Bp Tryz.prog 31 [.agg (EL.el a0)] (· = .s (.one (.b r))) := by
 unfold Hv at h
 refine A1 Tryz.func31 rfl (nt := 29) rfl (Nbl rfl) ?_
 intro w0 S0
 refine Aq (Ab (Jd rfl rfl (sv rfl (Ak rfl) (As (Aq (Aq (Ab (sv rfl (Aa G4 rfl) (sv rfl (Ae ti3 rfl (.lp _ _ _ rfl) rfl) ?_)))))))))
 obtain ⟨v1, hv1, h⟩ := An h
 refine A2 rfl Aer (Ac rfl (Ac rfl (Ac rfl Al))) (Aj rfl) (Ci hv1) (As (ccI h rfl (fun h => ?_) (fun h => ?_)))
 ·refine Aq (Ab (sv rfl (Aa Lw rfl) (sv rfl (Ae Xy rfl (.lp _ _ _ rfl) rfl) (sv rfl (Az T6 rfl) (sv rfl (C6 rfl rfl) (sv rfl (Ag rfl) (Bo 10 rfl (fun hc => ?_) (fun hc => ?_))))))))
  ·replace h := B2 hc h
   clear hc
   refine son rfl rfl rfl (sv rfl (Aa Oe rfl) (son rfl rfl rfl (sv rfl (Ae ti3 rfl (.lp _ _ _ rfl) rfl) (son rfl rfl rfl (sv rfl (C6 rfl rfl) (sv rfl (Au rfl rfl) (sv rfl (Ak rfl) (As (Bj (Ar ?_))))))))))
   obtain rfl := Option.some.inj h
   refine ⟨Or.inr rfl, _, _, _, (Ad (Bd.tmp _ _ rfl) Af), (Aj rfl), ?_⟩
   rfl
  ·replace h := B1 hc h
   clear hc
   refine Av rfl rfl rfl rfl (Av rfl rfl rfl rfl (Av rfl rfl rfl rfl (sv rfl (Am rfl rfl) (sv rfl (Ak rfl) (As (Bj (Ar ?_)))))))
   obtain rfl := Option.some.inj h
   refine ⟨Or.inr rfl, _, _, _, (Ad (Bd.tmp _ _ rfl) Af), (Aj rfl), ?_⟩
   rfl
 ·refine Bl (Ai (Aq (Ab (sv rfl (Aa Lw rfl) (sv rfl (Ae Xy rfl (.lp _ _ _ rfl) rfl) (sv rfl (Az T6 rfl) (sv rfl (Bq rfl rfl) (sv rfl (Ag rfl) (Bo 19 rfl (fun hc => ?_) (fun hc => ?_))))))))))
  ·replace h := B2 hc h
   clear hc
   refine Av rfl rfl rfl rfl (Av rfl rfl rfl rfl (Av rfl rfl rfl rfl (Av rfl rfl rfl rfl (Fz rfl rfl rfl (Fz rfl rfl rfl (Fz rfl rfl rfl (Av rfl rfl rfl rfl (sv rfl (Au rfl rfl) (sv rfl (Ak rfl) (As (Bj ?_)))))))))))
   obtain rfl := Option.some.inj h
   refine ⟨Or.inr rfl, _, _, _, (Ad (Bd.tmp _ _ rfl) Af), (Aj rfl), ?_⟩
   rfl
  ·replace h := B1 hc h
   clear hc
   refine son rfl rfl rfl (sv rfl (Aa G4 rfl) (son rfl rfl rfl (sv rfl (Ae ti3 rfl (.lp _ _ _ rfl) rfl) (son rfl rfl rfl (sv rfl (Cd rfl rfl) (son rfl rfl rfl (sv rfl (Ag rfl) (Bo 23 rfl (fun hc => ?_) (fun hc => ?_)))))))))
   ·replace h := B2 hc h
    clear hc
    refine son rfl rfl rfl (sv rfl (Aa G4 rfl) (son rfl rfl rfl (sv rfl (Ae ti3 rfl (.lp _ _ _ rfl) rfl) (son rfl rfl rfl (sv rfl (Cd rfl rfl) (son rfl rfl rfl (sv rfl (Au rfl rfl) (sv rfl (Am rfl rfl) (sv rfl (Ak rfl) (As (Bj ?_)))))))))))
    obtain rfl := Option.some.inj h
    refine ⟨Or.inr rfl, _, _, _, (Ad (Bd.tmp _ _ rfl) Af), (Aj rfl), ?_⟩
    rfl
   ·replace h := B1 hc h
    clear hc
    refine Av rfl rfl rfl rfl (Av rfl rfl rfl rfl (Av rfl rfl rfl rfl (son rfl rfl rfl (sv rfl (Am rfl rfl) (sv rfl (Am rfl rfl) (sv rfl (Ak rfl) (As (Bj ?_))))))))
    obtain rfl := Option.some.inj h
    refine ⟨Or.inr rfl, _, _, _, (Ad (Bd.tmp _ _ rfl) Af), (Aj rfl), ?_⟩
    rfl
def Cn (a0 : Int) : Option Bool :=
 (Bx a0 2 7).bind fun v1 => if v1 then (some true) else (some (decide (a0 = 9)))
set_option maxRecDepth 100000 in
theorem Dy {a0 : Int} {r : Bool} (h : Cn a0 = some r) : Bp Tryz.prog 32 [.one (Ii6 a0)] (· = .s (.one (.b r))) := by
 unfold Cn at h
 refine A1 Tryz.func32 rfl (nt := 9) rfl (Nbl rfl) ?_
 intro w0 S0
 refine Aq (Ab (sv rfl (Ak rfl) (As (Aq (Ab (sv rfl (Ag rfl) ?_))))))
 obtain ⟨v1, hv1, h⟩ := An h
 refine A2 rfl Aer (Ac rfl (Ac rfl (Ac rfl Al))) (Aj rfl) (Ci hv1) (sv rfl (Ag rfl) (Bo 5 rfl (fun hc => ?_) (fun hc => ?_)))
 ·replace h := B2 hc h
  clear hc
  refine Av rfl rfl rfl rfl (Av rfl rfl rfl rfl (sv rfl (Au rfl rfl) (sv rfl (Ak rfl) (As (Bj ?_)))))
  obtain rfl := Option.some.inj h
  refine ⟨Or.inr rfl, _, _, _, (Ad (Bd.tmp _ _ rfl) Af), (Aj rfl), ?_⟩
  rfl
 ·replace h := B1 hc h
  clear hc
  refine son rfl rfl rfl (sv rfl (Ag rfl) (son rfl rfl rfl (sv rfl (Bq rfl rfl) (sv rfl (Am rfl rfl) (sv rfl (Ak rfl) (As (Bj ?_)))))))
  obtain rfl := Option.some.inj h
  refine ⟨Or.inr rfl, _, _, _, (Ad (Bd.tmp _ _ rfl) Af), (Aj rfl), ?_⟩
  rfl
def Hr (a0 : Int) : Option Bool :=
 if (decide (a0 = 4)) then (some true) else (some (decide (a0 = 5)))
set_option maxRecDepth 100000 in
theorem Of {a0 : Int} {r : Bool} (h : Hr a0 = some r) : Bp Tryz.prog 65 [.one (Ii6 a0)] (· = .s (.one (.b r))) := by
 unfold Hr at h
 refine A1 Tryz.func65 rfl (nt := 9) rfl (Nbl rfl) ?_
 intro w0 S0
 refine Aq (Ab (sv rfl (Ak rfl) (As (Aq (Ab (sv rfl (Ag rfl) (sv rfl (Bq rfl rfl) (sv rfl (Ag rfl) (Bo 5 rfl (fun hc => ?_) (fun hc => ?_))))))))))
 ·replace h := B2 hc h
  clear hc
  refine Av rfl rfl rfl rfl (Av rfl rfl rfl rfl (sv rfl (Au rfl rfl) (sv rfl (Ak rfl) (As (Bj ?_)))))
  obtain rfl := Option.some.inj h
  refine ⟨Or.inr rfl, _, _, _, (Ad (Bd.tmp _ _ rfl) Af), (Aj rfl), ?_⟩
  rfl
 ·replace h := B1 hc h
  clear hc
  refine son rfl rfl rfl (sv rfl (Ag rfl) (son rfl rfl rfl (sv rfl (Bq rfl rfl) (sv rfl (Am rfl rfl) (sv rfl (Ak rfl) (As (Bj ?_)))))))
  obtain rfl := Option.some.inj h
  refine ⟨Or.inr rfl, _, _, _, (Ad (Bd.tmp _ _ rfl) Af), (Aj rfl), ?_⟩
  rfl
def Jf (a0 : List UInt8) : Option (Int × Int × (List UInt8)) :=
 some (0, 0, a0)
set_option maxRecDepth 100000 in
theorem O3 {a0 : List UInt8} {r : Int × Int × (List UInt8)} (h : Jf a0 = some r) : G2 Tryz.prog 92 [] [.one (.sl a0.length (a0.flatMap eU8))] (fun y m' => y = .s (.one (.lp 0 0)) ∧ m' = [.box [.fn 112 [] [.lp 1 0, .lp 2 0], Ii6 r.1], .box [Ii6 r.2.1], .box [.sl r.2.2.length (r.2.2.flatMap eU8)]]) := by
 unfold Jf at h
 refine Cv Tryz.func92 rfl (nt := 7) rfl (Nbl rfl) ?_
 intro w0 S0 X0 H0
 refine Aq (Ab (Jd rfl rfl (sv rfl (Ak rfl) (As (Aq (Ab (Bz rfl zi3 (Ax sz3 rfl rfl rfl rfl (Nbl rfl) (Bs [.box [.sl a0.length (a0.flatMap eU8)], .box [Ii6 0]] rfl (As (Aq (Ab (sv rfl (Us Rh (Ss rfl rfl (Ss rfl rfl Rh))) (sv rfl (Bk Atc Ar9 (Ap rfl Ba) (.cons _ _ _ _ _ _ _ rfl rfl (Nbl rfl) (.nil _))) (Jd rfl rfl (sv rfl (Ak rfl) (As (Bj ?_))))))))))))))))))
 obtain rfl := Option.some.inj h
 exact ⟨Or.inr rfl, _, [2, 1, 0], [.one (.lp 0 0)], [.box [.fn 112 [] [.lp 1 0, .lp 2 0], Ii6 0], .box [Ii6 0], .box [.sl a0.length (a0.flatMap eU8)]], (Ad (Bd.tmp _ _ rfl) Af), rfl, rfl, ⟨by decide, rfl⟩, rfl, rfl, ⟨rfl, rfl⟩⟩
def Br (a0 : Int) (a1 : Int) (a2 : List UInt8) : Option Int :=
 some a0
set_option maxRecDepth 100000 in
theorem H2 {a0 : Int} {a1 : Int} {a2 : List UInt8} {r : Int} (h : Br a0 a1 a2 = some r) : G2 Tryz.prog 108 [.box [.fn 112 [] [.lp 1 0, .lp 2 0], Ii6 a0], .box [Ii6 a1], .box [.sl a2.length (a2.flatMap eU8)]] [.one (.lp 0 0)] (fun y m' => y = .s (.one (Ii6 r)) ∧ m' = [.box [.fn 112 [] [.lp 1 0, .lp 2 0], Ii6 a0], .box [Ii6 a1], .box [.sl a2.length (a2.flatMap eU8)]]) := by
 unfold Br at h
 refine Cv Tryz.func108 rfl (nt := 9) rfl (Nbl rfl) ?_
 intro w0 S0 X0 H0
 refine Aq (Ab (sv rfl (Ak rfl) (As (Aq (Aq (Ab (sv rfl (Ag rfl) (sv rfl (U1 Tryz.underlying176 rfl) (As (G0 rfl (fun hx => Bool.noConfusion hx) (fun _ => ?_)))))))))))
 refine Bl (Ai (Aq (Ab (sv rfl (Ag rfl) ?_))))
 refine sv rfl (Mg rfl rfl (fun _ _ _ h => by cases h)) ?_
 refine sv rfl (Aa Acc rfl) (sv rfl (Ae Aa1 rfl (.lp _ _ _ rfl) rfl) (sv rfl (Ak rfl) (As (Bj ?_))))
 obtain rfl := Option.some.inj h
 exact ⟨Or.inr rfl, _, [0, 1, 2], [.one (Ii6 a0)], [.box [.fn 112 [] [.lp 1 0, .lp 2 0], Ii6 a0], .box [Ii6 a1], .box [.sl a2.length (a2.flatMap eU8)]], (Ad (Bd.tmp _ _ rfl) Af), rfl, rfl, ⟨by decide, rfl⟩, rfl, rfl, ⟨rfl, rfl⟩⟩
def Bw (a0 : Int) (a1 : Int) (a2 : Int) (a3 : List UInt8) : Option Int :=
 if (decide (a1 = 0)) then (some a0) else (some a1)
set_option maxRecDepth 100000 in
theorem Dx {a0 : Int} {a1 : Int} {a2 : Int} {a3 : List UInt8} {r : Int} (h : Bw a0 a1 a2 a3 = some r) : G2 Tryz.prog 94 [.box [.fn 112 [] [.lp 1 0, .lp 2 0], Ii6 a1], .box [Ii6 a2], .box [.sl a3.length (a3.flatMap eU8)]] [.one (.lp 0 0), .one (Ii6 a0)] (fun y m' => y = .tup [] ∧ m' = [.box [.fn 112 [] [.lp 1 0, .lp 2 0], Ii6 r], .box [Ii6 a2], .box [.sl a3.length (a3.flatMap eU8)]]) := by
 unfold Bw at h
 refine Cv Tryz.func94 rfl (nt := 17) rfl (Nbl rfl) ?_
 intro w0 S0 X0 H0
 refine Aq (Ab (sv rfl (Ag rfl) (sv rfl (Zh Tryz.underlying176 rfl) (sv rfl (Ag rfl) (son rfl rfl rfl (sv rfl (Ag rfl) (son rfl rfl rfl ?_)))))))
 refine sv rfl (Mg rfl rfl (fun _ _ _ h => by cases h)) ?_
 refine son rfl rfl rfl (sv rfl (Aa Acc rfl) (son rfl rfl rfl (sv rfl (Ae Aa1 rfl (.lp _ _ _ rfl) rfl) (son rfl rfl rfl (sv rfl (Bq rfl rfl) (sv rfl (Au rfl rfl) (As (ccI h rfl (fun h => ?_) (fun h => ?_)))))))))
 ·refine Ab (sv rfl (Ag rfl) (sv rfl (Ag rfl) ?_))
  refine sv rfl (Mg rfl rfl (fun _ _ _ h => by cases h)) ?_
  refine sv rfl (Aa Acc rfl) (Ax Aud rfl rfl rfl rfl (Nbl rfl) (Bs [.box [.fn 112 [] [.lp 1 0, .lp 2 0], Ii6 a0], .box [Ii6 a2], .box [.sl a3.length (a3.flatMap eU8)]] rfl (Lz ?_)))
  obtain rfl := Option.some.inj h
  exact ⟨Or.inl rfl, _, [0, 1, 2], [], [.box [.fn 112 [] [.lp 1 0, .lp 2 0], Ii6 a0], .box [Ii6 a2], .box [.sl a3.length (a3.flatMap eU8)]], Af, rfl, rfl, ⟨by decide, rfl⟩, rfl, rfl, ⟨rfl, rfl⟩⟩
 ·refine Bl ?_
  obtain rfl := Option.some.inj h
  exact ⟨Or.inl rfl, _, [0, 1, 2], [], [.box [.fn 112 [] [.lp 1 0, .lp 2 0], Ii6 a1], .box [Ii6 a2], .box [.sl a3.length (a3.flatMap eU8)]], Af, rfl, rfl, ⟨by decide, rfl⟩, rfl, rfl, ⟨rfl, rfl⟩⟩
def Ft (a0 : Int) (a1 : Int) (a2 : List UInt8) : Option (Int × (List UInt8) × Int) :=
 (cut a2 (wI (a1 + a0)) (a2.length : Int)).bind fun c1 => some ((wI (a1 + a0)), c1, (wI (a1 + a0)))
set_option maxRecDepth 100000 in
theorem Ph {a0 : Int} {a1 : Int} {a2 : List UInt8} {r : Int × (List UInt8) × Int} (h : Ft a0 a1 a2 = some r) : G2 Tryz.prog 112 [.box [Ii6 a1], .box [.sl a2.length (a2.flatMap eU8)]] [.one (Ii6 a0), .one (.lp 0 0), .one (.lp 1 0)] (fun y m' => y = .tup [.one (Ii6 r.1), .one (.sl r.2.1.length (r.2.1.flatMap eU8))] ∧ m' = [.box [Ii6 r.2.2], .box [.sl a2.length (a2.flatMap eU8)]]) := by
 unfold Ft at h
 refine Cv Tryz.func112 rfl (nt := 13) rfl (Nbl rfl) ?_
 intro w0 S0 X0 H0
 refine Aq (Ab (sv rfl (Ak rfl) (sv rfl (Ak rfl) (As (Aq (Ab (sv rfl (Ae ti3 rfl (.lp _ _ _ rfl) rfl) (sv rfl (Ag rfl) (sv rfl (B0 rfl rfl) (Ax sz3 rfl rfl rfl rfl (Nbl rfl) (Bs [.box [Ii6 (wI (a1 + a0))], .box [.sl a2.length (a2.flatMap eU8)]] rfl (As (Aq ?_)))))))))))))
 refine Ae6 Ma (by kernel_rfl) ?_
 refine dv rfl (Ae ti3 rfl (.lp _ _ _ rfl) rfl) (dv rfl (Ae L4 rfl (.lp _ _ _ rfl) rfl) (dv rfl (Ae ti3 rfl (.lp _ _ _ rfl) rfl) ?_))
 obtain ⟨c1, hc1, h⟩ := An h
 refine dv rfl (Sl (f := eU8) (lo := (wI (a1 + a0))) (hi := (a2.length : Int)) Lh (fun _ => rfl) rfl rfl rfl (Hn rfl (Ks hc1).1.1) (by exact rfl) hc1) ?_
 refine dv rfl (Ak rfl) (dv rfl (Ak rfl) (Afb (Ai (Bj ?_))))
 obtain rfl := Option.some.inj h
 exact ⟨Or.inr rfl, _, [0, 1], [.one (Ii6 (wI (a1 + a0))), .one (.sl c1.length (c1.flatMap eU8))], [.box [Ii6 (wI (a1 + a0))], .box [.sl a2.length (a2.flatMap eU8)]], (Ad (Bd.tmp _ _ rfl) (Ad (Bd.tmp _ _ rfl) Af)), rfl, rfl, ⟨by decide, rfl⟩, rfl, rfl, ⟨rfl, rfl⟩⟩
def E1 (a1 : Int) (a2 : List UInt8) (b1 : Unit) : Option (Int × (List UInt8) × Int) :=
 (Ft 0 a1 a2).bind fun v2 => some (v2.1, v2.2.1, v2.2.2)
def Dt (a0 : Int) (a1 : Int) (a2 : List UInt8) : Option (Int × (List UInt8) × Int) :=
 E1 a1 a2 ()
set_option maxRecDepth 100000 in
theorem Mf {a0 : Int} {a1 : Int} {a2 : List UInt8} {r : Int × (List UInt8) × Int} (h : Dt a0 a1 a2 = some r) : G2 Tryz.prog 114 [.box [.fn 112 [] [.lp 1 0, .lp 2 0], Ii6 a0], .box [Ii6 a1], .box [.sl a2.length (a2.flatMap eU8)]] [.one (.lp 0 0)] (fun y m' => y = .tup [.one (Ii6 r.1), .one (.sl r.2.1.length (r.2.1.flatMap eU8))] ∧ m' = [.box [.fn 112 [] [.lp 1 0, .lp 2 0], Ii6 a0], .box [Ii6 r.2.2], .box [.sl a2.length (a2.flatMap eU8)]]) := by
 unfold Dt at h
 refine Cv Tryz.func114 rfl (nt := 20) rfl (Nbl rfl) ?_
 intro w0 S0 X0 H0
 refine Aq (Ab (sv rfl (Ak rfl) (sv rfl (Ak rfl) (As (Aq (Aq (Ki (Unit) (fun b1 => [(0, .s (.one (.lp 0 0)))]) (fun b1 => [.box [.fn 112 [] [.lp 1 0, .lp 2 0], Ii6 a0], .box [Ii6 a1], .box [.sl a2.length (a2.flatMap eU8)]]) (fun b1 => E1 a1 a2 b1 = some r) (fun _ _ => Be rfl) (fun _ _ => A0 rfl) (fun _ _ => Nat.le_of_ble_eq_true rfl) (fun b1 h => ?_) ?_)))))))
 ·unfold E1 at h
  refine Aq (Ab (sv rfl (Ag rfl) ?_))
  refine sv rfl (Mg rfl rfl (fun _ _ _ h => by cases h)) ?_
  refine sv rfl (Aa Aca rfl) (sv rfl (Ae Amh rfl (.lp _ _ _ rfl) rfl) ?_)
  obtain ⟨v2, hv2, h⟩ := An h
  refine C2 (x' := .tup [.one (Ii6 v2.1), .one (.sl v2.2.1.length (v2.2.1.flatMap eU8))]) (M' := [.box [.fn 112 [] [.lp 1 0, .lp 2 0], Ii6 a0], .box [Ii6 v2.2.2], .box [.sl a2.length (a2.flatMap eU8)]]) [1, 2] rfl Aoa (.fn _ _ _ _ rfl) (Ac rfl Al) (Ph hv2) rfl rfl (by decide) rfl rfl rfl ?_
  refine sv rfl (Bc rfl rfl) (sv rfl (Bc rfl rfl) (sv rfl (Ak rfl) (sv rfl (Ak rfl) (As (Bj ?_)))))
  obtain rfl := Option.some.inj h
  exact ⟨Or.inr rfl, _, [0, 1, 2], [.one (Ii6 v2.1), .one (.sl v2.2.1.length (v2.2.1.flatMap eU8))], [.box [.fn 112 [] [.lp 1 0, .lp 2 0], Ii6 a0], .box [Ii6 v2.2.2], .box [.sl a2.length (a2.flatMap eU8)]], (Ad (Bd.tmp _ _ rfl) (Ad (Bd.tmp _ _ rfl) Af)), rfl, rfl, ⟨by decide, rfl⟩, rfl, rfl, ⟨rfl, rfl⟩⟩
 ·skip
  refine Ab (sv rfl (Ag rfl) (sv rfl (U1 Tryz.underlying176 rfl) (sv rfl (Ag rfl) (son rfl rfl rfl (sv rfl (Ag rfl) (son rfl rfl rfl ?_))))))
  refine sv rfl (Mg rfl rfl (fun _ _ _ h => by cases h)) ?_
  refine son rfl rfl rfl (sv rfl (Aa Aca rfl) (son rfl rfl rfl (sv rfl (Ae Amh rfl (.lp _ _ _ rfl) rfl) (son rfl rfl rfl (sv rfl (Aaf Tryz.underlying191 rfl rfl) (sv rfl (Am rfl rfl) (As (G0 rfl (fun hx => Bool.noConfusion hx) (fun _ => ?_)))))))))
  refine Bl (Ai ?_)
  exact ⟨(), _, h, ⟨rfl, trivial⟩, rfl⟩
def C8 (a0 : Int) (a1 : Int) (v1 : Int × (List UInt8) × Int) (b3 : Int) : Option ((List UInt8) × Int × Int) :=
 (cut v1.2.1 0 a0).bind fun c4 => some (c4, a1, b3)
def Cm (a0 : Int) (a1 : Int) (a2 : Int) (a3 : List UInt8) : Option ((List UInt8) × Int × Int) :=
 (Dt a1 a2 a3).bind fun v1 => if (decide ((v1.2.1.length : Int) < a0)) then ((Bw 2 a1 v1.2.2 a3).bind fun v2 => some (([] : List UInt8), v2, v1.2.2)) else (if (decide (0 < a0)) then ((Ft a0 v1.2.2 a3).bind fun v5 => C8 a0 a1 v1 v5.2.2) else (C8 a0 a1 v1 v1.2.2))
set_option maxRecDepth 100000 in
theorem Mr {a0 : Int} {a1 : Int} {a2 : Int} {a3 : List UInt8} {r : (List UInt8) × Int × Int} (h : Cm a0 a1 a2 a3 = some r) : G2 Tryz.prog 113 [.box [.fn 112 [] [.lp 1 0, .lp 2 0], Ii6 a1], .box [Ii6 a2], .box [.sl a3.length (a3.flatMap eU8)]] [.one (.lp 0 0), .one (Ii6 a0)] (fun y m' => y = .s (.one (.sl r.1.length (r.1.flatMap eU8))) ∧ m' = [.box [.fn 112 [] [.lp 1 0, .lp 2 0], Ii6 r.2.1], .box [Ii6 r.2.2], .box [.sl a3.length (a3.flatMap eU8)]]) := by
 unfold Cm at h
 refine Cv Tryz.func113 rfl (nt := 29) rfl (Nbl rfl) ?_
 intro w0 S0 X0 H0
 refine Aq (Ab (sv rfl (Ak rfl) (As (Aq (Ab (sv rfl (Ag rfl) ?_))))))
 obtain ⟨v1, hv1, h⟩ := An h
 refine C2 (x' := .tup [.one (Ii6 v1.1), .one (.sl v1.2.1.length (v1.2.1.flatMap eU8))]) (M' := [.box [.fn 112 [] [.lp 1 0, .lp 2 0], Ii6 a1], .box [Ii6 v1.2.2], .box [.sl a3.length (a3.flatMap eU8)]]) [0, 1, 2] rfl Aov (.func _) (Ac rfl Al) (Mf hv1) rfl rfl (by decide) rfl rfl rfl ?_
 refine sv rfl (Gj rfl) (sv rfl (Bc rfl rfl) (sv rfl (Bc rfl rfl) (sv rfl (Ak rfl) (sv rfl (Ak rfl) (As (Aq (Aq (Ab (sv rfl (Ag rfl) (sv rfl (Az Lh rfl) (sv rfl (Ag rfl) (sv rfl (Cp rfl rfl) (As (ccI h rfl (fun h => ?_) (fun h => ?_)))))))))))))))
 ·refine Aq (Ab (sv rfl (Ag rfl) ?_))
  obtain ⟨v2, hv2, h⟩ := An h
  refine C2 (x' := .tup []) (M' := [.box [.fn 112 [] [.lp 1 0, .lp 2 0], Ii6 v2], .box [Ii6 v1.2.2], .box [.sl a3.length (a3.flatMap eU8)]]) [0, 1, 2] rfl Amu (.func _) (Ac rfl (Ac rfl Al)) (Dx hv2) rfl rfl (by decide) rfl rfl rfl ?_
  refine As (Aq (Ab (sv rfl (Ak rfl) (As ?_))))
  refine Anz 4 rfl (by (repeat' first | exact J5.nil _ | apply J5.cons | apply Jz.one | apply Jz.agg | exact E6.nil | exact E6.id _ rfl | exact D1.nil _ | apply D1.cons)) ?_
  refine Bj (Ar ?_)
  obtain rfl := Option.some.inj h
  exact ⟨Or.inr rfl, _, [0, 1, 2], [.one (.sl ([] : List UInt8).length (([] : List UInt8).flatMap eU8))], [.box [.fn 112 [] [.lp 1 0, .lp 2 0], Ii6 v2], .box [Ii6 v1.2.2], .box [.sl a3.length (a3.flatMap eU8)]], (Ad (Bd.tmp _ _ rfl) Af), rfl, rfl, ⟨by decide, rfl⟩, rfl, rfl, ⟨rfl, rfl⟩⟩
 ·refine Bl (Ai (Aq (Aq (Ab (sv rfl (Ag rfl) (sv rfl (C6 rfl rfl) (As (G5 (Int) (fun b3 => [(1, .s (.one (Ii6 a0))), (6, .s (.one (.sl v1.2.1.length (v1.2.1.flatMap eU8))))]) (fun b3 => [.box [.fn 112 [] [.lp 1 0, .lp 2 0], Ii6 a1], .box [Ii6 b3], .box [.sl a3.length (a3.flatMap eU8)]]) (fun b3 => C8 a0 a1 v1 b3 = some r) (fun _ _ => Be rfl) (fun _ _ => A0 rfl) (fun _ _ => Nat.le_of_ble_eq_true rfl) (fun b3 h => ?_) ?_))))))))
  ·unfold C8 at h
   refine Aq (Ab (sv rfl (Ag rfl) (sv rfl (Ag rfl) ?_)))
   obtain ⟨c4, hc4, h⟩ := An h
   refine sv rfl (Sl (f := eU8) (lo := 0) (hi := a0) Lh (fun _ => rfl) rfl rfl rfl Rm (Hn rfl (Int.le_trans (Ks hc4).1.1 (Ks hc4).1.2.1)) hc4) ?_
   refine sv rfl (Ak rfl) (As (Bj ?_))
   obtain rfl := Option.some.inj h
   exact ⟨Or.inr rfl, _, [0, 1, 2], [.one (.sl c4.length (c4.flatMap eU8))], [.box [.fn 112 [] [.lp 1 0, .lp 2 0], Ii6 a1], .box [Ii6 b3], .box [.sl a3.length (a3.flatMap eU8)]], (Ad (Bd.tmp _ _ rfl) Af), rfl, rfl, ⟨by decide, rfl⟩, rfl, rfl, ⟨rfl, rfl⟩⟩
  ·skip
   refine ccI h rfl (fun h => ?_) (fun h => ?_)
   ·refine Ab (sv rfl (Ag rfl) ?_)
    refine sv rfl (Mg rfl rfl (fun _ _ _ h => by cases h)) ?_
    refine sv rfl (Aa Aca rfl) (sv rfl (Ae Amh rfl (.lp _ _ _ rfl) rfl) (sv rfl (Ag rfl) ?_))
    obtain ⟨v5, hv5, h⟩ := An h
    refine C2 (x' := .tup [.one (Ii6 v5.1), .one (.sl v5.2.1.length (v5.2.1.flatMap eU8))]) (M' := [.box [.fn 112 [] [.lp 1 0, .lp 2 0], Ii6 a1], .box [Ii6 v5.2.2], .box [.sl a3.length (a3.flatMap eU8)]]) [1, 2] rfl Aoa (.fn _ _ _ _ rfl) (Ac rfl Al) (Ph hv5) rfl rfl (by decide) rfl rfl rfl ?_
    refine As ?_
    exact ⟨v5.2.2, _, h, ⟨rfl, rfl, trivial⟩, rfl⟩
   ·refine Bl (Ai ?_)
    exact ⟨v1.2.2, _, h, ⟨rfl, rfl, trivial⟩, rfl⟩
def Lq (v3 : (List UInt8) × Int × Int) (b4 : (BitVec 64)) : Option ((BitVec 64) × Int × Int) :=
 some (b4, v3.2.1, v3.2.2)
def Em (v3 : (List UInt8) × Int × Int) (s5 : (BitVec 64) × Int) : Option (LB ((BitVec 64) × Int) ((BitVec 64))) :=
 if (decide (s5.2 < (v3.1.length : Int))) then ((idx v3.1 s5.2).bind fun u6 => if 0 ≤ (wI (8 * s5.2)) then (some (.cont ((s5.1 ||| ((u6.toBitVec.setWidth 64) <<< (wI (8 * s5.2)).toNat)), (wI (s5.2 + 1))))) else none) else (some (.brk s5.1))
def Dr (a0 : Int) (a1 : Int) (a2 : Int) (a3 : List UInt8) (b2 : Unit) : Option ((BitVec 64) × Int × Int) :=
 (Cm a0 a1 a2 a3).bind fun v3 => (E4 (Em v3) Di (0#64, 0)).bind fun e8 => Lq v3 e8
def A3 (a0 : Int) (a1 : Int) (a2 : Int) (a3 : List UInt8) : Option ((BitVec 64) × Int × Int) :=
 (Br a1 a2 a3).bind fun v1 => if (!decide (v1 = 0)) then (some (0#64, a1, a2)) else (if (decide (a0 < 1)) then ((Bw 1 a1 a2 a3).bind fun v9 => some (0#64, v9, a2)) else (if (decide (8 < a0)) then ((Bw 1 a1 a2 a3).bind fun v10 => some (0#64, v10, a2)) else (Dr a0 a1 a2 a3 ())))
set_option maxRecDepth 100000 in
theorem Cz {a0 : Int} {a1 : Int} {a2 : Int} {a3 : List UInt8} {r : (BitVec 64) × Int × Int} (h : A3 a0 a1 a2 a3 = some r) : G2 Tryz.prog 93 [.box [.fn 112 [] [.lp 1 0, .lp 2 0], Ii6 a1], .box [Ii6 a2], .box [.sl a3.length (a3.flatMap eU8)]] [.one (.lp 0 0), .one (Ii6 a0)] (fun y m' => y = .s (.one (.i .u64 (r.1.toNat : Int))) ∧ m' = [.box [.fn 112 [] [.lp 1 0, .lp 2 0], Ii6 r.2.1], .box [Ii6 r.2.2], .box [.sl a3.length (a3.flatMap eU8)]]) := by
 unfold A3 at h
 refine Cv Tryz.func93 rfl (nt := 37) rfl (Nbl rfl) ?_
 intro w0 S0 X0 H0
 refine Aq (Ab (sv rfl (Ak rfl) (As (Aq (Aq (Ab (sv rfl (Ag rfl) ?_)))))))
 obtain ⟨v1, hv1, h⟩ := An h
 refine C2 (x' := .s (.one (Ii6 v1))) (M' := [.box [.fn 112 [] [.lp 1 0, .lp 2 0], Ii6 a1], .box [Ii6 a2], .box [.sl a3.length (a3.flatMap eU8)]]) [0, 1, 2] rfl Aij (.func _) (Ac rfl Al) (H2 hv1) rfl rfl (by decide) rfl rfl rfl ?_
 refine sv rfl (Cd rfl rfl) (As (ccI h rfl (fun h => ?_) (fun h => ?_)))
 ·refine Aq (Ab (sv rfl (Ak rfl) (As (Bj (Ar ?_)))))
  obtain rfl := Option.some.inj h
  exact ⟨Or.inr rfl, _, [0, 1, 2], [.one (.i .u64 ((0#64).toNat : Int))], [.box [.fn 112 [] [.lp 1 0, .lp 2 0], Ii6 a1], .box [Ii6 a2], .box [.sl a3.length (a3.flatMap eU8)]], (Ad (Bd.tmp _ _ rfl) Af), rfl, rfl, ⟨by decide, rfl⟩, rfl, rfl, ⟨rfl, rfl⟩⟩
 ·refine Bl (Ai (Aq (Aq (Ki (Unit) (fun b2 => [(0, .s (.one (.lp 0 0))), (1, .s (.one (Ii6 a0)))]) (fun b2 => [.box [.fn 112 [] [.lp 1 0, .lp 2 0], Ii6 a1], .box [Ii6 a2], .box [.sl a3.length (a3.flatMap eU8)]]) (fun b2 => Dr a0 a1 a2 a3 b2 = some r) (fun _ _ => Be rfl) (fun _ _ => A0 rfl) (fun _ _ => Nat.le_of_ble_eq_true rfl) (fun b2 h => ?_) ?_))))
  ·unfold Dr at h
   refine Aq (Ab (sv rfl (Ak rfl) (As (Aq (Aq (Ab (sv rfl (Ag rfl) (sv rfl (Ag rfl) ?_))))))))
   obtain ⟨v3, hv3, h⟩ := An h
   refine C2 (x' := .s (.one (.sl v3.1.length (v3.1.flatMap eU8)))) (M' := [.box [.fn 112 [] [.lp 1 0, .lp 2 0], Ii6 v3.2.1], .box [Ii6 v3.2.2], .box [.sl a3.length (a3.flatMap eU8)]]) [0, 1, 2] rfl An8 (.func _) (Ac rfl (Ac rfl Al)) (Mr hv3) rfl rfl (by decide) rfl rfl rfl ?_
   refine sv rfl (Az Lh rfl) (sv rfl (Ag rfl) (As (G5 ((BitVec 64)) (fun b4 => [(5, .s (.one (.i .u64 (b4.toNat : Int))))]) (fun b4 => [.box [.fn 112 [] [.lp 1 0, .lp 2 0], Ii6 v3.2.1], .box [Ii6 v3.2.2], .box [.sl a3.length (a3.flatMap eU8)]]) (fun b4 => Lq v3 b4 = some r) (fun _ _ => Be rfl) (fun _ _ => A0 rfl) (fun _ _ => Nat.le_of_ble_eq_true rfl) (fun b4 h => ?_) ?_)))
   ·unfold Lq at h
    refine Aq (Ab (sv rfl (Ag rfl) (sv rfl (Ak rfl) (As (Bj ?_)))))
    obtain rfl := Option.some.inj h
    exact ⟨Or.inr rfl, _, [0, 1, 2], [.one (.i .u64 (b4.toNat : Int))], [.box [.fn 112 [] [.lp 1 0, .lp 2 0], Ii6 v3.2.1], .box [Ii6 v3.2.2], .box [.sl a3.length (a3.flatMap eU8)]], (Ad (Bd.tmp _ _ rfl) Af), rfl, rfl, ⟨by decide, rfl⟩, rfl, rfl, ⟨rfl, rfl⟩⟩
   ·skip
    refine B7 ?_
    obtain ⟨x5, hx5, ho5⟩ := An h
    refine Da (G := Nat × ((BitVec 64) × Int)) (fun g => [(5, .s (.one (.i .u64 (g.2.1.toNat : Int)))), (21, .s (.one (.sl v3.1.length (v3.1.flatMap eU8)))), (22, .s (.one (Ii6 (v3.1.length : Int)))), (23, .s (.one (Ii6 g.2.2)))]) (fun g => [.box [.fn 112 [] [.lp 1 0, .lp 2 0], Ii6 v3.2.1], .box [Ii6 v3.2.2], .box [.sl a3.length (a3.flatMap eU8)]]) (fun g => E4 (Em v3) g.1 g.2 = some x5) (fun g => g.1) (Di, (0#64, 0)) hx5 ⟨rfl, rfl, rfl, rfl, trivial⟩ [] rfl (fun _ _ => Be rfl) (fun _ _ => A0 rfl) (fun _ _ => Nat.le_of_ble_eq_true rfl) ?_
    clear hx5 h
    rintro ⟨n5, s5⟩ h
    obtain ⟨n5, y5, rfl, h, hk5⟩ := Gs h
    unfold Em at h
    refine Aq (Ab (sv rfl (Cp rfl rfl) (As (Aq (ccI h rfl (fun h => ?_) (fun h => ?_))))))
    ·refine Bl (Ai (Aq (B7 (Aq (Ab (sv rfl (Ag rfl) ?_))))))
     obtain ⟨u6, hu6, h⟩ := An h
     refine sv rfl (Fe (f := eU8) Lh (fun _ => rfl) rfl rfl rfl rfl hu6) ?_
     refine sv rfl (Ae ti5 rfl (.cp _) rfl) (sv rfl (Ak rfl) (sv rfl (Ak rfl) (As (Ab (sv rfl (Ag rfl) (sv rfl (Ag rfl) (sv rfl (N5 (k := .u8) (a := u6.toBitVec) rfl Tryz.underlying5 Tryz.underlying112 rfl rfl) (sv rfl (Ag rfl) (sv rfl (X8 rfl rfl) ?_)))))))))
     obtain ⟨hz7, h⟩ := D9 h
     refine sv rfl (Acg (a := (u6.toBitVec.setWidth 64)) rfl rfl rfl hz7) (sv rfl (Adz (a := s5.1) (b := ((u6.toBitVec.setWidth 64) <<< (wI (8 * s5.2)).toNat)) rfl rfl rfl rfl) (sv rfl (Ak rfl) (Lz (A4 (Ai (Ab (sv rfl (B0 rfl rfl) (sv rfl (Ag rfl) (As ?_)))))))))
     obtain rfl := Option.some.inj h
     exact ⟨(n5, ((s5.1 ||| ((u6.toBitVec.setWidth 64) <<< (wI (8 * s5.2)).toNat)), (wI (s5.2 + 1)))), _, hk5, ⟨rfl, rfl, rfl, rfl, trivial⟩, rfl, Nat.lt_succ_self _⟩
    ·refine Lj (Bi (Bi (Ck (Ai ?_))))
     obtain rfl := Option.some.inj h
     obtain rfl : _ = x5 := hk5
     exact ⟨s5.1, _, ho5, ⟨rfl, trivial⟩, rfl⟩
  ·skip
   refine Ab (sv rfl (Ag rfl) (sv rfl (Cp rfl rfl) (sv rfl (Ag rfl) (Bo 13 rfl (fun hc => ?_) (fun hc => ?_)))))
   ·replace h := B2 hc h
    clear hc
    refine Av rfl rfl rfl rfl (Av rfl rfl rfl rfl (sv rfl (Au rfl rfl) (As (G0 rfl (fun _ => ?_) (fun hx => Bool.noConfusion hx)))))
    refine Aq (Ab (sv rfl (Ag rfl) ?_))
    obtain ⟨v9, hv9, h⟩ := An h
    refine C2 (x' := .tup []) (M' := [.box [.fn 112 [] [.lp 1 0, .lp 2 0], Ii6 v9], .box [Ii6 a2], .box [.sl a3.length (a3.flatMap eU8)]]) [0, 1, 2] rfl Amu (.func _) (Ac rfl (Ac rfl Al)) (Dx hv9) rfl rfl (by decide) rfl rfl rfl ?_
    refine As (Aq (Ab (sv rfl (Ak rfl) (As (Bj (Ar ?_))))))
    obtain rfl := Option.some.inj h
    exact ⟨Or.inr rfl, _, [0, 1, 2], [.one (.i .u64 ((0#64).toNat : Int))], [.box [.fn 112 [] [.lp 1 0, .lp 2 0], Ii6 v9], .box [Ii6 a2], .box [.sl a3.length (a3.flatMap eU8)]], (Ad (Bd.tmp _ _ rfl) Af), rfl, rfl, ⟨by decide, rfl⟩, rfl, rfl, ⟨rfl, rfl⟩⟩
   ·replace h := B1 hc h
    clear hc
    refine son rfl rfl rfl (sv rfl (Ag rfl) (son rfl rfl rfl (sv rfl (C6 rfl rfl) (sv rfl (Am rfl rfl) (As (ccI h rfl (fun h => ?_) (fun h => ?_)))))))
    ·refine Aq (Ab (sv rfl (Ag rfl) ?_))
     obtain ⟨v10, hv10, h⟩ := An h
     refine C2 (x' := .tup []) (M' := [.box [.fn 112 [] [.lp 1 0, .lp 2 0], Ii6 v10], .box [Ii6 a2], .box [.sl a3.length (a3.flatMap eU8)]]) [0, 1, 2] rfl Amu (.func _) (Ac rfl (Ac rfl Al)) (Dx hv10) rfl rfl (by decide) rfl rfl rfl ?_
     refine As (Aq (Ab (sv rfl (Ak rfl) (As (Bj (Ar ?_))))))
     obtain rfl := Option.some.inj h
     exact ⟨Or.inr rfl, _, [0, 1, 2], [.one (.i .u64 ((0#64).toNat : Int))], [.box [.fn 112 [] [.lp 1 0, .lp 2 0], Ii6 v10], .box [Ii6 a2], .box [.sl a3.length (a3.flatMap eU8)]], (Ad (Bd.tmp _ _ rfl) Af), rfl, rfl, ⟨by decide, rfl⟩, rfl, rfl, ⟨rfl, rfl⟩⟩
    ·refine Bl (Ai ?_)
     exact ⟨(), _, h, ⟨rfl, rfl, trivial⟩, rfl⟩
def Jr (a0 : Int) (b1 : Unit) : Option (List UInt8) :=
 if (decide (0 < (wI (a0 - (wI (0 - 0)))))) then (if 0 < (wI (a0 - (wI (0 - 0)))) ∧ (wI (a0 - (wI (0 - 0)))) * ((1 : Nat) : Int) ≤ 281474976710656 then (if (0 : Int) ≤ 0 ∧ 0 ≤ ((List.replicate (wI (a0 - (wI (0 - 0)))).toNat (0 : UInt8)).length : Int) then (some ((List.replicate (wI (a0 - (wI (0 - 0)))).toNat (0 : UInt8)).take (0 : Int).toNat)) else none) else none) else (some ([] : List UInt8))
def J2 (a0 : Int) : Option (List UInt8) :=
 if (decide (a0 < 0)) then none else (Jr a0 ())
set_option maxRecDepth 100000 in
theorem Tl {a0 : Int} {r : (List UInt8)} (h : J2 a0 = some r) : G2 Tryz.prog 75 [] [.one (Znl), .one (Ii6 a0)] (fun y m' => y = .s (.one (.ls 0 r.length)) ∧ m' = [.arr 5 1 0 (r.flatMap eU8)]) := by
 unfold J2 at h
 refine Cv Tryz.func75 rfl (nt := 27) rfl (Nbl rfl) ?_
 intro w0 S0 X0 H0
 refine Aq (Ab (sv rfl (Ak rfl) (As (Aq (Aq (Ab (sv rfl (Ag rfl) (sv rfl (Cp rfl rfl) (As (G5 (Unit) (fun b1 => [(0, .s (.one (Znl))), (1, .s (.one (Ii6 a0)))]) (fun b1 => []) (fun b1 => Jr a0 b1 = some r) (fun _ _ => Be rfl) (fun _ _ => A0 rfl) (fun _ _ => Nat.le_of_ble_eq_true rfl) (fun b1 h => ?_) ?_))))))))))
 ·unfold Jr at h
  refine Aq (Aq (Ab (sv rfl (Ag rfl) (sv rfl (Ag rfl) (sv rfl (Kt Lh rfl) (sv rfl (Ag rfl) (sv rfl (Kl Lh rfl) (sv rfl (Mq rfl rfl) (sv rfl (Mq rfl rfl) (sv rfl (Ak rfl) (As (Aq (Ab (sv rfl (Ag rfl) (sv rfl (C6 rfl rfl) (As (ccI h rfl (fun h => ?_) (fun h => ?_))))))))))))))))))
  ·refine Ab (sv rfl (Ag rfl) (sv rfl (Ag rfl) (sv rfl (Kt Lh rfl) (sv rfl (N0 Lh rfl rfl) (sv rfl (Ag rfl) ?_)))))
   obtain ⟨hm2, h⟩ := D9 h
   refine Alm (f := eU8) (z := (0 : UInt8)) rfl Tryz.underlying33 ei5 Tryz.underlying3 (fun _ => rfl) rfl rfl rfl hm2 (by decide) ?_
   refine sv rfl (Ag rfl) (sv rfl (Kl Lh rfl) ?_)
   obtain ⟨hs3, h⟩ := D9 h
   refine Adk (f := eU8) rfl Lh (fun _ => rfl) rfl rfl rfl rfl rfl hs3 ?_
   refine sv rfl (Ak rfl) (As (Aq (Ab (sv rfl (Ag rfl) (sv rfl (Ak rfl) (As (Bj ?_)))))))
   obtain rfl := Option.some.inj h
   exact ⟨Or.inr rfl, _, [1], [.one (.ls 0 ((List.replicate (wI (a0 - (wI (0 - 0)))).toNat (0 : UInt8)).take (0 : Int).toNat).length)], [.arr 5 1 0 (((List.replicate (wI (a0 - (wI (0 - 0)))).toNat (0 : UInt8)).take (0 : Int).toNat).flatMap eU8)], (Ad (Bd.tmp _ _ rfl) Af), rfl, rfl, ⟨by decide, rfl⟩, rfl, rfl, ⟨rfl, rfl⟩⟩
  ·refine Bl (Ai (Aq (Ab (sv rfl (Ag rfl) (sv rfl (Ak rfl) (As ?_))))))
   refine O2 5 1 4 (by decide) rfl ?_
   refine Bj ?_
   obtain rfl := Option.some.inj h
   exact ⟨Or.inr rfl, _, [0], [.one (.ls 0 ([] : List UInt8).length)], [.arr 5 1 0 (([] : List UInt8).flatMap eU8)], (Ad (Bd.tmp _ _ rfl) Af), rfl, rfl, ⟨by decide, rfl⟩, rfl, rfl, ⟨rfl, rfl⟩⟩
 ·skip
  refine ccI h rfl (fun h => ?_) (fun h => ?_)
  ·cases h
  ·refine Bl (Ai ?_)
   exact ⟨(), _, h, ⟨rfl, rfl, trivial⟩, rfl⟩
def Kv (b3 : (List UInt8)) : Option (List UInt8) :=
 some b3
def Fg (a0 : List (List UInt8)) (s4 : Int × (List UInt8)) : Option (LB (Int × (List UInt8)) ((List UInt8))) :=
 if (decide (s4.1 < (a0.length : Int))) then ((idx a0 s4.1).bind fun u5 => if (s4.2.length + u5.length) * 1 ≤ 140737488355328 then (some (.cont ((wI (s4.1 + 1)), (s4.2 ++ u5)))) else none) else (some (.brk s4.2))
def Im (a0 : List (List UInt8)) (b1 : Int) : Option (List UInt8) :=
 (J2 b1).bind fun v2 => (E4 (Fg a0) Di (0, v2)).bind fun e7 => Kv e7
def Fo (a0 : List (List UInt8)) (s8 : Int × Int) : Option (LB (Int × Int) (Int)) :=
 if (decide (s8.2 < (a0.length : Int))) then ((idx a0 s8.2).bind fun u9 => if (decide ((wI (s8.1 + (u9.length : Int))) < 0)) then none else (some (.cont ((wI (s8.1 + (u9.length : Int))), (wI (s8.2 + 1)))))) else (some (.brk s8.1))
def Eo (a0 : List (List UInt8)) : Option (List UInt8) :=
 (E4 (Fo a0) Di (0, 0)).bind fun e10 => Im a0 e10
set_option maxRecDepth 100000 in
theorem Iv {a0 : List (List UInt8)} {r : (List UInt8)} (h : Eo a0 = some r) : G2 Tryz.prog 44 [] [.one (.sl a0.length (a0.flatMap (eL eU8)))] (fun y m' => y = .s (.one (.ls 0 r.length)) ∧ m' = [.arr 5 1 0 (r.flatMap eU8)]) := by
 unfold Eo at h
 refine Cv Tryz.func44 rfl (nt := 36) rfl (Nbl rfl) ?_
 intro w0 S0 X0 H0
 refine Aq (Ab (sv rfl (Ak rfl) (As (Aq (Ab (sv rfl (Ak rfl) (As (Aq (Aq (Ab (sv rfl (Ag rfl) (sv rfl (Az Aef rfl) (sv rfl (Ag rfl) (As (G5 (Int) (fun b1 => [(0, .s (.one (.sl a0.length (a0.flatMap (eL eU8))))), (3, .s (.one (Ii6 b1)))]) (fun b1 => []) (fun b1 => Im a0 b1 = some r) (fun _ _ => Be rfl) (fun _ _ => A0 rfl) (fun _ _ => Nat.le_of_ble_eq_true rfl) (fun b1 h => ?_) ?_)))))))))))))))
 ·unfold Im at h
  refine Aq (Ab (sv rfl (Ag rfl) ?_))
  obtain ⟨v2, hv2, h⟩ := An h
  refine C2 (x' := .s (.one (.ls 0 v2.length))) (M' := [.arr 5 1 0 (v2.flatMap eU8)]) [] rfl Auy (.func _) (Ac rfl (Ac rfl Al)) (Tl hv2) rfl rfl (by decide) rfl rfl rfl ?_
  refine sv rfl (Ak rfl) (As (Aq (Aq (Ab (sv rfl (Ag rfl) (sv rfl (Az Aef rfl) (sv rfl (Ag rfl) (As (G5 ((List UInt8)) (fun b3 => [(6, .s (.one (.ls 0 b3.length)))]) (fun b3 => [.arr 5 1 0 (b3.flatMap eU8)]) (fun b3 => Kv b3 = some r) (fun _ _ => Be rfl) (fun _ _ => A0 rfl) (fun _ _ => Nat.le_of_ble_eq_true rfl) (fun b3 h => ?_) ?_)))))))))
  ·unfold Kv at h
   refine Aq (Ab (sv rfl (Ag rfl) (sv rfl (Ak rfl) (As (Bj ?_)))))
   obtain rfl := Option.some.inj h
   exact ⟨Or.inr rfl, _, [0], [.one (.ls 0 b3.length)], [.arr 5 1 0 (b3.flatMap eU8)], (Ad (Bd.tmp _ _ rfl) Af), rfl, rfl, ⟨by decide, rfl⟩, rfl, rfl, ⟨rfl, rfl⟩⟩
  ·skip
   refine B7 ?_
   obtain ⟨x4, hx4, ho4⟩ := An h
   refine Da (G := Nat × (Int × (List UInt8))) (fun g => [(6, .s (.one (.ls 0 g.2.2.length))), (25, .s (.one (.sl a0.length (a0.flatMap (eL eU8))))), (26, .s (.one (Ii6 (a0.length : Int)))), (27, .s (.one (Ii6 g.2.1)))]) (fun g => [.arr 5 1 0 (g.2.2.flatMap eU8)]) (fun g => E4 (Fg a0) g.1 g.2 = some x4) (fun g => g.1) (Di, (0, v2)) hx4 ⟨rfl, rfl, rfl, rfl, trivial⟩ [] rfl (fun _ _ => Be rfl) (fun _ _ => A0 rfl) (fun _ _ => Nat.le_of_ble_eq_true rfl) ?_
   clear hx4 h
   rintro ⟨n4, s4⟩ h
   obtain ⟨n4, y4, rfl, h, hk4⟩ := Gs h
   unfold Fg at h
   refine Aq (Ab (sv rfl (Cp rfl rfl) (As (Aq (ccI h rfl (fun h => ?_) (fun h => ?_))))))
   ·refine Bl (Ai (Aq (B7 (Aq (Ab ?_)))))
    obtain ⟨u5, hu5, h⟩ := An h
    refine sv rfl (Fe (f := (eL eU8)) Aef (fun _ => rfl) rfl rfl rfl rfl hu5) ?_
    refine sv rfl (Ae L4 rfl (.cp _) rfl) (sv rfl (Ak rfl) (As (Ab (sv rfl (Ag rfl) (sv rfl (Ag rfl) ?_)))))
    obtain ⟨hb6, h⟩ := D9 h
    refine Ahz (f := eU8) (xs := s4.2) (us := u5) rfl Tryz.underlying33 ei5 Asf (fun _ => rfl) rfl rfl (.one _ _ _ _ (.id _ rfl)) rfl rfl rfl (.sl _ _ _ (Bg (f := eU8) (fun _ => rfl) _)) rfl rfl hb6 (by decide) ?_
    refine sv rfl (Ak rfl) (Lz (A4 (Ai (Ab (sv rfl (B0 rfl rfl) (sv rfl (Ag rfl) (As ?_)))))))
    obtain rfl := Option.some.inj h
    exact ⟨(n4, ((wI (s4.1 + 1)), (s4.2 ++ u5))), _, hk4, ⟨rfl, rfl, rfl, rfl, trivial⟩, rfl, Nat.lt_succ_self _⟩
   ·refine Lj (Bi (Bi (Ck (Ai ?_))))
    obtain rfl := Option.some.inj h
    obtain rfl : _ = x4 := hk4
    exact ⟨s4.2, _, ho4, ⟨rfl, trivial⟩, rfl⟩
 ·skip
  refine B7 ?_
  obtain ⟨x8, hx8, ho8⟩ := An h
  refine Da (G := Nat × (Int × Int)) (fun g => [(0, .s (.one (.sl a0.length (a0.flatMap (eL eU8))))), (3, .s (.one (Ii6 g.2.1))), (9, .s (.one (.sl a0.length (a0.flatMap (eL eU8))))), (10, .s (.one (Ii6 (a0.length : Int)))), (11, .s (.one (Ii6 g.2.2)))]) (fun g => []) (fun g => E4 (Fo a0) g.1 g.2 = some x8) (fun g => g.1) (Di, (0, 0)) hx8 ⟨rfl, rfl, rfl, rfl, rfl, trivial⟩ [] rfl (fun _ _ => Be rfl) (fun _ _ => A0 rfl) (fun _ _ => Nat.le_of_ble_eq_true rfl) ?_
  clear hx8 h
  rintro ⟨n8, s8⟩ h
  obtain ⟨n8, y8, rfl, h, hk8⟩ := Gs h
  unfold Fo at h
  refine Aq (Ab (sv rfl (Cp rfl rfl) (As (Aq (ccI h rfl (fun h => ?_) (fun h => ?_))))))
  ·refine Bl (Ai (Aq (B7 (Aq (Ab ?_)))))
   obtain ⟨u9, hu9, h⟩ := An h
   refine sv rfl (Fe (f := (eL eU8)) Aef (fun _ => rfl) rfl rfl rfl rfl hu9) ?_
   refine sv rfl (Ae L4 rfl (.cp _) rfl) (sv rfl (Ak rfl) (As (Aq (Ab (sv rfl (Ag rfl) (sv rfl (Ag rfl) (sv rfl (Az Lh rfl) (sv rfl (B0 rfl rfl) (sv rfl (Ak rfl) (As (Aq (Ab (sv rfl (Ag rfl) (sv rfl (Cp rfl rfl) (As (ccI h rfl (fun h => ?_) (fun h => ?_)))))))))))))))))
   ·cases h
   ·refine Bl (A4 (Ai (Ab (sv rfl (B0 rfl rfl) (sv rfl (Ag rfl) (As ?_))))))
    obtain rfl := Option.some.inj h
    exact ⟨(n8, ((wI (s8.1 + (u9.length : Int))), (wI (s8.2 + 1)))), _, hk8, ⟨rfl, rfl, rfl, rfl, rfl, trivial⟩, rfl, Nat.lt_succ_self _⟩
  ·refine Lj (Bi (Bi (Ck (Ai ?_))))
   obtain rfl := Option.some.inj h
   obtain rfl : _ = x8 := hk8
   exact ⟨s8.1, _, ho8, ⟨rfl, rfl, trivial⟩, rfl⟩
def Oy (a0 : List UInt8) (b2 : (List UInt8)) : Option (List UInt8) :=
 (Eo [a0, b2]).bind fun v3 => some v3
def Nk (a1 : BitVec 64) (a2 : Int) (s4 : Int × (List UInt8)) : Option (LB (Int × (List UInt8)) ((List UInt8))) :=
 if (decide (s4.1 < ((List.replicate (if (if 8 < a2 then 8 else a2) > 0 then (if 8 < a2 then 8 else a2) else 0).toNat (0 : UInt8)).length : Int))) then (if 0 ≤ (wI (8 * s4.1)) then ((idx s4.2 s4.1).bind fun u6 => some (.cont ((wI (s4.1 + 1)), (s4.2.set s4.1.toNat (UInt8.ofBitVec ((a1 >>> (wI (8 * s4.1)).toNat).setWidth 8)))))) else none) else (some (.brk s4.2))
def Ei (a0 : List UInt8) (a1 : BitVec 64) (a2 : Int) : Option (List UInt8) :=
 if (0 : Int) ≤ (if (if 8 < a2 then 8 else a2) > 0 then (if 8 < a2 then 8 else a2) else 0) ∧ (if (if 8 < a2 then 8 else a2) > 0 then (if 8 < a2 then 8 else a2) else 0) ≤ (if (if 8 < a2 then 8 else a2) > 0 then (if 8 < a2 then 8 else a2) else 0) ∧ ((1 : Nat) : Int) * (if (if 8 < a2 then 8 else a2) > 0 then (if 8 < a2 then 8 else a2) else 0) ≤ 281474976710656 then ((E4 (Nk a1 a2) Di (0, (List.replicate (if (if 8 < a2 then 8 else a2) > 0 then (if 8 < a2 then 8 else a2) else 0).toNat (0 : UInt8)))).bind fun e7 => Oy a0 e7) else none
set_option maxRecDepth 100000 in
theorem El {a0 : List UInt8} {a1 : BitVec 64} {a2 : Int} {r : (List UInt8)} (h : Ei a0 a1 a2 = some r) : Bp Tryz.prog 40 [.one (.sl a0.length (a0.flatMap eU8)), .one (.i .u64 (a1.toNat : Int)), .one (Ii6 a2)] (· = .s (.one (.sl r.length (r.flatMap eU8)))) := by
 unfold Ei at h
 refine A1 Tryz.func40 rfl (nt := 32) rfl (Nbl rfl) ?_
 intro w0 S0
 refine Aq (Ab (sv rfl (Ak rfl) (As (Aq (Ab (sv rfl (Ag rfl) (sv rfl (Sw rfl rfl) (sv rfl (Afe rfl rfl) (sv rfl (Ak rfl) (As (Aq (Ab (sv rfl (Ag rfl) ?_)))))))))))))
 obtain ⟨hm1, h⟩ := D9 h
 refine smk (f := eU8) (z := (0 : UInt8)) rfl Tryz.underlying33 ei5 (fun _ => rfl) rfl rfl rfl hm1 (by decide) ?_
 refine sv rfl (Ak rfl) (As (Aq (Aq (Ab (sv rfl (Ag rfl) (sv rfl (Ads Lh rfl rfl (Bg (f := eU8) (fun _ => rfl) _).symm) ?_))))))
 refine sv rfl (Ag rfl) (As (G5 ((List UInt8)) (fun b2 => [(0, .s (.one (.sl a0.length (a0.flatMap eU8)))), (7, .s (.one (.ls 0 b2.length)))]) (fun b2 => [.arr 5 1 0 (b2.flatMap eU8)]) (fun b2 => Oy a0 b2 = some r) (fun _ _ => Be rfl) (fun _ _ => A0 rfl) (fun _ _ => Nat.le_of_ble_eq_true rfl) (fun b2 h => ?_) ?_))
 ·unfold Oy at h
  refine Aq (Ab (sv rfl (Ag rfl) (sv rfl (Ag rfl) ?_)))
  refine Aai 29 rfl (by (repeat' first | exact J5.nil _ | apply J5.cons | apply Jz.one | apply Jz.agg | exact E6.nil | exact E6.ls _ _ _ _ _ _ rfl (Bg (f := eU8) (fun _ => rfl) _).symm | exact E6.id _ rfl | exact D1.nil _ | apply D1.cons)) ?_
  refine S8 (out := ([a0, b2] : List (List UInt8)).flatMap (eL eU8)) rfl Tryz.underlying124 Anw (Ap rfl (Ap rfl Ba)) (.cons _ _ _ _ _ _ _ rfl rfl (Nbl rfl) (.cons _ _ _ _ _ _ _ rfl rfl (Nbl rfl) (.nil _))) rfl (by decide) ?_
  refine Aai 30 rfl (by (repeat' first | exact J5.nil _ | apply J5.cons | apply Jz.one | apply Jz.agg | exact E6.nil | exact E6.ls _ _ _ _ _ _ rfl (Bg (f := (eL eU8)) (fun _ => rfl) ([a0, b2] : List (List UInt8))).symm | exact E6.ls _ _ _ _ _ _ rfl (Bg (f := (eL eU8)) (fun _ => rfl) _).symm | exact E6.ls _ _ _ _ _ _ rfl (Bg (f := eU8) (fun _ => rfl) _).symm | exact E6.id _ rfl | exact D1.nil _ | apply D1.cons)) ?_
  obtain ⟨v3, hv3, h⟩ := An h
  refine C2 (x' := .s (.one (.ls 2 v3.length))) (M' := [.arr 5 1 (b2.flatMap eU8).length (b2.flatMap eU8), .arr 33 1 ([a0, b2].flatMap (eL eU8)).length ([a0, b2].flatMap (eL eU8)), .arr 5 1 0 (v3.flatMap eU8)]) [] rfl Aqn (.func _) (Ac rfl Al) (Iv hv3) rfl rfl (by decide) rfl rfl rfl ?_
  refine sv rfl (Ak rfl) (As (Bj ?_))
  obtain rfl := Option.some.inj h
  refine ⟨Or.inr rfl, _, _, _, (Ad (Bd.tmp _ _ rfl) Af), (by (repeat' first | exact J5.nil _ | apply J5.cons | apply Jz.one | apply Jz.agg | exact E6.nil | exact E6.ls _ _ _ _ _ _ rfl (Bg (f := (eL eU8)) (fun _ => rfl) _).symm | exact E6.ls _ _ _ _ _ _ rfl (Bg (f := eU8) (fun _ => rfl) _).symm | exact E6.id _ rfl | exact D1.nil _ | apply D1.cons)), ?_⟩
  rfl
 ·skip
  refine B7 ?_
  obtain ⟨x4, hx4, ho4⟩ := An h
  refine Da (G := Nat × (Int × (List UInt8))) (fun g => [(0, .s (.one (.sl a0.length (a0.flatMap eU8)))), (1, .s (.one (.i .u64 (a1.toNat : Int)))), (7, .s (.one (.ls 0 g.2.2.length))), (15, .s (.one (Ii6 ((List.replicate (if (if 8 < a2 then 8 else a2) > 0 then (if 8 < a2 then 8 else a2) else 0).toNat (0 : UInt8)).length : Int)))), (16, .s (.one (Ii6 g.2.1)))]) (fun g => [.arr 5 1 0 (g.2.2.flatMap eU8)]) (fun g => E4 (Nk a1 a2) g.1 g.2 = some x4) (fun g => g.1) (Di, (0, (List.replicate (if (if 8 < a2 then 8 else a2) > 0 then (if 8 < a2 then 8 else a2) else 0).toNat (0 : UInt8)))) hx4 ⟨rfl, rfl, rfl, rfl, rfl, trivial⟩ [] rfl (fun _ _ => Be rfl) (fun _ _ => A0 rfl) (fun _ _ => Nat.le_of_ble_eq_true rfl) ?_
  clear hx4 h
  rintro ⟨n4, s4⟩ h
  obtain ⟨n4, y4, rfl, h, hk4⟩ := Gs h
  unfold Nk at h
  refine Aq (Ab (sv rfl (Cp rfl rfl) (As (Aq (ccI h rfl (fun h => ?_) (fun h => ?_))))))
  ·refine Bl (Ai (Aq (B7 (Aq (Ab (sv rfl (Ag rfl) (sv rfl (Ak rfl) (As (Ab (sv rfl (Ag rfl) (sv rfl (Ag rfl) (sv rfl (Ag rfl) (sv rfl (Ag rfl) (sv rfl (X8 rfl rfl) ?_))))))))))))))
   obtain ⟨hz5, h⟩ := D9 h
   refine sv rfl (V8 (a := a1) rfl rfl rfl hz5) (sv rfl (N5 (k := .u64) (a := (a1 >>> (wI (8 * s4.1)).toNat)) rfl Tryz.underlying112 Tryz.underlying5 rfl rfl) ?_)
   obtain ⟨u6, hu6, h⟩ := An h
   refine sv rfl (Ana (f := eU8) Lh (fun _ => rfl) rfl rfl rfl rfl rfl hu6) ?_
   refine Arr (f := eU8) (u' := (UInt8.ofBitVec ((a1 >>> (wI (8 * s4.1)).toNat).setWidth 8))) (sz := 1) 0 sz5 (fun _ => rfl) rfl rfl rfl rfl rfl rfl rfl (List.all_eq_true.1 rfl) (Tv hu6).2 (Nbl rfl) rfl ?_
   refine Va 7 (y := .s (.one (.ls 0 s4.2.length))) (.s (.one (.ls 0 (s4.2.set s4.1.toNat (UInt8.ofBitVec ((a1 >>> (wI (8 * s4.1)).toNat).setWidth 8))).length))) rfl (congrArg (fun n => AV.s (.one (.ls 0 n))) List.length_set.symm) ?_
   refine Va 19 (y := .s (.one (.ls 0 s4.2.length))) (.s (.one (.ls 0 (s4.2.set s4.1.toNat (UInt8.ofBitVec ((a1 >>> (wI (8 * s4.1)).toNat).setWidth 8))).length))) rfl (congrArg (fun n => AV.s (.one (.ls 0 n))) List.length_set.symm) ?_
   refine Lz (A4 (Ai (Ab (sv rfl (B0 rfl rfl) (sv rfl (Ag rfl) (As ?_))))))
   obtain rfl := Option.some.inj h
   exact ⟨(n4, ((wI (s4.1 + 1)), (s4.2.set s4.1.toNat (UInt8.ofBitVec ((a1 >>> (wI (8 * s4.1)).toNat).setWidth 8))))), _, hk4, ⟨rfl, rfl, rfl, rfl, rfl, trivial⟩, rfl, Nat.lt_succ_self _⟩
  ·refine Lj (Bi (Bi (Ck (Ai ?_))))
   obtain rfl := Option.some.inj h
   obtain rfl : _ = x4 := hk4
   exact ⟨s4.2, _, ho4, ⟨rfl, rfl, trivial⟩, rfl⟩
def Pq (a0 : BitVec 32) : Option (BitVec 32) :=
 if (decide (((a0 &&& (1#32)).toNat : Int) = (1 : Int))) then (some ((a0 >>> (1 : Int).toNat) ^^^ (3988292384#32))) else (some (a0 >>> (1 : Int).toNat))
set_option maxRecDepth 100000 in
theorem We {a0 : BitVec 32} {r : (BitVec 32)} (h : Pq a0 = some r) : Bp Tryz.prog 126 [.one (.i .u32 (a0.toNat : Int))] (· = .s (.one (.i .u32 (r.toNat : Int)))) := by
 unfold Pq at h
 refine A1 Tryz.func126 rfl (nt := 11) rfl (Nbl rfl) ?_
 intro w0 S0
 refine Aq (Ab (sv rfl (Ak rfl) (As (Aq (Aq (Ab (sv rfl (Ag rfl) (sv rfl (Aba (a := a0) (b := 1#32) rfl rfl rfl rfl) (sv rfl (Bq rfl rfl) (As (ccI h rfl (fun h => ?_) (fun h => ?_))))))))))))
 ·refine Aq (Ab (sv rfl (Ag rfl) ?_))
  refine sv rfl (Sp (a := a0) rfl rfl rfl (by decide)) ?_
  refine sv rfl (Vv (a := (a0 >>> (1 : Int).toNat)) (b := 3988292384#32) rfl rfl rfl rfl) (sv rfl (Ak rfl) (As (Bj (Ar ?_))))
  obtain rfl := Option.some.inj h
  refine ⟨Or.inr rfl, _, _, _, (Ad (Bd.tmp _ _ rfl) Af), (Aj rfl), ?_⟩
  rfl
 ·refine Bl (Ai (Aq (Ab (sv rfl (Ag rfl) ?_))))
  refine sv rfl (Sp (a := a0) rfl rfl rfl (by decide)) ?_
  refine sv rfl (Ak rfl) (As (Bj ?_))
  obtain rfl := Option.some.inj h
  refine ⟨Or.inr rfl, _, _, _, (Ad (Bd.tmp _ _ rfl) Af), (Aj rfl), ?_⟩
  rfl
def M3 (b1 : (List (BitVec 32))) : Option (List (BitVec 32)) :=
 if b1.length = 256 then (if (List.replicate 256 0#32).length = 256 then (if b1.length = 256 then (if b1.length = 256 then (some b1) else none) else none) else none) else none
def M0 (s5 : Int × (List (BitVec 32))) (b6 : (BitVec 32)) : Option (LB (Int × (List (BitVec 32))) ((List (BitVec 32)))) :=
 if 0 ≤ s5.1 ∧ s5.1 < ((256 : Nat) : Int) then ((idx s5.2 s5.1).bind fun u8 => some (.cont ((wI (s5.1 + 1)), (s5.2.set s5.1.toNat b6)))) else none
def M7 (s9 : (BitVec 32) × Int) : Option (LB ((BitVec 32) × Int) ((BitVec 32))) :=
 if (decide (s9.2 < 8)) then ((Pq s9.1).bind fun v10 => some (.cont (v10, (wI (s9.2 + 1))))) else (some (.brk s9.1))
def M8 (s5 : Int × (List (BitVec 32))) : Option (LB (Int × (List (BitVec 32))) ((List (BitVec 32)))) :=
 if (decide (s5.1 < 256)) then ((E4 M7 Di ((BitVec.ofInt 32 s5.1), 0)).bind fun e11 => M0 s5 e11) else (some (.brk s5.2))
def Nc  : Option (List (BitVec 32)) :=
 (E4 M8 Di (0, (List.replicate 256 0#32))).bind fun e12 => M3 e12
set_option maxRecDepth 100000 in
theorem U7  {r : (List (BitVec 32))} (h : Nc = some r) : Bp Tryz.prog 111 [] (· = .s (.agg (r.flatMap Tu))) := by
 unfold Nc at h
 refine A1 Tryz.func111 rfl (nt := 19) rfl (Nbl rfl) ?_
 intro w0 S0
 refine Aq (Ab (Bz rfl Amo (As (Aq (Ab (Bz rfl Amo (As (Aq (Aq (Ab (sv rfl (Ag rfl) (As ?_))))))))))))
 refine G5 ((List (BitVec 32))) (fun b1 => [(0, .s (.one (.lp 0 0))), (1, .s (.one (.lp 1 0)))]) (fun b1 => [.box ((List.replicate 256 0#32).flatMap Tu), .box (b1.flatMap Tu)]) (fun b1 => M3 b1 = some r) (fun _ _ => Be rfl) (fun _ _ => A0 (by simp only [List.all_cons, List.all_nil, Blk.inbB, Lf.inbB, Lf.inb0, Bool.and_true, Bool.and_self, Bool.true_and, Rl (f := Tu) (fun _ _ => rfl)] <;> rfl)) (fun _ _ => Nat.le_of_ble_eq_true rfl) (fun b1 h => ?_) ?_
 ·unfold M3 at h
  refine Aq (Ab ?_)
  obtain ⟨hl2, h⟩ := D9 h
  refine sv rfl (Ahi (f := Tu) (n := 256) Aos (fun _ => rfl) rfl rfl rfl hl2) ?_
  obtain ⟨hl3, h⟩ := D9 h
  obtain ⟨hl4, h⟩ := D9 h
  refine Akh (f := Tu) (n := 256) Aol (fun _ => rfl) rfl rfl rfl rfl hl3 hl4 ?_
  refine Bs [.box (b1.flatMap Tu), .box (b1.flatMap Tu)] rfl (As (Bj ?_))
  obtain ⟨hlr, h⟩ := D9 h
  obtain rfl := Option.some.inj h
  refine ⟨Or.inr rfl, _, _, _, (Ad (Aii (f := Tu) (n := 256) (fun _ => rfl) Aos rfl rfl rfl hlr) Af), (Aj (by simp [List.all_cons, Amd (f := Tu) (fun _ => rfl), SV.cells])), ?_⟩
  rfl
 ·skip
  refine B7 ?_
  obtain ⟨x5, hx5, ho5⟩ := An h
  refine Da (G := Nat × (Int × (List (BitVec 32)))) (fun g => [(0, .s (.one (.lp 0 0))), (1, .s (.one (.lp 1 0))), (4, .s (.one (Ii6 g.2.1)))]) (fun g => [.box ((List.replicate 256 0#32).flatMap Tu), .box (g.2.2.flatMap Tu)]) (fun g => E4 M8 g.1 g.2 = some x5) (fun g => g.1) (Di, (0, (List.replicate 256 0#32))) hx5 ⟨rfl, rfl, rfl, trivial⟩ [] rfl (fun _ _ => Be rfl) (fun _ _ => A0 (by simp only [List.all_cons, List.all_nil, Blk.inbB, Lf.inbB, Lf.inb0, Bool.and_true, Bool.and_self, Bool.true_and, Rl (f := Tu) (fun _ _ => rfl)] <;> rfl)) (fun _ _ => Nat.le_of_ble_eq_true rfl) ?_
  clear hx5 h
  rintro ⟨n5, s5⟩ h
  obtain ⟨n5, y5, rfl, h, hk5⟩ := Gs h
  unfold M8 at h
  refine Aq (Ab (sv rfl (Cp rfl rfl) (As (Aq (ccI h rfl (fun h => ?_) (fun h => ?_))))))
  ·refine Bl (Ai (Aq (B7 (Aq (Ab (sv rfl (Ag rfl) (sv rfl (Ak rfl) (As (Aq (Ab (sv rfl (Ag rfl) (sv rfl (C3 rfl Tryz.underlying3 Tryz.underlying117 rfl) (sv rfl (Ak rfl) (As (Aq (Aq (Ab (sv rfl (Ag rfl) (As ?_)))))))))))))))))))
   refine G5 ((BitVec 32)) (fun b6 => [(0, .s (.one (.lp 0 0))), (1, .s (.one (.lp 1 0))), (2, .s (.one (Ii6 s5.1))), (3, .s (.one (.i .u32 (b6.toNat : Int)))), (4, .s (.one (Ii6 s5.1)))]) (fun b6 => [.box ((List.replicate 256 0#32).flatMap Tu), .box (s5.2.flatMap Tu)]) (fun b6 => M0 s5 b6 = some y5) (fun _ _ => Be rfl) (fun _ _ => A0 (by simp only [List.all_cons, List.all_nil, Blk.inbB, Lf.inbB, Lf.inb0, Bool.and_true, Bool.and_self, Bool.true_and, Rl (f := Tu) (fun _ _ => rfl)] <;> rfl)) (fun _ _ => Nat.le_of_ble_eq_true rfl) (fun b6 h => ?_) ?_
   ·unfold M0 at h
    refine Ab (sv rfl (Ag rfl) (sv rfl (Ag rfl) ?_))
    obtain ⟨hj7, h⟩ := D9 h
    obtain ⟨u8, hu8, h⟩ := An h
    refine sv rfl (Adc Apx rfl rfl hj7) (As8 (f := Tu) (u' := b6) 0 An1 (fun _ => rfl) rfl rfl rfl rfl rfl (Tv hu8).2 (Nbl rfl) rfl ?_)
    refine Bs [.box ((List.replicate 256 0#32).flatMap Tu), .box ((s5.2.set s5.1.toNat b6).flatMap Tu)] rfl (Lz (A4 (Ai (Ab (sv rfl (B0 rfl rfl) (sv rfl (Ag rfl) (As ?_)))))))
    obtain rfl := Option.some.inj h
    exact ⟨(n5, ((wI (s5.1 + 1)), (s5.2.set s5.1.toNat b6))), _, hk5, ⟨rfl, rfl, rfl, trivial⟩, rfl, Nat.lt_succ_self _⟩
   ·skip
    refine B7 ?_
    obtain ⟨x9, hx9, ho9⟩ := An h
    refine Da (G := Nat × ((BitVec 32) × Int)) (fun g => [(0, .s (.one (.lp 0 0))), (1, .s (.one (.lp 1 0))), (2, .s (.one (Ii6 s5.1))), (3, .s (.one (.i .u32 (g.2.1.toNat : Int)))), (4, .s (.one (Ii6 s5.1))), (9, .s (.one (Ii6 g.2.2)))]) (fun g => [.box ((List.replicate 256 0#32).flatMap Tu), .box (s5.2.flatMap Tu)]) (fun g => E4 M7 g.1 g.2 = some x9) (fun g => g.1) (Di, ((BitVec.ofInt 32 s5.1), 0)) hx9 ⟨rfl, rfl, rfl, rfl, rfl, rfl, trivial⟩ [] rfl (fun _ _ => Be rfl) (fun _ _ => A0 (by simp only [List.all_cons, List.all_nil, Blk.inbB, Lf.inbB, Lf.inb0, Bool.and_true, Bool.and_self, Bool.true_and, Rl (f := Tu) (fun _ _ => rfl)] <;> rfl)) (fun _ _ => Nat.le_of_ble_eq_true rfl) ?_
    clear hx9 h
    rintro ⟨n9, s9⟩ h
    obtain ⟨n9, y9, rfl, h, hk9⟩ := Gs h
    unfold M7 at h
    refine Aq (Ab (sv rfl (Cp rfl rfl) (As (Aq (ccI h rfl (fun h => ?_) (fun h => ?_))))))
    ·refine Bl (Ai (Aq (B7 (Ab (sv rfl (Ag rfl) ?_)))))
     obtain ⟨v10, hv10, h⟩ := An h
     refine A2 rfl Ar3 (Ac rfl Al) (Aj rfl) (We hv10) (sv rfl (Ak rfl) (Lz (A4 (Ai (Ab (sv rfl (B0 rfl rfl) (sv rfl (Ag rfl) (As ?_))))))))
     obtain rfl := Option.some.inj h
     exact ⟨(n9, (v10, (wI (s9.2 + 1)))), _, hk9, ⟨rfl, rfl, rfl, rfl, rfl, rfl, trivial⟩, rfl, Nat.lt_succ_self _⟩
    ·refine Lj (Bi (Bi (Ck (Ai ?_))))
     obtain rfl := Option.some.inj h
     obtain rfl : _ = x9 := hk9
     exact ⟨s9.1, _, ho9, ⟨rfl, rfl, rfl, rfl, rfl, trivial⟩, rfl⟩
  ·refine Lj (Bi (Bi (Ck (Ai ?_))))
   obtain rfl := Option.some.inj h
   obtain rfl : _ = x5 := hk5
   exact ⟨s5.2, _, ho5, ⟨rfl, rfl, trivial⟩, rfl⟩
def Og (b4 : (BitVec 32)) : Option (BitVec 32) :=
 some (~~~b4)
def Jc (a1 : List UInt8) (v1 : (List (BitVec 32))) (s5 : (BitVec 32) × Int) : Option (LB ((BitVec 32) × Int) ((BitVec 32))) :=
 if (decide (s5.2 < (a1.length : Int))) then ((idx a1 s5.2).bind fun u6 => if 0 ≤ (((s5.1.setWidth 8) ^^^ u6.toBitVec).toNat : Int) ∧ (((s5.1.setWidth 8) ^^^ u6.toBitVec).toNat : Int) < ((256 : Nat) : Int) then ((idx v1 (((s5.1.setWidth 8) ^^^ u6.toBitVec).toNat : Int)).bind fun u8 => some (.cont (((s5.1 >>> (8 : Int).toNat) ^^^ u8), (wI (s5.2 + 1))))) else none) else (some (.brk s5.1))
def Mi (a0 : BitVec 32) (a1 : List UInt8) : Option (BitVec 32) :=
 (Nc).bind fun v1 => if (List.replicate 256 0#32).length = 256 then (if v1.length = 256 then ((E4 (Jc a1 v1) Di ((~~~a0), 0)).bind fun e9 => Og e9) else none) else none
set_option maxRecDepth 100000 in
theorem Sa {a0 : BitVec 32} {a1 : List UInt8} {r : (BitVec 32)} (h : Mi a0 a1 = some r) : Bp Tryz.prog 90 [.one (.i .u32 (a0.toNat : Int)), .one (.sl a1.length (a1.flatMap eU8))] (· = .s (.one (.i .u32 (r.toNat : Int)))) := by
 unfold Mi at h
 refine A1 Tryz.func90 rfl (nt := 29) rfl (Nbl rfl) ?_
 intro w0 S0
 refine Aq (Ab (sv rfl (Ak rfl) (As (Aq (Ab ?_)))))
 obtain ⟨v1, hv1, h⟩ := An h
 refine A2 rfl Ard Al (Aj rfl) (U7 hv1) (Bz rfl Amo ?_)
 obtain ⟨hl2, h⟩ := D9 h
 obtain ⟨hl3, h⟩ := D9 h
 refine Akh (f := Tu) (n := 256) Aol (fun _ => rfl) rfl rfl rfl rfl hl2 hl3 ?_
 refine Bs [.box (v1.flatMap Tu)] rfl (As (Aq (Ab (sv rfl (Ag rfl) (sv rfl (Ti (a := a0) rfl rfl) (sv rfl (Ak rfl) (As (Aq (Aq (Ab (sv rfl (Ag rfl) (sv rfl (Az Lh rfl) (sv rfl (Ag rfl) (As ?_))))))))))))))
 refine G5 ((BitVec 32)) (fun b4 => [(0, .s (.one (.i .u32 (b4.toNat : Int))))]) (fun b4 => [.box (v1.flatMap Tu)]) (fun b4 => Og b4 = some r) (fun _ _ => Be rfl) (fun _ _ => A0 (by simp only [List.all_cons, List.all_nil, Blk.inbB, Lf.inbB, Lf.inb0, Bool.and_true, Bool.and_self, Bool.true_and, Rl (f := Tu) (fun _ _ => rfl)] <;> rfl)) (fun _ _ => Nat.le_of_ble_eq_true rfl) (fun b4 h => ?_) ?_
 ·unfold Og at h
  refine Aq (Ab (sv rfl (Ag rfl) (sv rfl (Ti (a := b4) rfl rfl) (sv rfl (Ak rfl) (As (Bj ?_))))))
  obtain rfl := Option.some.inj h
  refine ⟨Or.inr rfl, _, _, _, (Ad (Bd.tmp _ _ rfl) Af), (Aj rfl), ?_⟩
  rfl
 ·skip
  refine B7 ?_
  obtain ⟨x5, hx5, ho5⟩ := An h
  refine Da (G := Nat × ((BitVec 32) × Int)) (fun g => [(0, .s (.one (.i .u32 (g.2.1.toNat : Int)))), (5, .s (.one (.lp 0 0))), (11, .s (.one (.sl a1.length (a1.flatMap eU8)))), (12, .s (.one (Ii6 (a1.length : Int)))), (13, .s (.one (Ii6 g.2.2)))]) (fun g => [.box (v1.flatMap Tu)]) (fun g => E4 (Jc a1 v1) g.1 g.2 = some x5) (fun g => g.1) (Di, ((~~~a0), 0)) hx5 ⟨rfl, rfl, rfl, rfl, rfl, trivial⟩ [] rfl (fun _ _ => Be rfl) (fun _ _ => A0 (by simp only [List.all_cons, List.all_nil, Blk.inbB, Lf.inbB, Lf.inb0, Bool.and_true, Bool.and_self, Bool.true_and, Rl (f := Tu) (fun _ _ => rfl)] <;> rfl)) (fun _ _ => Nat.le_of_ble_eq_true rfl) ?_
  clear hx5 h
  rintro ⟨n5, s5⟩ h
  obtain ⟨n5, y5, rfl, h, hk5⟩ := Gs h
  unfold Jc at h
  refine Aq (Ab (sv rfl (Cp rfl rfl) (As (Aq (ccI h rfl (fun h => ?_) (fun h => ?_))))))
  ·refine Bl (Ai (Aq (B7 (Aq (Ab ?_)))))
   obtain ⟨u6, hu6, h⟩ := An h
   refine sv rfl (Fe (f := eU8) Lh (fun _ => rfl) rfl rfl rfl rfl hu6) ?_
   refine sv rfl (Ae ti5 rfl (.cp _) rfl) (sv rfl (Ak rfl) (As (Ab (sv rfl (Ag rfl) ?_))))
   refine sv rfl (Sp (a := s5.1) rfl rfl rfl (by decide)) ?_
   refine sv rfl (Ag rfl) (sv rfl (N5 (k := .u32) (a := s5.1) rfl Tryz.underlying117 Tryz.underlying5 rfl rfl) (sv rfl (Ag rfl) (sv rfl (Aee (a := (s5.1.setWidth 8)) (b := u6.toBitVec) rfl rfl rfl rfl) ?_)))
   obtain ⟨hj7, h⟩ := D9 h
   obtain ⟨u8, hu8, h⟩ := An h
   refine sv rfl (Adc Apx rfl rfl hj7) (sv rfl (Aib (f := Tu) 0 Anc (fun _ => rfl) rfl rfl rfl (Tv hu8).2 rfl) ?_)
   refine sv rfl (Vv (a := (s5.1 >>> (8 : Int).toNat)) (b := u8) rfl rfl rfl rfl) (sv rfl (Ak rfl) (Lz (A4 (Ai (Ab (sv rfl (B0 rfl rfl) (sv rfl (Ag rfl) (As ?_))))))))
   obtain rfl := Option.some.inj h
   exact ⟨(n5, (((s5.1 >>> (8 : Int).toNat) ^^^ u8), (wI (s5.2 + 1)))), _, hk5, ⟨rfl, rfl, rfl, rfl, rfl, trivial⟩, rfl, Nat.lt_succ_self _⟩
  ·refine Lj (Bi (Bi (Ck (Ai ?_))))
   obtain rfl := Option.some.inj h
   obtain rfl : _ = x5 := hk5
   exact ⟨s5.1, _, ho5, ⟨rfl, trivial⟩, rfl⟩
def Pj (a0 : List UInt8) : Option (BitVec 32) :=
 (Mi (0#32) a0).bind fun v1 => some v1
set_option maxRecDepth 100000 in
theorem Zu {a0 : List UInt8} {r : (BitVec 32)} (h : Pj a0 = some r) : Bp Tryz.prog 91 [.one (.sl a0.length (a0.flatMap eU8))] (· = .s (.one (.i .u32 (r.toNat : Int)))) := by
 unfold Pj at h
 refine A1 Tryz.func91 rfl (nt := 5) rfl (Nbl rfl) ?_
 intro w0 S0
 refine Aq (Ab (sv rfl (Ak rfl) (As (Aq (Ab (sv rfl (Ag rfl) ?_))))))
 obtain ⟨v1, hv1, h⟩ := An h
 refine A2 rfl Atx (Ac rfl (Ac rfl Al)) (Aj rfl) (Sa hv1) (sv rfl (Ak rfl) (As (Bj ?_)))
 obtain rfl := Option.some.inj h
 refine ⟨Or.inr rfl, _, _, _, (Ad (Bd.tmp _ _ rfl) Af), (Aj rfl), ?_⟩
 rfl
def I8 (a0 : List UInt8) : Option (BitVec 32) :=
 (Ei ([] : List UInt8) (BitVec.ofInt 64 (a0.length : Int)) 2).bind fun v1 => (Pj v1).bind fun v2 => (Mi v2 a0).bind fun v3 => some v3
set_option maxRecDepth 100000 in
theorem Pl {a0 : List UInt8} {r : (BitVec 32)} (h : I8 a0 = some r) : Bp Tryz.prog 74 [.one (.sl a0.length (a0.flatMap eU8))] (· = .s (.one (.i .u32 (r.toNat : Int)))) := by
 unfold I8 at h
 refine A1 Tryz.func74 rfl (nt := 12) rfl (Nbl rfl) ?_
 intro w0 S0
 refine Aq (Ab (sv rfl (Ak rfl) (As (Aq (Ab (sv rfl (Ag rfl) (sv rfl (Az Lh rfl) (sv rfl (C3 rfl Tryz.underlying3 Tryz.underlying112 rfl) ?_))))))))
 obtain ⟨v1, hv1, h⟩ := An h
 refine A2 rfl Aaz (Ac rfl (Ac rfl (Ac rfl Al))) (Np rfl) (El hv1) (sv rfl (Ak rfl) (As (Aq (Ab (sv rfl (Ag rfl) ?_)))))
 obtain ⟨v2, hv2, h⟩ := An h
 refine A2 rfl Avp (Ac rfl Al) (Aj rfl) (Zu hv2) (sv rfl (Ag rfl) ?_)
 obtain ⟨v3, hv3, h⟩ := An h
 refine A2 rfl Atx (Ac rfl (Ac rfl Al)) (Aj rfl) (Sa hv3) (sv rfl (Ak rfl) (As (Bj ?_)))
 obtain rfl := Option.some.inj h
 refine ⟨Or.inr rfl, _, _, _, (Ad (Bd.tmp _ _ rfl) Af), (Aj rfl), ?_⟩
 rfl
def Lb (a0 : List UInt8) (v2 : (BitVec 64) × Int × Int) (v3 : (BitVec 64) × Int × Int) (b4 : Unit) : Option (Gh × Int) :=
 (cut a0 6 (wI (6 + (wI (v2.1.toNat : Int))))).bind fun c5 => (I8 c5).bind fun v6 => if (!decide (((v3.1.setWidth 32).toNat : Int) = (v6.toNat : Int))) then (some ((Gh.mk (Lc.mk 0 (0#32)) ([] : List UInt8)), 4)) else (some ((Gh.mk (Lc.mk (wI (v2.1.toNat : Int)) (v3.1.setWidth 32)) c5), 0))
def L0 (a0 : List UInt8) : Option (Gh × Int) :=
 (Jf a0).bind fun v1 => (A3 2 v1.1 v1.2.1 v1.2.2).bind fun v2 => if (decide (512 < (wI (v2.1.toNat : Int)))) then (some ((Gh.mk (Lc.mk 0 (0#32)) ([] : List UInt8)), 5)) else ((A3 4 v2.2.1 v2.2.2 v1.2.2).bind fun v3 => (Br v3.2.1 v3.2.2 v1.2.2).bind fun v7 => if (!decide (v7 = 0)) then (some ((Gh.mk (Lc.mk 0 (0#32)) ([] : List UInt8)), 2)) else (if (decide ((a0.length : Int) < (wI (6 + (wI (v2.1.toNat : Int)))))) then (some ((Gh.mk (Lc.mk 0 (0#32)) ([] : List UInt8)), 2)) else (Lb a0 v2 v3 ())))
set_option maxRecDepth 100000 in
theorem Vi {a0 : List UInt8} {r : Gh × Int} (h : L0 a0 = some r) : Bp Tryz.prog 84 [.one (.sl a0.length (a0.flatMap eU8))] (· = .tup [.agg (EL.el r.1), .one (Ii6 r.2)]) := by
 unfold L0 at h
 refine A1 Tryz.func84 rfl (nt := 53) rfl (Nbl rfl) ?_
 intro w0 S0
 refine Aq (Ab (Bz rfl Ww (sv rfl (Ak rfl) (As (Aq (Ab (sv rfl (Ag rfl) ?_)))))))
 obtain ⟨v1, hv1, h⟩ := An h
 refine C2 (x' := .s (.one (.lp 1 0))) (M' := [.box [Ii6 0, .i .u32 ((0#32).toNat : Int), Znl], .box [.fn 112 [] [.lp 2 0, .lp 3 0], Ii6 v1.1], .box [Ii6 v1.2.1], .box [.sl v1.2.2.length (v1.2.2.flatMap eU8)]]) [] rfl As0 (.func _) (Ac rfl Al) (O3 hv1) rfl rfl (by decide) rfl rfl rfl ?_
 refine sv rfl (Ak rfl) (As (Aq (Ab (sv rfl (Bk Ww Adt Ba (.nil _)) (Bz rfl Ww (Ax Yw rfl rfl rfl rfl (Nbl rfl) (Bs [.box [Ii6 0, .i .u32 ((0#32).toNat : Int), Znl], .box [.fn 112 [] [.lp 2 0, .lp 3 0], Ii6 v1.1], .box [Ii6 v1.2.1], .box [.sl v1.2.2.length (v1.2.2.flatMap eU8)], .box [Ii6 0, .i .u32 ((0#32).toNat : Int), Znl]] rfl (As (Aq (Ab (sv rfl (Ag rfl) ?_)))))))))))
 obtain ⟨v2, hv2, h⟩ := An h
 refine C2 (x' := .s (.one (.i .u64 (v2.1.toNat : Int)))) (M' := [.box [Ii6 0, .i .u32 ((0#32).toNat : Int), Znl], .box [.fn 112 [] [.lp 2 0, .lp 3 0], Ii6 v2.2.1], .box [Ii6 v2.2.2], .box [.sl v1.2.2.length (v1.2.2.flatMap eU8)], .box [Ii6 0, .i .u32 ((0#32).toNat : Int), Znl]]) [1, 2, 3] rfl Ah5 (.func _) (Ac rfl (Ac rfl Al)) (Cz hv2) rfl rfl (by decide) rfl rfl rfl ?_
 refine sv rfl (F0 Tryz.underlying112 Tryz.underlying3 rfl) (sv rfl (Aa Pw rfl) (sv rfl (Aa Uc rfl) (Ax sz3 rfl rfl rfl rfl (Nbl rfl) (Bs [.box [Ii6 0, .i .u32 ((0#32).toNat : Int), Znl], .box [.fn 112 [] [.lp 2 0, .lp 3 0], Ii6 v2.2.1], .box [Ii6 v2.2.2], .box [.sl v1.2.2.length (v1.2.2.flatMap eU8)], .box [Ii6 (wI (v2.1.toNat : Int)), .i .u32 ((0#32).toNat : Int), Znl]] rfl (As (Aq (Aq (Ab (sv rfl (Aa Pw rfl) (sv rfl (Aa Uc rfl) (sv rfl (Ae ti3 rfl (.lp _ _ _ rfl) rfl) (sv rfl (C6 rfl rfl) (As (ccI h rfl (fun h => ?_) (fun h => ?_)))))))))))))))
 ·refine Aq (Ab (sv rfl (Bk Ww Adt Ba (.nil _)) (Ax Yw rfl rfl rfl rfl (Nbl rfl) (Bs [.box [Ii6 0, .i .u32 ((0#32).toNat : Int), Znl], .box [.fn 112 [] [.lp 2 0, .lp 3 0], Ii6 v2.2.1], .box [Ii6 v2.2.2], .box [.sl v1.2.2.length (v1.2.2.flatMap eU8)], .box [Ii6 (wI (v2.1.toNat : Int)), .i .u32 ((0#32).toNat : Int), Znl]] rfl (sv rfl (Ak rfl) (As (Bj (Ar ?_))))))))
  obtain rfl := Option.some.inj h
  refine ⟨Or.inr rfl, _, _, _, (Ad (Bd.agg _ _ _ _ _ Abe rfl (.lp _ _ _ rfl) (Nbl rfl)) (Ad (Bd.tmp _ _ rfl) Af)), (Np rfl), ?_⟩
  rfl
 ·refine Bl (Ai (Aq (Ab (sv rfl (Ag rfl) ?_))))
  obtain ⟨v3, hv3, h⟩ := An h
  refine C2 (x' := .s (.one (.i .u64 (v3.1.toNat : Int)))) (M' := [.box [Ii6 0, .i .u32 ((0#32).toNat : Int), Znl], .box [.fn 112 [] [.lp 2 0, .lp 3 0], Ii6 v3.2.1], .box [Ii6 v3.2.2], .box [.sl v1.2.2.length (v1.2.2.flatMap eU8)], .box [Ii6 (wI (v2.1.toNat : Int)), .i .u32 ((0#32).toNat : Int), Znl]]) [1, 2, 3] rfl Ah5 (.func _) (Ac rfl (Ac rfl Al)) (Cz hv3) rfl rfl (by decide) rfl rfl rfl ?_
  refine sv rfl (N5 (k := .u64) (a := v3.1) rfl Tryz.underlying112 Tryz.underlying117 rfl rfl) (sv rfl (Aa Pw rfl) (sv rfl (Aa Abb rfl) (Ax An1 rfl rfl rfl rfl (Nbl rfl) (Bs [.box [Ii6 0, .i .u32 ((0#32).toNat : Int), Znl], .box [.fn 112 [] [.lp 2 0, .lp 3 0], Ii6 v3.2.1], .box [Ii6 v3.2.2], .box [.sl v1.2.2.length (v1.2.2.flatMap eU8)], .box [Ii6 (wI (v2.1.toNat : Int)), .i .u32 ((v3.1.setWidth 32).toNat : Int), Znl]] rfl (As (Aq (Aq (Ki (Unit) (fun b4 => [(0, .s (.one (.sl a0.length (a0.flatMap eU8)))), (2, .s (.one (.lp 0 0))), (5, .s (.one (.lp 4 0)))]) (fun b4 => [.box [Ii6 0, .i .u32 ((0#32).toNat : Int), Znl], .box [.fn 112 [] [.lp 2 0, .lp 3 0], Ii6 v3.2.1], .box [Ii6 v3.2.2], .box [.sl v1.2.2.length (v1.2.2.flatMap eU8)], .box [Ii6 (wI (v2.1.toNat : Int)), .i .u32 ((v3.1.setWidth 32).toNat : Int), Znl]]) (fun b4 => Lb a0 v2 v3 b4 = some r) (fun _ _ => Be rfl) (fun _ _ => A0 rfl) (fun _ _ => Nat.le_of_ble_eq_true rfl) (fun b4 h => ?_) ?_))))))))
  ·unfold Lb at h
   refine Aq (Ab (sv rfl (Ag rfl) (sv rfl (Aa Pw rfl) (sv rfl (Aa Uc rfl) (sv rfl (Ae ti3 rfl (.lp _ _ _ rfl) rfl) (sv rfl (B0 rfl rfl) ?_))))))
   obtain ⟨c5, hc5, h⟩ := An h
   refine sv rfl (Sl (f := eU8) (lo := 6) (hi := (wI (6 + (wI (v2.1.toNat : Int))))) Lh (fun _ => rfl) rfl rfl rfl (Hn rfl (Ks hc5).1.1) (Hn rfl (Int.le_trans (Ks hc5).1.1 (Ks hc5).1.2.1)) hc5) ?_
   refine sv rfl (Aa Yx rfl) (Ax Aot rfl rfl rfl rfl (Nbl rfl) (Bs [.box [Ii6 0, .i .u32 ((0#32).toNat : Int), Znl], .box [.fn 112 [] [.lp 2 0, .lp 3 0], Ii6 v3.2.1], .box [Ii6 v3.2.2], .box [.sl v1.2.2.length (v1.2.2.flatMap eU8)], .box [Ii6 (wI (v2.1.toNat : Int)), .i .u32 ((v3.1.setWidth 32).toNat : Int), .sl c5.length (c5.flatMap eU8)]] rfl (As (Aq (Aq ?_)))))
   refine Ae6 Ma (by kernel_rfl) ?_
   refine dv rfl (Aa Pw rfl) (dv rfl (Aa Abb rfl) (dv rfl (Ae Anc rfl (.lp _ _ _ rfl) rfl) (dv rfl (Aa Yx rfl) (dv rfl (Ae L4 rfl (.lp _ _ _ rfl) rfl) ?_))))
   obtain ⟨v6, hv6, h⟩ := An h
   refine dd rfl (D2 Auh (Ac rfl Al) rfl (Pl hv6)) (dv rfl (Cd rfl rfl) (Afb (Ai (ccI h rfl (fun h => ?_) (fun h => ?_)))))
   ·refine Aq (Ab (sv rfl (Bk Ww Adt Ba (.nil _)) (Ax Yw rfl rfl rfl rfl (Nbl rfl) (Bs [.box [Ii6 0, .i .u32 ((0#32).toNat : Int), Znl], .box [.fn 112 [] [.lp 2 0, .lp 3 0], Ii6 v3.2.1], .box [Ii6 v3.2.2], .box [.sl v1.2.2.length (v1.2.2.flatMap eU8)], .box [Ii6 (wI (v2.1.toNat : Int)), .i .u32 ((v3.1.setWidth 32).toNat : Int), .sl c5.length (c5.flatMap eU8)]] rfl (sv rfl (Ak rfl) (As (Bj (Ar ?_))))))))
    obtain rfl := Option.some.inj h
    refine ⟨Or.inr rfl, _, _, _, (Ad (Bd.agg _ _ _ _ _ Abe rfl (.lp _ _ _ rfl) (Nbl rfl)) (Ad (Bd.tmp _ _ rfl) Af)), (Np rfl), ?_⟩
    rfl
   ·refine Bl (Ai (Aq (Ab (sv rfl (Ao Abe rfl (.lp _ _ _ rfl) (Nbl rfl)) (Ax Yw rfl rfl rfl rfl (Nbl rfl) (Bs [.box [Ii6 (wI (v2.1.toNat : Int)), .i .u32 ((v3.1.setWidth 32).toNat : Int), .sl c5.length (c5.flatMap eU8)], .box [.fn 112 [] [.lp 2 0, .lp 3 0], Ii6 v3.2.1], .box [Ii6 v3.2.2], .box [.sl v1.2.2.length (v1.2.2.flatMap eU8)], .box [Ii6 (wI (v2.1.toNat : Int)), .i .u32 ((v3.1.setWidth 32).toNat : Int), .sl c5.length (c5.flatMap eU8)]] rfl (sv rfl (Ak rfl) (As (Bj ?_)))))))))
    obtain rfl := Option.some.inj h
    refine ⟨Or.inr rfl, _, _, _, (Ad (Bd.agg _ _ _ _ _ Abe rfl (.lp _ _ _ rfl) (Nbl rfl)) (Ad (Bd.tmp _ _ rfl) Af)), (Aj rfl), ?_⟩
    rfl
  ·skip
   refine Ab (sv rfl (Ag rfl) ?_)
   obtain ⟨v7, hv7, h⟩ := An h
   refine C2 (x' := .s (.one (Ii6 v7))) (M' := [.box [Ii6 0, .i .u32 ((0#32).toNat : Int), Znl], .box [.fn 112 [] [.lp 2 0, .lp 3 0], Ii6 v3.2.1], .box [Ii6 v3.2.2], .box [.sl v1.2.2.length (v1.2.2.flatMap eU8)], .box [Ii6 (wI (v2.1.toNat : Int)), .i .u32 ((v3.1.setWidth 32).toNat : Int), Znl]]) [1, 2, 3] rfl Aij (.func _) (Ac rfl Al) (H2 hv7) rfl rfl (by decide) rfl rfl rfl ?_
   refine sv rfl (Cd rfl rfl) (sv rfl (Ag rfl) (Bo 27 rfl (fun hc => ?_) (fun hc => ?_)))
   ·replace h := B2 hc h
    clear hc
    refine Av rfl rfl rfl rfl (Av rfl rfl rfl rfl (Av rfl rfl rfl rfl (Av rfl rfl rfl rfl (Av rfl rfl rfl rfl (Av rfl rfl rfl rfl (Av rfl rfl rfl rfl (sv rfl (Au rfl rfl) (As (G0 rfl (fun _ => ?_) (fun hx => Bool.noConfusion hx))))))))))
    refine Aq (Ab (sv rfl (Bk Ww Adt Ba (.nil _)) (Ax Yw rfl rfl rfl rfl (Nbl rfl) (Bs [.box [Ii6 0, .i .u32 ((0#32).toNat : Int), Znl], .box [.fn 112 [] [.lp 2 0, .lp 3 0], Ii6 v3.2.1], .box [Ii6 v3.2.2], .box [.sl v1.2.2.length (v1.2.2.flatMap eU8)], .box [Ii6 (wI (v2.1.toNat : Int)), .i .u32 ((v3.1.setWidth 32).toNat : Int), Znl]] rfl (sv rfl (Ak rfl) (As (Bj (Ar ?_))))))))
    obtain rfl := Option.some.inj h
    refine ⟨Or.inr rfl, _, _, _, (Ad (Bd.agg _ _ _ _ _ Abe rfl (.lp _ _ _ rfl) (Nbl rfl)) (Ad (Bd.tmp _ _ rfl) Af)), (Np rfl), ?_⟩
    rfl
   ·replace h := B1 hc h
    clear hc
    refine son rfl rfl rfl (sv rfl (Ag rfl) (son rfl rfl rfl (sv rfl (Az Lh rfl) (son rfl rfl rfl (sv rfl (Aa Pw rfl) (son rfl rfl rfl (sv rfl (Aa Uc rfl) (son rfl rfl rfl (sv rfl (Ae ti3 rfl (.lp _ _ _ rfl) rfl) (son rfl rfl rfl (sv rfl (B0 rfl rfl) (son rfl rfl rfl (sv rfl (Cp rfl rfl) (sv rfl (Am rfl rfl) (As (ccI h rfl (fun h => ?_) (fun h => ?_)))))))))))))))))
    ·refine Aq (Ab (sv rfl (Bk Ww Adt Ba (.nil _)) (Ax Yw rfl rfl rfl rfl (Nbl rfl) (Bs [.box [Ii6 0, .i .u32 ((0#32).toNat : Int), Znl], .box [.fn 112 [] [.lp 2 0, .lp 3 0], Ii6 v3.2.1], .box [Ii6 v3.2.2], .box [.sl v1.2.2.length (v1.2.2.flatMap eU8)], .box [Ii6 (wI (v2.1.toNat : Int)), .i .u32 ((v3.1.setWidth 32).toNat : Int), Znl]] rfl (sv rfl (Ak rfl) (As (Bj (Ar ?_))))))))
     obtain rfl := Option.some.inj h
     refine ⟨Or.inr rfl, _, _, _, (Ad (Bd.agg _ _ _ _ _ Abe rfl (.lp _ _ _ rfl) (Nbl rfl)) (Ad (Bd.tmp _ _ rfl) Af)), (Np rfl), ?_⟩
     rfl
    ·refine Bl (Ai ?_)
     exact ⟨(), _, h, ⟨rfl, rfl, rfl, trivial⟩, rfl⟩
def Jv (a0 : List UInt8) : Option (List UInt8) :=
 if (([] : List UInt8).length + a0.length) * 1 ≤ 140737488355328 then (some (([] : List UInt8) ++ a0)) else none
set_option maxRecDepth 100000 in
theorem T3 {a0 : List UInt8} {r : (List UInt8)} (h : Jv a0 = some r) : Bp Tryz.prog 85 [.one (.sl a0.length (a0.flatMap eU8))] (· = .s (.one (.sl r.length (r.flatMap eU8)))) := by
 unfold Jv at h
 refine A1 Tryz.func85 rfl (nt := 8) rfl (Nbl rfl) ?_
 intro w0 S0
 refine Aq (Ab (sv rfl (Ak rfl) (As (Aq (Aq (Ab (sv rfl (Ag rfl) (Amb rfl Tryz.underlying33 rfl (fun nq hnq => ?_)))))))))
 cases nq
 ·skip
  refine As (G0 rfl (fun hx => Bool.noConfusion hx) (fun _ => ?_))
  refine Bl (Ai (Aq (Ab (Abk rfl Tryz.underlying33 ei5 (sv rfl (Ag rfl) ?_)))))
  obtain ⟨hb1, h⟩ := D9 h
  refine Ahz (f := eU8) (xs := ([] : List UInt8)) (us := a0) rfl Tryz.underlying33 ei5 Asf (fun _ => rfl) rfl rfl (.one _ _ _ _ (.id _ rfl)) rfl rfl rfl (.sl _ _ _ (Bg (f := eU8) (fun _ => rfl) _)) rfl rfl hb1 (by decide) ?_
  refine sv rfl (Ak rfl) (As (Bj ?_))
  obtain rfl := Option.some.inj h
  refine ⟨Or.inr rfl, _, _, _, (Ad (Bd.tmp _ _ rfl) Af), (by (repeat' first | exact J5.nil _ | apply J5.cons | apply Jz.one | apply Jz.agg | exact E6.nil | exact E6.ls _ _ _ _ _ _ rfl (Bg (f := eU8) (fun _ => rfl) _).symm | exact E6.id _ rfl | exact D1.nil _ | apply D1.cons)), ?_⟩
  rfl
 ·obtain rfl := List.eq_nil_of_length_eq_zero (hnq rfl)
  replace h : (some ([] : List UInt8)) = some r := by first | exact h | (rw [if_pos (by decide)] at h; exact h)
  refine As (G0 rfl (fun _ => ?_) (fun hx => Bool.noConfusion hx))
  refine Aq (Ab (sv rfl (Ak rfl) (As (Bj (Ar ?_)))))
  obtain rfl := Option.some.inj h
  refine ⟨Or.inr rfl, _, _, _, (Ad (Bd.tmp _ _ rfl) Af), (Np rfl), ?_⟩
  rfl
def Ld (a0 : List UInt8) (a1 : Int) (b1 : Unit) : Option ((List UInt8) × Int × Int) :=
 (cut a0 a1 (a0.length : Int)).bind fun c2 => (L0 c2).bind fun v3 => if (!decide (v3.2 = 0)) then (some (([] : List UInt8), 0, v3.2)) else ((Jv v3.1.payload_).bind fun v4 => some (v4, (wI ((wI (a1 + 6)) + v3.1.head_.size_)), 0))
def J7 (a0 : List UInt8) (a1 : Int) : Option ((List UInt8) × Int × Int) :=
 if (decide (a1 < 0)) then (some (([] : List UInt8), 0, 1)) else (if (decide ((a0.length : Int) < a1)) then (some (([] : List UInt8), 0, 1)) else (Ld a0 a1 ()))
set_option maxRecDepth 100000 in
theorem P0 {a0 : List UInt8} {a1 : Int} {r : (List UInt8) × Int × Int} (h : J7 a0 a1 = some r) : Bp Tryz.prog 66 [.one (.sl a0.length (a0.flatMap eU8)), .one (Ii6 a1)] (· = .tup [.one (.sl r.1.length (r.1.flatMap eU8)), .one (Ii6 r.2.1), .one (Ii6 r.2.2)]) := by
 unfold J7 at h
 refine A1 Tryz.func66 rfl (nt := 36) rfl (Nbl rfl) ?_
 intro w0 S0
 refine Aq (Ab (sv rfl (Ak rfl) (sv rfl (Ak rfl) (sv rfl (Ak rfl) (As (Aq (Aq (Ki (Unit) (fun b1 => [(0, .s (.one (.sl a0.length (a0.flatMap eU8)))), (1, .s (.one (Ii6 a1)))]) (fun b1 => []) (fun b1 => Ld a0 a1 b1 = some r) (fun _ _ => Be rfl) (fun _ _ => A0 rfl) (fun _ _ => Nat.le_of_ble_eq_true rfl) (fun b1 h => ?_) ?_))))))))
 ·unfold Ld at h
  refine Aq (Ab (sv rfl (Ag rfl) (sv rfl (Ag rfl) ?_)))
  obtain ⟨c2, hc2, h⟩ := An h
  refine sv rfl (Sl (f := eU8) (lo := a1) (hi := (a0.length : Int)) Lh (fun _ => rfl) rfl rfl rfl (Hn rfl (Ks hc2).1.1) (by exact rfl) hc2) ?_
  obtain ⟨v3, hv3, h⟩ := An h
  refine A2 rfl Avj (Ac rfl Al) (Aj rfl) (Vi hv3) (sv rfl (Gj rfl) (sv rfl (Bc rfl rfl) (sv rfl (Bc rfl rfl) (Bz rfl Ww (Ax Yw rfl rfl rfl rfl (Nbl rfl) (Bs [.box (EL.el v3.1)] rfl (sv rfl (Ak rfl) (As (Aq (Aq (Ab (sv rfl (Ag rfl) (sv rfl (Cd rfl rfl) (As (ccI h rfl (fun h => ?_) (fun h => ?_))))))))))))))))
  ·refine Aq (Ab (sv rfl (Ag rfl) (sv rfl (Ak rfl) (sv rfl (Ak rfl) (sv rfl (Ak rfl) (As (Bj (Ar ?_))))))))
   obtain rfl := Option.some.inj h
   refine ⟨Or.inr rfl, _, _, _, (Ad (Bd.tmp _ _ rfl) (Ad (Bd.tmp _ _ rfl) (Ad (Bd.tmp _ _ rfl) Af))), (Np rfl), ?_⟩
   rfl
  ·refine Bl (Ai (Aq ?_))
   obtain ⟨v4, hv4, h⟩ := An h
   refine Kb [] [0, 1, 3, 0, 8, 0, 32, 96, 248, 7, 1023, 2047] [[.box (EL.el v3.1)]] (by kernel_rfl) Ma (by kernel_rfl) (by decide) rfl rfl rfl rfl ?_
   refine ev (Bh 0 rfl rfl) rfl rfl (Aa Yx rfl) (ev (Bh 0 rfl rfl) rfl rfl (Ae L4 rfl (.lp _ _ _ rfl) rfl) (ed (Bh 0 rfl rfl) rfl rfl (D2 At9 (Ac rfl Al) rfl (T3 hv4)) (ev (Bh 0 rfl rfl) rfl rfl (Ag rfl) (ev (Bh 0 rfl rfl) rfl rfl (B0 rfl rfl) (ev (Bh 0 rfl rfl) rfl rfl (Aa Pw rfl) (ev (Bh 0 rfl rfl) rfl rfl (Aa Uc rfl) (ev (Bh 0 rfl rfl) rfl rfl (Ae ti3 rfl (.lp _ _ _ rfl) rfl) (ev (Bh 0 rfl rfl) rfl rfl (B0 rfl rfl) (ev (Bh 0 rfl rfl) rfl rfl (Ak rfl) (ev (Bh 0 rfl rfl) rfl rfl (Ak rfl) (ev (Bh 0 rfl rfl) rfl rfl (Ak rfl) (Y1 (Ai (Bj ?_))))))))))))))
   obtain rfl := Option.some.inj h
   refine ⟨Or.inr rfl, _, _, _, (Ad (Bd.tmp _ _ rfl) (Ad (Bd.tmp _ _ rfl) (Ad (Bd.tmp _ _ rfl) Af))), (Aj rfl), ?_⟩
   rfl
 ·skip
  refine Ab (sv rfl (Ag rfl) (sv rfl (Cp rfl rfl) (sv rfl (Ag rfl) (Bo 11 rfl (fun hc => ?_) (fun hc => ?_)))))
  ·replace h := B2 hc h
   clear hc
   refine Av rfl rfl rfl rfl (Av rfl rfl rfl rfl (Av rfl rfl rfl rfl (Av rfl rfl rfl rfl (sv rfl (Au rfl rfl) (As (G0 rfl (fun _ => ?_) (fun hx => Bool.noConfusion hx)))))))
   refine Aq (Ab (sv rfl (Ak rfl) (sv rfl (Ak rfl) (sv rfl (Ak rfl) (As (Bj (Ar ?_)))))))
   obtain rfl := Option.some.inj h
   refine ⟨Or.inr rfl, _, _, _, (Ad (Bd.tmp _ _ rfl) (Ad (Bd.tmp _ _ rfl) (Ad (Bd.tmp _ _ rfl) Af))), (Np rfl), ?_⟩
   rfl
  ·replace h := B1 hc h
   clear hc
   refine son rfl rfl rfl (sv rfl (Ag rfl) (son rfl rfl rfl (sv rfl (Ag rfl) (son rfl rfl rfl (sv rfl (Az Lh rfl) (son rfl rfl rfl (sv rfl (C6 rfl rfl) (sv rfl (Am rfl rfl) (As (ccI h rfl (fun h => ?_) (fun h => ?_)))))))))))
   ·refine Aq (Ab (sv rfl (Ak rfl) (sv rfl (Ak rfl) (sv rfl (Ak rfl) (As (Bj (Ar ?_)))))))
    obtain rfl := Option.some.inj h
    refine ⟨Or.inr rfl, _, _, _, (Ad (Bd.tmp _ _ rfl) (Ad (Bd.tmp _ _ rfl) (Ad (Bd.tmp _ _ rfl) Af))), (Np rfl), ?_⟩
    rfl
   ·refine Bl (Ai ?_)
    exact ⟨(), _, h, ⟨rfl, rfl, trivial⟩, rfl⟩
def G1 (a0 : Bm) : Option Bool :=
 (Hr a0.Dead).bind fun v1 => if v1 then (some (decide ((a0.Buf.length : Int) = 0))) else (if (!decide (a0.Dead = 0)) then (some false) else ((J7 a0.Buf 0).bind fun v2 => if (decide ((a0.Buf.length : Int) = 0)) then (some true) else (some (decide (v2.2.2 = 2)))))
set_option maxRecDepth 100000 in
theorem M4 {a0 : Bm} {r : Bool} (h : G1 a0 = some r) : Bp Tryz.prog 34 [.agg (EL.el a0)] (· = .s (.one (.b r))) := by
 unfold G1 at h
 refine A1 Tryz.func34 rfl (nt := 31) rfl (Nbl rfl) ?_
 intro w0 S0
 refine Aq (Ab (Jd rfl rfl (sv rfl (Ak rfl) (As (Aq (Aq (Ab (sv rfl (Aa Aff rfl) (sv rfl (Ae Aa1 rfl (.lp _ _ _ rfl) rfl) ?_)))))))))
 obtain ⟨v1, hv1, h⟩ := An h
 refine A2 rfl Auc (Ac rfl Al) (Aj rfl) (Of hv1) (As (ccI h rfl (fun h => ?_) (fun h => ?_)))
 ·refine Aq (Ab (sv rfl (Aa Adi rfl) (sv rfl (Ae L4 rfl (.lp _ _ _ rfl) rfl) (sv rfl (Az Lh rfl) (sv rfl (Bq rfl rfl) (sv rfl (Ak rfl) (As (Bj (Ar ?_)))))))))
  obtain rfl := Option.some.inj h
  refine ⟨Or.inr rfl, _, _, _, (Ad (Bd.tmp _ _ rfl) Af), (Aj rfl), ?_⟩
  rfl
 ·refine Bl (Ai (Aq (Aq (Ab (sv rfl (Aa Aff rfl) (sv rfl (Ae Aa1 rfl (.lp _ _ _ rfl) rfl) (sv rfl (Cd rfl rfl) (As (ccI h rfl (fun h => ?_) (fun h => ?_))))))))))
  ·refine Aq (Ab (sv rfl (Ak rfl) (As (Bj (Ar ?_)))))
   obtain rfl := Option.some.inj h
   refine ⟨Or.inr rfl, _, _, _, (Ad (Bd.tmp _ _ rfl) Af), (Aj rfl), ?_⟩
   rfl
  ·refine Bl (Ai (Aq (Ab (sv rfl (Aa Adi rfl) (sv rfl (Ae L4 rfl (.lp _ _ _ rfl) rfl) ?_)))))
   obtain ⟨v2, hv2, h⟩ := An h
   refine A2 rfl Auf (Ac rfl (Ac rfl Al)) (Aj rfl) (P0 hv2) (sv rfl (Gj rfl) (sv rfl (Bc rfl rfl) (sv rfl (Bc rfl rfl) (sv rfl (Bc rfl rfl) (sv rfl (Ak rfl) (sv rfl (Ak rfl) (sv rfl (Ak rfl) (As (Aq (Ab (sv rfl (Aa Adi rfl) (sv rfl (Ae L4 rfl (.lp _ _ _ rfl) rfl) (sv rfl (Az Lh rfl) (sv rfl (Bq rfl rfl) (sv rfl (Ag rfl) (Bo 27 rfl (fun hc => ?_) (fun hc => ?_)))))))))))))))))
   ·replace h := B2 hc h
    clear hc
    refine Av rfl rfl rfl rfl (Av rfl rfl rfl rfl (sv rfl (Au rfl rfl) (sv rfl (Ak rfl) (As (Bj ?_)))))
    obtain rfl := Option.some.inj h
    refine ⟨Or.inr rfl, _, _, _, (Ad (Bd.tmp _ _ rfl) Af), (Aj rfl), ?_⟩
    rfl
   ·replace h := B1 hc h
    clear hc
    refine son rfl rfl rfl (sv rfl (Ag rfl) (son rfl rfl rfl (sv rfl (Bq rfl rfl) (sv rfl (Am rfl rfl) (sv rfl (Ak rfl) (As (Bj ?_)))))))
    obtain rfl := Option.some.inj h
    refine ⟨Or.inr rfl, _, _, _, (Ad (Bd.tmp _ _ rfl) Af), (Aj rfl), ?_⟩
    rfl
def Hk (a0 : Int) : Option Bool :=
 if (decide (1 ≤ a0)) then (some (decide (a0 ≤ 11))) else (some false)
set_option maxRecDepth 100000 in
theorem L7 {a0 : Int} {r : Bool} (h : Hk a0 = some r) : Bp Tryz.prog 60 [.one (Ii6 a0)] (· = .s (.one (.b r))) := by
 unfold Hk at h
 refine A1 Tryz.func60 rfl (nt := 9) rfl (Nbl rfl) ?_
 intro w0 S0
 refine Aq (Ab (sv rfl (Ak rfl) (As (Aq (Ab (sv rfl (Ag rfl) (sv rfl (L8 rfl rfl) (sv rfl (Ag rfl) (Bo 5 rfl (fun hc => ?_) (fun hc => ?_))))))))))
 ·replace h := B2 hc h
  clear hc
  refine son rfl rfl rfl (sv rfl (Ag rfl) (son rfl rfl rfl (sv rfl (Fv rfl rfl) (sv rfl (Au rfl rfl) (sv rfl (Ak rfl) (As (Bj ?_)))))))
  obtain rfl := Option.some.inj h
  refine ⟨Or.inr rfl, _, _, _, (Ad (Bd.tmp _ _ rfl) Af), (Aj rfl), ?_⟩
  rfl
 ·replace h := B1 hc h
  clear hc
  refine Av rfl rfl rfl rfl (Av rfl rfl rfl rfl (sv rfl (Am rfl rfl) (sv rfl (Ak rfl) (As (Bj ?_)))))
  obtain rfl := Option.some.inj h
  refine ⟨Or.inr rfl, _, _, _, (Ad (Bd.tmp _ _ rfl) Af), (Aj rfl), ?_⟩
  rfl
def I4 (a0 : Int) : Option Gz :=
 (Hk a0).bind fun v1 => if (!v1) then (some (Gz.mk false false false false false false)) else ((idx Aqs a0).bind fun u2 => some u2)
set_option maxRecDepth 100000 in
theorem O8 {a0 : Int} {r : Gz} (h : I4 a0 = some r) : Bp Tryz.prog 59 [.one (Ii6 a0)] (· = .s (.agg (EL.el r))) := by
 unfold I4 at h
 refine A1 Tryz.func59 rfl (nt := 10) rfl (Nbl rfl) ?_
 intro w0 S0
 refine Aq (Ab (Bz rfl Aic (As (Aq (Aq (Ab (sv rfl (Ag rfl) ?_)))))))
 obtain ⟨v1, hv1, h⟩ := An h
 refine A2 rfl Aqr (Ac rfl Al) (Aj rfl) (L7 hv1) (sv rfl (B9 rfl) (As (ccI h rfl (fun h => ?_) (fun h => ?_))))
 ·refine Aq (Ab (sv rfl (Bk Aic Arb Ba (.nil _)) (Ax Aik rfl rfl rfl rfl (Nbl rfl) (Bs [.box [.b false, .b false, .b false, .b false, .b false, .b false]] rfl (As (Bj (Ar ?_)))))))
  obtain rfl := Option.some.inj h
  refine ⟨Or.inr rfl, _, _, _, (Ad (Bd.agg _ _ _ _ _ Ani rfl (.lp _ _ _ rfl) (Nbl rfl)) Af), (Aj rfl), ?_⟩
  rfl
 ·refine Bl (Ai (Aq (Ab (sv rfl (Ag rfl) ?_))))
  obtain ⟨u2, hu2, h⟩ := An h
  refine sv rfl (Alk (f := Uk) As3 (fun _ => rfl) Alx rfl rfl rfl hu2) ?_
  refine sv rfl (Dd (ys := [.b u2.token_, .b u2.attempt_, .b u2.ro_, .b u2.key_, .b u2.val_, .b u2.rng_]) Ani rfl (.cp _) rfl rfl) (Ax Aik rfl rfl rfl rfl (Nbl rfl) (Bs [.box (EL.el u2)] rfl (As (Bj ?_))))
  obtain rfl := Option.some.inj h
  refine ⟨Or.inr rfl, _, _, _, (Ad (Bd.agg _ _ _ _ _ Ani rfl (.lp _ _ _ rfl) (Nbl rfl)) Af), (Aj rfl), ?_⟩
  rfl
def Eb (a0 : Int) (a1 : Int) : Option Bool :=
 if (decide (0 ≤ a0)) then (some (decide (a0 ≤ a1))) else (some false)
set_option maxRecDepth 100000 in
theorem F3 {a0 : Int} {a1 : Int} {r : Bool} (h : Eb a0 a1 = some r) : Bp Tryz.prog 61 [.one (Ii6 a0), .one (Ii6 a1)] (· = .s (.one (.b r))) := by
 unfold Eb at h
 refine A1 Tryz.func61 rfl (nt := 12) rfl (Nbl rfl) ?_
 intro w0 S0
 refine Aq (Ab (sv rfl (Ak rfl) (As (Aq (Ab (sv rfl (Ag rfl) (sv rfl (L8 rfl rfl) (sv rfl (Ag rfl) (Bo 7 rfl (fun hc => ?_) (fun hc => ?_))))))))))
 ·replace h := B2 hc h
  clear hc
  refine son rfl rfl rfl (sv rfl (Ag rfl) (son rfl rfl rfl (sv rfl (Ag rfl) (son rfl rfl rfl (sv rfl (Fv rfl rfl) (sv rfl (Au rfl rfl) (sv rfl (Ak rfl) (As (Bj ?_)))))))))
  obtain rfl := Option.some.inj h
  refine ⟨Or.inr rfl, _, _, _, (Ad (Bd.tmp _ _ rfl) Af), (Aj rfl), ?_⟩
  rfl
 ·replace h := B1 hc h
  clear hc
  refine Av rfl rfl rfl rfl (Av rfl rfl rfl rfl (Av rfl rfl rfl rfl (sv rfl (Am rfl rfl) (sv rfl (Ak rfl) (As (Bj ?_))))))
  obtain rfl := Option.some.inj h
  refine ⟨Or.inr rfl, _, _, _, (Ad (Bd.tmp _ _ rfl) Af), (Aj rfl), ?_⟩
  rfl
def Ja (a0 : Bool) (a1 : Int) (a2 : Int) : Option Bool :=
 if (!a0) then (some (decide (a1 = 0))) else ((Eb a1 a2).bind fun v1 => some v1)
set_option maxRecDepth 100000 in
theorem Pb {a0 : Bool} {a1 : Int} {a2 : Int} {r : Bool} (h : Ja a0 a1 a2 = some r) : Bp Tryz.prog 62 [.one (.b a0), .one (Ii6 a1), .one (Ii6 a2)] (· = .s (.one (.b r))) := by
 unfold Ja at h
 refine A1 Tryz.func62 rfl (nt := 14) rfl (Nbl rfl) ?_
 intro w0 S0
 refine Aq (Ab (sv rfl (Ak rfl) (As (Aq (Aq (Ab (sv rfl (Ag rfl) (sv rfl (B9 rfl) (As (ccI h rfl (fun h => ?_) (fun h => ?_)))))))))))
 ·refine Aq (Ab (sv rfl (Ag rfl) (sv rfl (Bq rfl rfl) (sv rfl (Ak rfl) (As (Bj (Ar ?_)))))))
  obtain rfl := Option.some.inj h
  refine ⟨Or.inr rfl, _, _, _, (Ad (Bd.tmp _ _ rfl) Af), (Aj rfl), ?_⟩
  rfl
 ·refine Bl (Ai (Aq (Ab (sv rfl (Ag rfl) (sv rfl (Ag rfl) ?_)))))
  obtain ⟨v1, hv1, h⟩ := An h
  refine A2 rfl Akq (Ac rfl (Ac rfl Al)) (Aj rfl) (F3 hv1) (sv rfl (Ak rfl) (As (Bj ?_)))
  obtain rfl := Option.some.inj h
  refine ⟨Or.inr rfl, _, _, _, (Ad (Bd.tmp _ _ rfl) Af), (Aj rfl), ?_⟩
  rfl
def Cu (a0 : Bool) (a1 : List UInt8) (a2 : Int) (a3 : Int) : Option Bool :=
 if (!a0) then (some (decide ((a1.length : Int) = 0))) else (if (decide (a2 ≤ (a1.length : Int))) then (some (decide ((a1.length : Int) ≤ a3))) else (some false))
set_option maxRecDepth 100000 in
theorem Ea {a0 : Bool} {a1 : List UInt8} {a2 : Int} {a3 : Int} {r : Bool} (h : Cu a0 a1 a2 a3 = some r) : Bp Tryz.prog 63 [.one (.b a0), .one (.sl a1.length (a1.flatMap eU8)), .one (Ii6 a2), .one (Ii6 a3)] (· = .s (.one (.b r))) := by
 unfold Cu at h
 refine A1 Tryz.func63 rfl (nt := 24) rfl (Nbl rfl) ?_
 intro w0 S0
 refine Aq (Ab (sv rfl (Ak rfl) (As (Aq (Aq (Ab (sv rfl (Ag rfl) (sv rfl (B9 rfl) (As (ccI h rfl (fun h => ?_) (fun h => ?_)))))))))))
 ·refine Aq (Ab (sv rfl (Ag rfl) (sv rfl (Az Lh rfl) (sv rfl (Bq rfl rfl) (sv rfl (Ak rfl) (As (Bj (Ar ?_))))))))
  obtain rfl := Option.some.inj h
  refine ⟨Or.inr rfl, _, _, _, (Ad (Bd.tmp _ _ rfl) Af), (Aj rfl), ?_⟩
  rfl
 ·refine Bl (Ai (Aq (Ab (sv rfl (Ag rfl) (sv rfl (Az Lh rfl) (sv rfl (Ag rfl) (sv rfl (L8 rfl rfl) (sv rfl (Ag rfl) (Bo 18 rfl (fun hc => ?_) (fun hc => ?_))))))))))
  ·replace h := B2 hc h
   clear hc
   refine son rfl rfl rfl (sv rfl (Ag rfl) (son rfl rfl rfl (sv rfl (Az Lh rfl) (son rfl rfl rfl (sv rfl (Ag rfl) (son rfl rfl rfl (sv rfl (Fv rfl rfl) (sv rfl (Au rfl rfl) (sv rfl (Ak rfl) (As (Bj ?_)))))))))))
   obtain rfl := Option.some.inj h
   refine ⟨Or.inr rfl, _, _, _, (Ad (Bd.tmp _ _ rfl) Af), (Aj rfl), ?_⟩
   rfl
  ·replace h := B1 hc h
   clear hc
   refine Av rfl rfl rfl rfl (Av rfl rfl rfl rfl (Av rfl rfl rfl rfl (Av rfl rfl rfl rfl (sv rfl (Am rfl rfl) (sv rfl (Ak rfl) (As (Bj ?_)))))))
   obtain rfl := Option.some.inj h
   refine ⟨Or.inr rfl, _, _, _, (Ad (Bd.tmp _ _ rfl) Af), (Aj rfl), ?_⟩
   rfl
def I5 (a0 : Bool) (a1 : B8) : Option Bool :=
 if (!a0) then (if (decide ((a1.Lo.length : Int) = 0)) then (if (decide ((a1.Hi.length : Int) = 0)) then (some (!a1.Open)) else (some false)) else (some false)) else (if (decide ((a1.Lo.length : Int) ≤ 16)) then ((Cu (!a1.Open) a1.Hi 0 16).bind fun v1 => some v1) else (some false))
set_option maxRecDepth 100000 in
theorem Pe {a0 : Bool} {a1 : B8} {r : Bool} (h : I5 a0 a1 = some r) : Bp Tryz.prog 64 [.one (.b a0), .agg (EL.el a1)] (· = .s (.one (.b r))) := by
 unfold I5 at h
 refine A1 Tryz.func64 rfl (nt := 34) rfl (Nbl rfl) ?_
 intro w0 S0
 refine Aq (Ab (Jd rfl rfl (sv rfl (Ak rfl) (As (Aq (Aq (Ab (sv rfl (Ag rfl) (sv rfl (B9 rfl) (As (ccI h rfl (fun h => ?_) (fun h => ?_))))))))))))
 ·refine Aq (Ab (sv rfl (Aa T2 rfl) (sv rfl (Ae L4 rfl (.lp _ _ _ rfl) rfl) (sv rfl (Az Lh rfl) (sv rfl (Bq rfl rfl) (sv rfl (Ag rfl) (Bo 11 rfl (fun hc => ?_) (fun hc => ?_))))))))
  ·replace h := B2 hc h
   clear hc
   refine son rfl rfl rfl (sv rfl (Aa Qv rfl) (son rfl rfl rfl (sv rfl (Ae L4 rfl (.lp _ _ _ rfl) rfl) (son rfl rfl rfl (sv rfl (Az Lh rfl) (son rfl rfl rfl (sv rfl (Bq rfl rfl) (sv rfl (Au rfl rfl) (sv rfl (Ag rfl) (Bo 17 rfl (fun hc => ?_) (fun hc => ?_)))))))))))
   ·replace h := B2 hc h
    clear hc
    refine son rfl rfl rfl (sv rfl (Aa Xw rfl) (son rfl rfl rfl (sv rfl (Ae ti4 rfl (.lp _ _ _ rfl) rfl) (son rfl rfl rfl (sv rfl (B9 rfl) (sv rfl (Au rfl rfl) (sv rfl (Ak rfl) (As (Bj (Ar ?_))))))))))
    obtain rfl := Option.some.inj h
    refine ⟨Or.inr rfl, _, _, _, (Ad (Bd.tmp _ _ rfl) Af), (Aj rfl), ?_⟩
    rfl
   ·replace h := B1 hc h
    clear hc
    refine Av rfl rfl rfl rfl (Av rfl rfl rfl rfl (Av rfl rfl rfl rfl (sv rfl (Am rfl rfl) (sv rfl (Ak rfl) (As (Bj (Ar ?_)))))))
    obtain rfl := Option.some.inj h
    refine ⟨Or.inr rfl, _, _, _, (Ad (Bd.tmp _ _ rfl) Af), (Aj rfl), ?_⟩
    rfl
  ·replace h := B1 hc h
   clear hc
   refine Av rfl rfl rfl rfl (Av rfl rfl rfl rfl (Av rfl rfl rfl rfl (Av rfl rfl rfl rfl (sv rfl (Am rfl rfl) (sv rfl (Ag rfl) (Av rfl rfl rfl rfl (Av rfl rfl rfl rfl (Av rfl rfl rfl rfl (sv rfl (Am rfl rfl) (sv rfl (Ak rfl) (As (Bj (Ar ?_)))))))))))))
   obtain rfl := Option.some.inj h
   refine ⟨Or.inr rfl, _, _, _, (Ad (Bd.tmp _ _ rfl) Af), (Aj rfl), ?_⟩
   rfl
 ·refine Bl (Ai (Aq (Ab (sv rfl (Aa T2 rfl) (sv rfl (Ae L4 rfl (.lp _ _ _ rfl) rfl) (sv rfl (Az Lh rfl) (sv rfl (Fv rfl rfl) (sv rfl (Ag rfl) (Bo 26 rfl (fun hc => ?_) (fun hc => ?_))))))))))
  ·replace h := B2 hc h
   clear hc
   refine son rfl rfl rfl (sv rfl (Aa Xw rfl) (son rfl rfl rfl (sv rfl (Ae ti4 rfl (.lp _ _ _ rfl) rfl) (son rfl rfl rfl (sv rfl (B9 rfl) (son rfl rfl rfl (sv rfl (Aa Qv rfl) (son rfl rfl rfl (sv rfl (Ae L4 rfl (.lp _ _ _ rfl) rfl) (son rfl rfl rfl ?_))))))))))
   obtain ⟨v1, hv1, h⟩ := An h
   refine A2 rfl Ak4 (Ac rfl (Ac rfl (Ac rfl (Ac rfl Al)))) (Aj rfl) (Ea hv1) (sv rfl (Au rfl rfl) (sv rfl (Ak rfl) (As (Bj ?_))))
   obtain rfl := Option.some.inj h
   refine ⟨Or.inr rfl, _, _, _, (Ad (Bd.tmp _ _ rfl) Af), (Aj rfl), ?_⟩
   rfl
  ·replace h := B1 hc h
   clear hc
   refine Av rfl rfl rfl rfl (Av rfl rfl rfl rfl (Av rfl rfl rfl rfl (Av rfl rfl rfl rfl (Av rfl rfl rfl rfl (Av rfl rfl rfl rfl (sv rfl (Am rfl rfl) (sv rfl (Ak rfl) (As (Bj ?_)))))))))
   obtain rfl := Option.some.inj h
   refine ⟨Or.inr rfl, _, _, _, (Ad (Bd.tmp _ _ rfl) Af), (Aj rfl), ?_⟩
   rfl
def Jb (a0 : Ca) : Option Bool :=
 (I4 a0.Kind).bind fun v1 => (Hk a0.Kind).bind fun v2 => if v2 then ((Eb a0.Seq 4294967295).bind fun v3 => if v3 then ((Ja v1.token_ a0.Token 1099511627776).bind fun v4 => if v4 then ((Ja v1.attempt_ a0.Attempt 65535).bind fun v5 => if v5 then (if v1.ro_ then ((Cu v1.key_ a0.Key 1 16).bind fun v6 => if v6 then ((Cu v1.val_ a0.Val 0 32).bind fun v7 => if v7 then ((I5 v1.rng_ a0.Rng).bind fun v8 => some v8) else (some false)) else (some false)) else (if (!a0.RO) then ((Cu v1.key_ a0.Key 1 16).bind fun v9 => if v9 then ((Cu v1.val_ a0.Val 0 32).bind fun v10 => if v10 then ((I5 v1.rng_ a0.Rng).bind fun v11 => some v11) else (some false)) else (some false)) else (some false))) else (some false)) else (some false)) else (some false)) else (some false)
set_option maxRecDepth 100000 in
theorem Pa {a0 : Ca} {r : Bool} (h : Jb a0 = some r) : Bp Tryz.prog 33 [.agg (EL.el a0)] (· = .s (.one (.b r))) := by
 unfold Jb at h
 refine A1 Tryz.func33 rfl (nt := 59) rfl (Nbl rfl) ?_
 intro w0 S0
 refine Aq (Ab (Jd rfl rfl (sv rfl (Ak rfl) (As (Aq (Ab (sv rfl (Aa Pz rfl) (sv rfl (Ae ti3 rfl (.lp _ _ _ rfl) rfl) ?_))))))))
 obtain ⟨v1, hv1, h⟩ := An h
 refine A2 rfl Aun (Ac rfl Al) (Aj rfl) (O8 hv1) (Bz rfl Aic (Ax Aik rfl rfl rfl rfl (Nbl rfl) (Bs [.box (EL.el a0), .box (EL.el v1)] rfl (As (Aq (Ab (sv rfl (Aa Pz rfl) (sv rfl (Ae ti3 rfl (.lp _ _ _ rfl) rfl) ?_))))))))
 obtain ⟨v2, hv2, h⟩ := An h
 refine A2 rfl Aqr (Ac rfl Al) (Aj rfl) (L7 hv2) (sv rfl (Ag rfl) (Bo 10 rfl (fun hc => ?_) (fun hc => ?_)))
 ·replace h := B2 hc h
  clear hc
  refine son rfl rfl rfl (sv rfl (Aa Qp rfl) (son rfl rfl rfl (sv rfl (Ae ti3 rfl (.lp _ _ _ rfl) rfl) (son rfl rfl rfl ?_))))
  obtain ⟨v3, hv3, h⟩ := An h
  refine A2 rfl Akq (Ac rfl (Ac rfl Al)) (Aj rfl) (F3 hv3) (sv rfl (Au rfl rfl) (sv rfl (Ag rfl) (Bo 15 rfl (fun hc => ?_) (fun hc => ?_))))
  ·replace h := B2 hc h
   clear hc
   refine son rfl rfl rfl (sv rfl (Aa Agb rfl) (son rfl rfl rfl (sv rfl (Ae ti4 rfl (.lp _ _ _ rfl) rfl) (son rfl rfl rfl (sv rfl (Aa Aj8 rfl) (son rfl rfl rfl (sv rfl (Ae ti3 rfl (.lp _ _ _ rfl) rfl) (son rfl rfl rfl ?_))))))))
   obtain ⟨v4, hv4, h⟩ := An h
   refine A2 rfl Auq (Ac rfl (Ac rfl (Ac rfl Al))) (Aj rfl) (Pb hv4) (sv rfl (Au rfl rfl) (sv rfl (Ag rfl) (Bo 22 rfl (fun hc => ?_) (fun hc => ?_))))
   ·replace h := B2 hc h
    clear hc
    refine son rfl rfl rfl (sv rfl (Aa Ahf rfl) (son rfl rfl rfl (sv rfl (Ae ti4 rfl (.lp _ _ _ rfl) rfl) (son rfl rfl rfl (sv rfl (Aa Aki rfl) (son rfl rfl rfl (sv rfl (Ae ti3 rfl (.lp _ _ _ rfl) rfl) (son rfl rfl rfl ?_))))))))
    obtain ⟨v5, hv5, h⟩ := An h
    refine A2 rfl Auq (Ac rfl (Ac rfl (Ac rfl Al))) (Aj rfl) (Pb hv5) (sv rfl (Au rfl rfl) (sv rfl (Ag rfl) (Bo 29 rfl (fun hc => ?_) (fun hc => ?_))))
    ·replace h := B2 hc h
     clear hc
     refine son rfl rfl rfl (sv rfl (Aa Ahh rfl) (son rfl rfl rfl (sv rfl (Ae ti4 rfl (.lp _ _ _ rfl) rfl) (son rfl rfl rfl (sv rfl (Ag rfl) (Bo 32 rfl (fun hc => ?_) (fun hc => ?_)))))))
     ·replace h := B2 hc h
      clear hc
      refine Av rfl rfl rfl rfl (Av rfl rfl rfl rfl (Av rfl rfl rfl rfl (son rfl rfl rfl (sv rfl (Au rfl rfl) (sv rfl (Au rfl rfl) (sv rfl (Ag rfl) (son rfl rfl rfl (sv rfl (Aa Acj rfl) (son rfl rfl rfl (sv rfl (Ae ti4 rfl (.lp _ _ _ rfl) rfl) (son rfl rfl rfl (sv rfl (Aa Afu rfl) (son rfl rfl rfl (sv rfl (Ae L4 rfl (.lp _ _ _ rfl) rfl) (son rfl rfl rfl ?_)))))))))))))))
      obtain ⟨v6, hv6, h⟩ := An h
      refine A2 rfl Ak4 (Ac rfl (Ac rfl (Ac rfl (Ac rfl Al)))) (Aj rfl) (Ea hv6) (sv rfl (Au rfl rfl) (sv rfl (Ag rfl) (Bo 45 rfl (fun hc => ?_) (fun hc => ?_))))
      ·replace h := B2 hc h
       clear hc
       refine son rfl rfl rfl (sv rfl (Aa Abv rfl) (son rfl rfl rfl (sv rfl (Ae ti4 rfl (.lp _ _ _ rfl) rfl) (son rfl rfl rfl (sv rfl (Aa Ahb rfl) (son rfl rfl rfl (sv rfl (Ae L4 rfl (.lp _ _ _ rfl) rfl) (son rfl rfl rfl ?_))))))))
       obtain ⟨v7, hv7, h⟩ := An h
       refine A2 rfl Ak4 (Ac rfl (Ac rfl (Ac rfl (Ac rfl Al)))) (Aj rfl) (Ea hv7) (sv rfl (Au rfl rfl) (sv rfl (Ag rfl) (Bo 52 rfl (fun hc => ?_) (fun hc => ?_))))
       ·replace h := B2 hc h
        clear hc
        refine son rfl rfl rfl (sv rfl (Aa Ach rfl) (son rfl rfl rfl (sv rfl (Ae ti4 rfl (.lp _ _ _ rfl) rfl) (son rfl rfl rfl (sv rfl (Aa Aad rfl) (son rfl rfl rfl (sv rfl (Ao Ajk rfl (.lp _ _ _ rfl) (Nbl rfl)) (son rfl rfl rfl ?_))))))))
        obtain ⟨v8, hv8, h⟩ := An h
        refine A2 rfl Auj (Ac rfl (Ac rfl Al)) (Aj rfl) (Pe hv8) (sv rfl (Au rfl rfl) (sv rfl (Ak rfl) (As (Bj ?_))))
        obtain rfl := Option.some.inj h
        refine ⟨Or.inr rfl, _, _, _, (Ad (Bd.tmp _ _ rfl) Af), (Aj rfl), ?_⟩
        rfl
       ·replace h := B1 hc h
        clear hc
        refine Av rfl rfl rfl rfl (Av rfl rfl rfl rfl (Av rfl rfl rfl rfl (Av rfl rfl rfl rfl (Av rfl rfl rfl rfl (sv rfl (Am rfl rfl) (sv rfl (Ak rfl) (As (Bj ?_))))))))
        obtain rfl := Option.some.inj h
        refine ⟨Or.inr rfl, _, _, _, (Ad (Bd.tmp _ _ rfl) Af), (Aj rfl), ?_⟩
        rfl
      ·replace h := B1 hc h
       clear hc
       refine Av rfl rfl rfl rfl (Av rfl rfl rfl rfl (Av rfl rfl rfl rfl (Av rfl rfl rfl rfl (Av rfl rfl rfl rfl (sv rfl (Am rfl rfl) (sv rfl (Ag rfl) (Av rfl rfl rfl rfl (Av rfl rfl rfl rfl (Av rfl rfl rfl rfl (Av rfl rfl rfl rfl (Av rfl rfl rfl rfl (sv rfl (Am rfl rfl) (sv rfl (Ak rfl) (As (Bj ?_)))))))))))))))
       obtain rfl := Option.some.inj h
       refine ⟨Or.inr rfl, _, _, _, (Ad (Bd.tmp _ _ rfl) Af), (Aj rfl), ?_⟩
       rfl
     ·replace h := B1 hc h
      clear hc
      refine son rfl rfl rfl (sv rfl (Aa Aj5 rfl) (son rfl rfl rfl (sv rfl (Ae ti4 rfl (.lp _ _ _ rfl) rfl) (son rfl rfl rfl (sv rfl (B9 rfl) (son rfl rfl rfl (sv rfl (Am rfl rfl) (sv rfl (Au rfl rfl) (sv rfl (Ag rfl) (Bo 38 rfl (fun hc => ?_) (fun hc => ?_)))))))))))
      ·replace h := B2 hc h
       clear hc
       refine son rfl rfl rfl (sv rfl (Aa Acj rfl) (son rfl rfl rfl (sv rfl (Ae ti4 rfl (.lp _ _ _ rfl) rfl) (son rfl rfl rfl (sv rfl (Aa Afu rfl) (son rfl rfl rfl (sv rfl (Ae L4 rfl (.lp _ _ _ rfl) rfl) (son rfl rfl rfl ?_))))))))
       obtain ⟨v9, hv9, h⟩ := An h
       refine A2 rfl Ak4 (Ac rfl (Ac rfl (Ac rfl (Ac rfl Al)))) (Aj rfl) (Ea hv9) (sv rfl (Au rfl rfl) (sv rfl (Ag rfl) (Bo 45 rfl (fun hc => ?_) (fun hc => ?_))))
       ·replace h := B2 hc h
        clear hc
        refine son rfl rfl rfl (sv rfl (Aa Abv rfl) (son rfl rfl rfl (sv rfl (Ae ti4 rfl (.lp _ _ _ rfl) rfl) (son rfl rfl rfl (sv rfl (Aa Ahb rfl) (son rfl rfl rfl (sv rfl (Ae L4 rfl (.lp _ _ _ rfl) rfl) (son rfl rfl rfl ?_))))))))
        obtain ⟨v10, hv10, h⟩ := An h
        refine A2 rfl Ak4 (Ac rfl (Ac rfl (Ac rfl (Ac rfl Al)))) (Aj rfl) (Ea hv10) (sv rfl (Au rfl rfl) (sv rfl (Ag rfl) (Bo 52 rfl (fun hc => ?_) (fun hc => ?_))))
        ·replace h := B2 hc h
         clear hc
         refine son rfl rfl rfl (sv rfl (Aa Ach rfl) (son rfl rfl rfl (sv rfl (Ae ti4 rfl (.lp _ _ _ rfl) rfl) (son rfl rfl rfl (sv rfl (Aa Aad rfl) (son rfl rfl rfl (sv rfl (Ao Ajk rfl (.lp _ _ _ rfl) (Nbl rfl)) (son rfl rfl rfl ?_))))))))
         obtain ⟨v11, hv11, h⟩ := An h
         refine A2 rfl Auj (Ac rfl (Ac rfl Al)) (Aj rfl) (Pe hv11) (sv rfl (Au rfl rfl) (sv rfl (Ak rfl) (As (Bj ?_))))
         obtain rfl := Option.some.inj h
         refine ⟨Or.inr rfl, _, _, _, (Ad (Bd.tmp _ _ rfl) Af), (Aj rfl), ?_⟩
         rfl
        ·replace h := B1 hc h
         clear hc
         refine Av rfl rfl rfl rfl (Av rfl rfl rfl rfl (Av rfl rfl rfl rfl (Av rfl rfl rfl rfl (Av rfl rfl rfl rfl (sv rfl (Am rfl rfl) (sv rfl (Ak rfl) (As (Bj ?_))))))))
         obtain rfl := Option.some.inj h
         refine ⟨Or.inr rfl, _, _, _, (Ad (Bd.tmp _ _ rfl) Af), (Aj rfl), ?_⟩
         rfl
       ·replace h := B1 hc h
        clear hc
        refine Av rfl rfl rfl rfl (Av rfl rfl rfl rfl (Av rfl rfl rfl rfl (Av rfl rfl rfl rfl (Av rfl rfl rfl rfl (sv rfl (Am rfl rfl) (sv rfl (Ag rfl) (Av rfl rfl rfl rfl (Av rfl rfl rfl rfl (Av rfl rfl rfl rfl (Av rfl rfl rfl rfl (Av rfl rfl rfl rfl (sv rfl (Am rfl rfl) (sv rfl (Ak rfl) (As (Bj ?_)))))))))))))))
        obtain rfl := Option.some.inj h
        refine ⟨Or.inr rfl, _, _, _, (Ad (Bd.tmp _ _ rfl) Af), (Aj rfl), ?_⟩
        rfl
      ·replace h := B1 hc h
       clear hc
       refine Av rfl rfl rfl rfl (Av rfl rfl rfl rfl (Av rfl rfl rfl rfl (Av rfl rfl rfl rfl (Av rfl rfl rfl rfl (sv rfl (Am rfl rfl) (sv rfl (Ag rfl) (Av rfl rfl rfl rfl (Av rfl rfl rfl rfl (Av rfl rfl rfl rfl (Av rfl rfl rfl rfl (Av rfl rfl rfl rfl (sv rfl (Am rfl rfl) (sv rfl (Ag rfl) (Av rfl rfl rfl rfl (Av rfl rfl rfl rfl (Av rfl rfl rfl rfl (Av rfl rfl rfl rfl (Av rfl rfl rfl rfl (sv rfl (Am rfl rfl) (sv rfl (Ak rfl) (As (Bj ?_))))))))))))))))))))))
       obtain rfl := Option.some.inj h
       refine ⟨Or.inr rfl, _, _, _, (Ad (Bd.tmp _ _ rfl) Af), (Aj rfl), ?_⟩
       rfl
    ·replace h := B1 hc h
     clear hc
     refine Av rfl rfl rfl rfl (Av rfl rfl rfl rfl (Av rfl rfl rfl rfl (Fz rfl rfl rfl (Fz rfl rfl rfl (Fz rfl rfl rfl (Av rfl rfl rfl rfl (sv rfl (Am rfl rfl) (sv rfl (Ag rfl) (Av rfl rfl rfl rfl (Av rfl rfl rfl rfl (Av rfl rfl rfl rfl (Av rfl rfl rfl rfl (Av rfl rfl rfl rfl (sv rfl (Am rfl rfl) (sv rfl (Ag rfl) (Av rfl rfl rfl rfl (Av rfl rfl rfl rfl (Av rfl rfl rfl rfl (Av rfl rfl rfl rfl (Av rfl rfl rfl rfl (sv rfl (Am rfl rfl) (sv rfl (Ag rfl) (Av rfl rfl rfl rfl (Av rfl rfl rfl rfl (Av rfl rfl rfl rfl (Av rfl rfl rfl rfl (Av rfl rfl rfl rfl (sv rfl (Am rfl rfl) (sv rfl (Ak rfl) (As (Bj ?_)))))))))))))))))))))))))))))))
     obtain rfl := Option.some.inj h
     refine ⟨Or.inr rfl, _, _, _, (Ad (Bd.tmp _ _ rfl) Af), (Aj rfl), ?_⟩
     rfl
   ·replace h := B1 hc h
    clear hc
    refine Av rfl rfl rfl rfl (Av rfl rfl rfl rfl (Av rfl rfl rfl rfl (Av rfl rfl rfl rfl (Av rfl rfl rfl rfl (sv rfl (Am rfl rfl) (sv rfl (Ag rfl) (Av rfl rfl rfl rfl (Av rfl rfl rfl rfl (Av rfl rfl rfl rfl (Fz rfl rfl rfl (Fz rfl rfl rfl (Fz rfl rfl rfl (Av rfl rfl rfl rfl (sv rfl (Am rfl rfl) (sv rfl (Ag rfl) (Av rfl rfl rfl rfl (Av rfl rfl rfl rfl (Av rfl rfl rfl rfl (Av rfl rfl rfl rfl (Av rfl rfl rfl rfl (sv rfl (Am rfl rfl) (sv rfl (Ag rfl) (Av rfl rfl rfl rfl (Av rfl rfl rfl rfl (Av rfl rfl rfl rfl (Av rfl rfl rfl rfl (Av rfl rfl rfl rfl (sv rfl (Am rfl rfl) (sv rfl (Ag rfl) (Av rfl rfl rfl rfl (Av rfl rfl rfl rfl (Av rfl rfl rfl rfl (Av rfl rfl rfl rfl (Av rfl rfl rfl rfl (sv rfl (Am rfl rfl) (sv rfl (Ak rfl) (As (Bj ?_))))))))))))))))))))))))))))))))))))))
    obtain rfl := Option.some.inj h
    refine ⟨Or.inr rfl, _, _, _, (Ad (Bd.tmp _ _ rfl) Af), (Aj rfl), ?_⟩
    rfl
  ·replace h := B1 hc h
   clear hc
   refine Av rfl rfl rfl rfl (Av rfl rfl rfl rfl (Av rfl rfl rfl rfl (Av rfl rfl rfl rfl (Av rfl rfl rfl rfl (sv rfl (Am rfl rfl) (sv rfl (Ag rfl) (Av rfl rfl rfl rfl (Av rfl rfl rfl rfl (Av rfl rfl rfl rfl (Av rfl rfl rfl rfl (Av rfl rfl rfl rfl (sv rfl (Am rfl rfl) (sv rfl (Ag rfl) (Av rfl rfl rfl rfl (Av rfl rfl rfl rfl (Av rfl rfl rfl rfl (Fz rfl rfl rfl (Fz rfl rfl rfl (Fz rfl rfl rfl (Av rfl rfl rfl rfl (sv rfl (Am rfl rfl) (sv rfl (Ag rfl) (Av rfl rfl rfl rfl (Av rfl rfl rfl rfl (Av rfl rfl rfl rfl (Av rfl rfl rfl rfl (Av rfl rfl rfl rfl (sv rfl (Am rfl rfl) (sv rfl (Ag rfl) (Av rfl rfl rfl rfl (Av rfl rfl rfl rfl (Av rfl rfl rfl rfl (Av rfl rfl rfl rfl (Av rfl rfl rfl rfl (sv rfl (Am rfl rfl) (sv rfl (Ag rfl) (Av rfl rfl rfl rfl (Av rfl rfl rfl rfl (Av rfl rfl rfl rfl (Av rfl rfl rfl rfl (Av rfl rfl rfl rfl (sv rfl (Am rfl rfl) (sv rfl (Ak rfl) (As (Bj ?_)))))))))))))))))))))))))))))))))))))))))))))
   obtain rfl := Option.some.inj h
   refine ⟨Or.inr rfl, _, _, _, (Ad (Bd.tmp _ _ rfl) Af), (Aj rfl), ?_⟩
   rfl
 ·replace h := B1 hc h
  clear hc
  refine Av rfl rfl rfl rfl (Av rfl rfl rfl rfl (Av rfl rfl rfl rfl (sv rfl (Am rfl rfl) (sv rfl (Ag rfl) (Av rfl rfl rfl rfl (Av rfl rfl rfl rfl (Av rfl rfl rfl rfl (Av rfl rfl rfl rfl (Av rfl rfl rfl rfl (sv rfl (Am rfl rfl) (sv rfl (Ag rfl) (Av rfl rfl rfl rfl (Av rfl rfl rfl rfl (Av rfl rfl rfl rfl (Av rfl rfl rfl rfl (Av rfl rfl rfl rfl (sv rfl (Am rfl rfl) (sv rfl (Ag rfl) (Av rfl rfl rfl rfl (Av rfl rfl rfl rfl (Av rfl rfl rfl rfl (Fz rfl rfl rfl (Fz rfl rfl rfl (Fz rfl rfl rfl (Av rfl rfl rfl rfl (sv rfl (Am rfl rfl) (sv rfl (Ag rfl) (Av rfl rfl rfl rfl (Av rfl rfl rfl rfl (Av rfl rfl rfl rfl (Av rfl rfl rfl rfl (Av rfl rfl rfl rfl (sv rfl (Am rfl rfl) (sv rfl (Ag rfl) (Av rfl rfl rfl rfl (Av rfl rfl rfl rfl (Av rfl rfl rfl rfl (Av rfl rfl rfl rfl (Av rfl rfl rfl rfl (sv rfl (Am rfl rfl) (sv rfl (Ag rfl) (Av rfl rfl rfl rfl (Av rfl rfl rfl rfl (Av rfl rfl rfl rfl (Av rfl rfl rfl rfl (Av rfl rfl rfl rfl (sv rfl (Am rfl rfl) (sv rfl (Ak rfl) (As (Bj ?_))))))))))))))))))))))))))))))))))))))))))))))))))
  obtain rfl := Option.some.inj h
  refine ⟨Or.inr rfl, _, _, _, (Ad (Bd.tmp _ _ rfl) Af), (Aj rfl), ?_⟩
  rfl
def D6 (a0 : Ah) : Option Bool :=
 (Gx a0.Cfg).bind fun v1 => if v1 then ((Gb a0).bind fun v2 => if v2 then ((Hg a0.Tasks).bind fun v3 => if v3 then ((Hv a0).bind fun v4 => if v4 then ((Cn a0.Phase).bind fun v5 => if (!v5) then ((G1 a0.In).bind fun v6 => if v6 then (some (decide ((a0.Out.length : Int) ≤ 65536))) else (some false)) else ((Jb a0.Req).bind fun v7 => if v7 then ((G1 a0.In).bind fun v8 => if v8 then (some (decide ((a0.Out.length : Int) ≤ 65536))) else (some false)) else (some false))) else (some false)) else (some false)) else (some false)) else (some false)
set_option maxRecDepth 100000 in
theorem Gm {a0 : Ah} {r : Bool} (h : D6 a0 = some r) : Bp Tryz.prog 12 [.agg (EL.el a0)] (· = .s (.one (.b r))) := by
 unfold D6 at h
 refine A1 Tryz.func12 rfl (nt := 41) rfl (Nbl rfl) ?_
 intro w0 S0
 refine Aq (Ab (Jd rfl rfl (sv rfl (Ak rfl) (As (Aq (Ab (sv rfl (Aa Qt rfl) (sv rfl (Ao Aqh rfl (.lp _ _ _ rfl) (Nbl rfl)) ?_))))))))
 obtain ⟨v1, hv1, h⟩ := An h
 refine A2 rfl Aur (Ac rfl Al) (Aj rfl) (Ml hv1) (sv rfl (Ag rfl) (Bo 6 rfl (fun hc => ?_) (fun hc => ?_)))
 ·replace h := B2 hc h
  clear hc
  refine son rfl rfl rfl (sv rfl (Ao B5 rfl (.lp _ _ _ rfl) (Nbl rfl)) (son rfl rfl rfl ?_))
  obtain ⟨v2, hv2, h⟩ := An h
  refine A2 rfl Au0 (Ac rfl Al) (Aj rfl) (Pc hv2) (sv rfl (Au rfl rfl) (sv rfl (Ag rfl) (Bo 10 rfl (fun hc => ?_) (fun hc => ?_))))
  ·replace h := B2 hc h
   clear hc
   refine son rfl rfl rfl (sv rfl (Aa Lw rfl) (son rfl rfl rfl (sv rfl (Ae Xy rfl (.lp _ _ _ rfl) rfl) (son rfl rfl rfl ?_))))
   obtain ⟨v3, hv3, h⟩ := An h
   refine A2 rfl Awe (Ac rfl Al) (Aj rfl) (P6 hv3) (sv rfl (Au rfl rfl) (sv rfl (Ag rfl) (Bo 15 rfl (fun hc => ?_) (fun hc => ?_))))
   ·replace h := B2 hc h
    clear hc
    refine son rfl rfl rfl (sv rfl (Ao B5 rfl (.lp _ _ _ rfl) (Nbl rfl)) (son rfl rfl rfl ?_))
    obtain ⟨v4, hv4, h⟩ := An h
    refine A2 rfl Aus (Ac rfl Al) (Aj rfl) (Q5 hv4) (sv rfl (Au rfl rfl) (sv rfl (Ag rfl) (Bo 19 rfl (fun hc => ?_) (fun hc => ?_))))
    ·replace h := B2 hc h
     clear hc
     refine son rfl rfl rfl (sv rfl (Aa G4 rfl) (son rfl rfl rfl (sv rfl (Ae ti3 rfl (.lp _ _ _ rfl) rfl) (son rfl rfl rfl ?_))))
     obtain ⟨v5, hv5, h⟩ := An h
     refine A2 rfl Aim (Ac rfl Al) (Aj rfl) (Dy hv5) (son rfl rfl rfl (sv rfl (B9 rfl) (son rfl rfl rfl (sv rfl (Ag rfl) (Bo 24 rfl (fun hc => ?_) (fun hc => ?_))))))
     ·replace h := B2 hc h
      clear hc
      refine Av rfl rfl rfl rfl (Av rfl rfl rfl rfl (Av rfl rfl rfl rfl (son rfl rfl rfl (sv rfl (Au rfl rfl) (sv rfl (Au rfl rfl) (sv rfl (Ag rfl) (son rfl rfl rfl (sv rfl (Aa Wv rfl) (son rfl rfl rfl (sv rfl (Ao Ah2 rfl (.lp _ _ _ rfl) (Nbl rfl)) (son rfl rfl rfl ?_)))))))))))
      obtain ⟨v6, hv6, h⟩ := An h
      refine A2 rfl Ar8 (Ac rfl Al) (Aj rfl) (M4 hv6) (sv rfl (Au rfl rfl) (sv rfl (Ag rfl) (Bo 35 rfl (fun hc => ?_) (fun hc => ?_))))
      ·replace h := B2 hc h
       clear hc
       refine son rfl rfl rfl (sv rfl (Aa Qi rfl) (son rfl rfl rfl (sv rfl (Ae L4 rfl (.lp _ _ _ rfl) rfl) (son rfl rfl rfl (sv rfl (Az Lh rfl) (son rfl rfl rfl (sv rfl (Fv rfl rfl) (sv rfl (Au rfl rfl) (sv rfl (Ak rfl) (As (Bj ?_)))))))))))
       obtain rfl := Option.some.inj h
       refine ⟨Or.inr rfl, _, _, _, (Ad (Bd.tmp _ _ rfl) Af), (Aj rfl), ?_⟩
       rfl
      ·replace h := B1 hc h
       clear hc
       refine Av rfl rfl rfl rfl (Av rfl rfl rfl rfl (Av rfl rfl rfl rfl (Av rfl rfl rfl rfl (sv rfl (Am rfl rfl) (sv rfl (Ak rfl) (As (Bj ?_)))))))
       obtain rfl := Option.some.inj h
       refine ⟨Or.inr rfl, _, _, _, (Ad (Bd.tmp _ _ rfl) Af), (Aj rfl), ?_⟩
       rfl
     ·replace h := B1 hc h
      clear hc
      refine son rfl rfl rfl (sv rfl (Aa Jq rfl) (son rfl rfl rfl (sv rfl (Ao Ad4 rfl (.lp _ _ _ rfl) (Nbl rfl)) (son rfl rfl rfl ?_))))
      obtain ⟨v7, hv7, h⟩ := An h
      refine A2 rfl Aul (Ac rfl Al) (Aj rfl) (Pa hv7) (son rfl rfl rfl (sv rfl (Am rfl rfl) (sv rfl (Au rfl rfl) (sv rfl (Ag rfl) (Bo 30 rfl (fun hc => ?_) (fun hc => ?_))))))
      ·replace h := B2 hc h
       clear hc
       refine son rfl rfl rfl (sv rfl (Aa Wv rfl) (son rfl rfl rfl (sv rfl (Ao Ah2 rfl (.lp _ _ _ rfl) (Nbl rfl)) (son rfl rfl rfl ?_))))
       obtain ⟨v8, hv8, h⟩ := An h
       refine A2 rfl Ar8 (Ac rfl Al) (Aj rfl) (M4 hv8) (sv rfl (Au rfl rfl) (sv rfl (Ag rfl) (Bo 35 rfl (fun hc => ?_) (fun hc => ?_))))
       ·replace h := B2 hc h
        clear hc
        refine son rfl rfl rfl (sv rfl (Aa Qi rfl) (son rfl rfl rfl (sv rfl (Ae L4 rfl (.lp _ _ _ rfl) rfl) (son rfl rfl rfl (sv rfl (Az Lh rfl) (son rfl rfl rfl (sv rfl (Fv rfl rfl) (sv rfl (Au rfl rfl) (sv rfl (Ak rfl) (As (Bj ?_)))))))))))
        obtain rfl := Option.some.inj h
        refine ⟨Or.inr rfl, _, _, _, (Ad (Bd.tmp _ _ rfl) Af), (Aj rfl), ?_⟩
        rfl
       ·replace h := B1 hc h
        clear hc
        refine Av rfl rfl rfl rfl (Av rfl rfl rfl rfl (Av rfl rfl rfl rfl (Av rfl rfl rfl rfl (sv rfl (Am rfl rfl) (sv rfl (Ak rfl) (As (Bj ?_)))))))
        obtain rfl := Option.some.inj h
        refine ⟨Or.inr rfl, _, _, _, (Ad (Bd.tmp _ _ rfl) Af), (Aj rfl), ?_⟩
        rfl
      ·replace h := B1 hc h
       clear hc
       refine Av rfl rfl rfl rfl (Av rfl rfl rfl rfl (Av rfl rfl rfl rfl (sv rfl (Am rfl rfl) (sv rfl (Ag rfl) (Av rfl rfl rfl rfl (Av rfl rfl rfl rfl (Av rfl rfl rfl rfl (Av rfl rfl rfl rfl (sv rfl (Am rfl rfl) (sv rfl (Ak rfl) (As (Bj ?_))))))))))))
       obtain rfl := Option.some.inj h
       refine ⟨Or.inr rfl, _, _, _, (Ad (Bd.tmp _ _ rfl) Af), (Aj rfl), ?_⟩
       rfl
    ·replace h := B1 hc h
     clear hc
     refine Av rfl rfl rfl rfl (Av rfl rfl rfl rfl (Av rfl rfl rfl rfl (Av rfl rfl rfl rfl (Av rfl rfl rfl rfl (Fz rfl rfl rfl (Fz rfl rfl rfl (Fz rfl rfl rfl (Av rfl rfl rfl rfl (sv rfl (Am rfl rfl) (sv rfl (Ag rfl) (Av rfl rfl rfl rfl (Av rfl rfl rfl rfl (Av rfl rfl rfl rfl (sv rfl (Am rfl rfl) (sv rfl (Ag rfl) (Av rfl rfl rfl rfl (Av rfl rfl rfl rfl (Av rfl rfl rfl rfl (Av rfl rfl rfl rfl (sv rfl (Am rfl rfl) (sv rfl (Ak rfl) (As (Bj ?_)))))))))))))))))))))))
     obtain rfl := Option.some.inj h
     refine ⟨Or.inr rfl, _, _, _, (Ad (Bd.tmp _ _ rfl) Af), (Aj rfl), ?_⟩
     rfl
   ·replace h := B1 hc h
    clear hc
    refine Av rfl rfl rfl rfl (Av rfl rfl rfl rfl (sv rfl (Am rfl rfl) (sv rfl (Ag rfl) (Av rfl rfl rfl rfl (Av rfl rfl rfl rfl (Av rfl rfl rfl rfl (Av rfl rfl rfl rfl (Av rfl rfl rfl rfl (Fz rfl rfl rfl (Fz rfl rfl rfl (Fz rfl rfl rfl (Av rfl rfl rfl rfl (sv rfl (Am rfl rfl) (sv rfl (Ag rfl) (Av rfl rfl rfl rfl (Av rfl rfl rfl rfl (Av rfl rfl rfl rfl (sv rfl (Am rfl rfl) (sv rfl (Ag rfl) (Av rfl rfl rfl rfl (Av rfl rfl rfl rfl (Av rfl rfl rfl rfl (Av rfl rfl rfl rfl (sv rfl (Am rfl rfl) (sv rfl (Ak rfl) (As (Bj ?_)))))))))))))))))))))))))))
    obtain rfl := Option.some.inj h
    refine ⟨Or.inr rfl, _, _, _, (Ad (Bd.tmp _ _ rfl) Af), (Aj rfl), ?_⟩
    rfl
  ·replace h := B1 hc h
   clear hc
   refine Av rfl rfl rfl rfl (Av rfl rfl rfl rfl (Av rfl rfl rfl rfl (sv rfl (Am rfl rfl) (sv rfl (Ag rfl) (Av rfl rfl rfl rfl (Av rfl rfl rfl rfl (sv rfl (Am rfl rfl) (sv rfl (Ag rfl) (Av rfl rfl rfl rfl (Av rfl rfl rfl rfl (Av rfl rfl rfl rfl (Av rfl rfl rfl rfl (Av rfl rfl rfl rfl (Fz rfl rfl rfl (Fz rfl rfl rfl (Fz rfl rfl rfl (Av rfl rfl rfl rfl (sv rfl (Am rfl rfl) (sv rfl (Ag rfl) (Av rfl rfl rfl rfl (Av rfl rfl rfl rfl (Av rfl rfl rfl rfl (sv rfl (Am rfl rfl) (sv rfl (Ag rfl) (Av rfl rfl rfl rfl (Av rfl rfl rfl rfl (Av rfl rfl rfl rfl (Av rfl rfl rfl rfl (sv rfl (Am rfl rfl) (sv rfl (Ak rfl) (As (Bj ?_))))))))))))))))))))))))))))))))
   obtain rfl := Option.some.inj h
   refine ⟨Or.inr rfl, _, _, _, (Ad (Bd.tmp _ _ rfl) Af), (Aj rfl), ?_⟩
   rfl
 ·replace h := B1 hc h
  clear hc
  refine Av rfl rfl rfl rfl (Av rfl rfl rfl rfl (sv rfl (Am rfl rfl) (sv rfl (Ag rfl) (Av rfl rfl rfl rfl (Av rfl rfl rfl rfl (Av rfl rfl rfl rfl (sv rfl (Am rfl rfl) (sv rfl (Ag rfl) (Av rfl rfl rfl rfl (Av rfl rfl rfl rfl (sv rfl (Am rfl rfl) (sv rfl (Ag rfl) (Av rfl rfl rfl rfl (Av rfl rfl rfl rfl (Av rfl rfl rfl rfl (Av rfl rfl rfl rfl (Av rfl rfl rfl rfl (Fz rfl rfl rfl (Fz rfl rfl rfl (Fz rfl rfl rfl (Av rfl rfl rfl rfl (sv rfl (Am rfl rfl) (sv rfl (Ag rfl) (Av rfl rfl rfl rfl (Av rfl rfl rfl rfl (Av rfl rfl rfl rfl (sv rfl (Am rfl rfl) (sv rfl (Ag rfl) (Av rfl rfl rfl rfl (Av rfl rfl rfl rfl (Av rfl rfl rfl rfl (Av rfl rfl rfl rfl (sv rfl (Am rfl rfl) (sv rfl (Ak rfl) (As (Bj ?_))))))))))))))))))))))))))))))))))))
  obtain rfl := Option.some.inj h
  refine ⟨Or.inr rfl, _, _, _, (Ad (Bd.tmp _ _ rfl) Af), (Aj rfl), ?_⟩
  rfl
def Iw (a0 : Int) (b1 : Unit) : Option (List A8) :=
 if (decide (0 < (wI (a0 - (wI (0 - 0)))))) then (if 0 < (wI (a0 - (wI (0 - 0)))) ∧ (wI (a0 - (wI (0 - 0)))) * ((96 : Nat) : Int) ≤ 281474976710656 then (if (0 : Int) ≤ 0 ∧ 0 ≤ ((List.replicate (wI (a0 - (wI (0 - 0)))).toNat Lx).length : Int) then (some ((List.replicate (wI (a0 - (wI (0 - 0)))).toNat Lx).take (0 : Int).toNat)) else none) else none) else (some ([] : List A8))
def Iz (a0 : Int) : Option (List A8) :=
 if (decide (a0 < 0)) then none else (Iw a0 ())
set_option maxRecDepth 100000 in
theorem Sr {a0 : Int} {r : (List A8)} (h : Iz a0 = some r) : G2 Tryz.prog 125 [] [.one (Znl), .one (Ii6 a0)] (fun y m' => y = .s (.one (.ls 0 r.length)) ∧ m' = [.arr 61 12 0 (r.flatMap A6)]) := by
 unfold Iz at h
 refine Cv Tryz.func125 rfl (nt := 27) rfl (Nbl rfl) ?_
 intro w0 S0 X0 H0
 refine Aq (Ab (sv rfl (Ak rfl) (As (Aq (Aq (Ab (sv rfl (Ag rfl) (sv rfl (Cp rfl rfl) (As (G5 (Unit) (fun b1 => [(0, .s (.one (Znl))), (1, .s (.one (Ii6 a0)))]) (fun b1 => []) (fun b1 => Iw a0 b1 = some r) (fun _ _ => Be rfl) (fun _ _ => A0 rfl) (fun _ _ => Nat.le_of_ble_eq_true rfl) (fun b1 h => ?_) ?_))))))))))
 ·unfold Iw at h
  refine Aq (Aq (Ab (sv rfl (Ag rfl) (sv rfl (Ag rfl) (sv rfl (Kt Zf rfl) (sv rfl (Ag rfl) (sv rfl (Kl Zf rfl) (sv rfl (Mq rfl rfl) (sv rfl (Mq rfl rfl) (sv rfl (Ak rfl) (As (Aq (Ab (sv rfl (Ag rfl) (sv rfl (C6 rfl rfl) (As (ccI h rfl (fun h => ?_) (fun h => ?_))))))))))))))))))
  ·refine Ab (sv rfl (Ag rfl) (sv rfl (Ag rfl) (sv rfl (Kt Zf rfl) (sv rfl (N0 Zf rfl rfl) (sv rfl (Ag rfl) ?_)))))
   obtain ⟨hm2, h⟩ := D9 h
   refine Alm (f := A6) (z := Lx) rfl Tryz.underlying41 Atb Tryz.underlying3 (fun _ => rfl) rfl rfl rfl hm2 (by decide) ?_
   refine sv rfl (Ag rfl) (sv rfl (Kl Zf rfl) ?_)
   obtain ⟨hs3, h⟩ := D9 h
   refine Adk (f := A6) rfl Zf (fun _ => rfl) rfl rfl rfl rfl rfl hs3 ?_
   refine sv rfl (Ak rfl) (As (Aq (Ab (sv rfl (Ag rfl) (sv rfl (Ak rfl) (As (Bj ?_)))))))
   obtain rfl := Option.some.inj h
   exact ⟨Or.inr rfl, _, [1], [.one (.ls 0 ((List.replicate (wI (a0 - (wI (0 - 0)))).toNat Lx).take (0 : Int).toNat).length)], [.arr 61 12 0 (((List.replicate (wI (a0 - (wI (0 - 0)))).toNat Lx).take (0 : Int).toNat).flatMap A6)], (Ad (Bd.tmp _ _ rfl) Af), rfl, rfl, ⟨by decide, rfl⟩, rfl, rfl, ⟨rfl, rfl⟩⟩
  ·refine Bl (Ai (Aq (Ab (sv rfl (Ag rfl) (sv rfl (Ak rfl) (As ?_))))))
   refine O2 61 12 4 (by decide) rfl ?_
   refine Bj ?_
   obtain rfl := Option.some.inj h
   exact ⟨Or.inr rfl, _, [0], [.one (.ls 0 ([] : List A8).length)], [.arr 61 12 0 (([] : List A8).flatMap A6)], (Ad (Bd.tmp _ _ rfl) Af), rfl, rfl, ⟨by decide, rfl⟩, rfl, rfl, ⟨rfl, rfl⟩⟩
 ·skip
  refine ccI h rfl (fun h => ?_) (fun h => ?_)
  ·cases h
  ·refine Bl (Ai ?_)
   exact ⟨(), _, h, ⟨rfl, rfl, trivial⟩, rfl⟩
def Kc (b3 : (List A8)) : Option (List A8) :=
 some b3
def Es (a0 : List (List A8)) (s4 : Int × (List A8)) : Option (LB (Int × (List A8)) ((List A8))) :=
 if (decide (s4.1 < (a0.length : Int))) then ((idx a0 s4.1).bind fun u5 => if (s4.2.length + u5.length) * 96 ≤ 140737488355328 then (some (.cont ((wI (s4.1 + 1)), (s4.2 ++ u5)))) else none) else (some (.brk s4.2))
def H6 (a0 : List (List A8)) (b1 : Int) : Option (List A8) :=
 (Iz b1).bind fun v2 => (E4 (Es a0) Di (0, v2)).bind fun e7 => Kc e7
def Ew (a0 : List (List A8)) (s8 : Int × Int) : Option (LB (Int × Int) (Int)) :=
 if (decide (s8.2 < (a0.length : Int))) then ((idx a0 s8.2).bind fun u9 => if (decide ((wI (s8.1 + (u9.length : Int))) < 0)) then none else (some (.cont ((wI (s8.1 + (u9.length : Int))), (wI (s8.2 + 1)))))) else (some (.brk s8.1))
end Go.Proofs.YtbjckaahoacbfaaGreatDoor.Abs
