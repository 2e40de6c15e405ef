/- . -/
import Derived.Test.YtbjckaahoacbfaaGreatDoorSAbsC
import Derived.Test.YtbjckaahoacbfaaGreatDoorProg
set_option linter.unusedVariables false
set_option linter.unusedSimpArgs false
namespace Go.Proofs.YtbjckaahoacbfaaGreatDoor.Abs
open Go.RowKit Go.Proofs
set_option maxRecDepth 100000
structure B2 where
 Lo : List UInt8
 Hi : List UInt8
 Open : Bool
def Aaz (x : B2) : List Lf := [.sl x.Lo.length (x.Lo.flatMap eU8),.sl x.Hi.length (x.Hi.flatMap eU8),.b x.Open]
structure Kh where
 What : Int
 A : Int
 B : Int
 N : Int
 Key : List UInt8
 Rng : B2
def Ep (x : Kh) : List Lf := [.i .i64 x.What,.i .i64 x.A,.i .i64 x.B,.i .i64 x.N,.sl x.Key.length (x.Key.flatMap eU8),.sl x.Rng.Lo.length (x.Rng.Lo.flatMap eU8),.sl x.Rng.Hi.length (x.Rng.Hi.flatMap eU8),.b x.Rng.Open]
structure Cp where
 RO : Bool
 Ops : List Kh
def Ack (x : Cp) : List Lf := [.b x.RO,.sl x.Ops.length (x.Ops.flatMap Ep)]
structure Cf where
 Token : Int
 Prog : Cp
def Ck (x : Cf) : List Lf := [.i .i64 x.Token,.b x.Prog.RO,.sl x.Prog.Ops.length (x.Prog.Ops.flatMap Ep)]
structure Dk where
 Key : List UInt8
 Val : List UInt8
def Dw (x : Dk) : List Lf := [.sl x.Key.length (x.Key.flatMap eU8),.sl x.Val.length (x.Val.flatMap eU8)]
structure Ij where
 Kind : Int
 Seq : Int
 Code : Int
 N : Int
 Found : Bool
 Val : List UInt8
 List : List Dk
def Aat (x : Ij) : List Lf := [.i .i64 x.Kind,.i .i64 x.Seq,.i .i64 x.Code,.i .i64 x.N,.b x.Found,.sl x.Val.length (x.Val.flatMap eU8),.sl x.List.length (x.List.flatMap Dw)]
structure G3 where
 What : Int
 N : Int
 Task : Cf
 Reply : Ij
 Bytes : List UInt8
def Lj (x : G3) : List Lf := [.i .i64 x.What,.i .i64 x.N,.i .i64 x.Task.Token,.b x.Task.Prog.RO,.sl x.Task.Prog.Ops.length (x.Task.Prog.Ops.flatMap Ep),.i .i64 x.Reply.Kind,.i .i64 x.Reply.Seq,.i .i64 x.Reply.Code,.i .i64 x.Reply.N,.b x.Reply.Found,.sl x.Reply.Val.length (x.Reply.Val.flatMap eU8),.sl x.Reply.List.length (x.Reply.List.flatMap Dw),.sl x.Bytes.length (x.Bytes.flatMap eU8)]
structure D3 where
 Wait : Int
 Most : Int
 Tries : Int
def Afc (x : D3) : List Lf := [.i .i64 x.Wait,.i .i64 x.Most,.i .i64 x.Tries]
structure Cx where
 Who : Int
 Plan : D3
 Attempts : Int
 Budget : Int
def Zu (x : Cx) : List Lf := [.i .i64 x.Who,.i .i64 x.Plan.Wait,.i .i64 x.Plan.Most,.i .i64 x.Plan.Tries,.i .i64 x.Attempts,.i .i64 x.Budget]
structure B9 where
 What : Int
 A : Int
 B : Int
 N : Int
 Key : List UInt8
 Rng : B2
def Ce (x : B9) : List Lf := [.i .i64 x.What,.i .i64 x.A,.i .i64 x.B,.i .i64 x.N,.sl x.Key.length (x.Key.flatMap eU8),.sl x.Rng.Lo.length (x.Rng.Lo.flatMap eU8),.sl x.Rng.Hi.length (x.Rng.Hi.flatMap eU8),.b x.Rng.Open]
structure Cv where
 RO : Bool
 Ops : List B9
def Ag4 (x : Cv) : List Lf := [.b x.RO,.sl x.Ops.length (x.Ops.flatMap Ce)]
structure Am where
 Token : Int
 Prog : Cv
def Ap (x : Am) : List Lf := [.i .i64 x.Token,.b x.Prog.RO,.sl x.Prog.Ops.length (x.Prog.Ops.flatMap Ce)]
structure Ee where
 R0 : Int
 R1 : Int
 R2 : Int
 R3 : Int
 R4 : Int
 R5 : Int
 R6 : Int
 R7 : Int
def Aa7 (x : Ee) : List Lf := [.i .i64 x.R0,.i .i64 x.R1,.i .i64 x.R2,.i .i64 x.R3,.i .i64 x.R4,.i .i64 x.R5,.i .i64 x.R6,.i .i64 x.R7]
structure A1 where
 PC : Int
 Regs : Ee
 Stopped : Bool
def Ae8 (x : A1) : List Lf := [.i .i64 x.PC,.i .i64 x.Regs.R0,.i .i64 x.Regs.R1,.i .i64 x.Regs.R2,.i .i64 x.Regs.R3,.i .i64 x.Regs.R4,.i .i64 x.Regs.R5,.i .i64 x.Regs.R6,.i .i64 x.Regs.R7,.b x.Stopped]
structure B7 where
 Kind : Int
 Seq : Int
 Token : Int
 Attempt : Int
 RO : Bool
 Key : List UInt8
 Val : List UInt8
 Rng : B2
def Anc (x : B7) : List Lf := [.i .i64 x.Kind,.i .i64 x.Seq,.i .i64 x.Token,.i .i64 x.Attempt,.b x.RO,.sl x.Key.length (x.Key.flatMap eU8),.sl x.Val.length (x.Val.flatMap eU8),.sl x.Rng.Lo.length (x.Rng.Lo.flatMap eU8),.sl x.Rng.Hi.length (x.Rng.Hi.flatMap eU8),.b x.Rng.Open]
structure A0 where
 Buf : List UInt8
 Dead : Int
def Zz (x : A0) : List Lf := [.sl x.Buf.length (x.Buf.flatMap eU8),.i .i64 x.Dead]
structure A8 where
 Token : Int
 Code : Int
 Attempt : Int
 Ts : Int
 Regs : Ee
def A3 (x : A8) : List Lf := [.i .i64 x.Token,.i .i64 x.Code,.i .i64 x.Attempt,.i .i64 x.Ts,.i .i64 x.Regs.R0,.i .i64 x.Regs.R1,.i .i64 x.Regs.R2,.i .i64 x.Regs.R3,.i .i64 x.Regs.R4,.i .i64 x.Regs.R5,.i .i64 x.Regs.R6,.i .i64 x.Regs.R7]
structure A9 where
 Token : Int
 Attempt : Int
 Regs : Ee
def A5 (x : A9) : List Lf := [.i .i64 x.Token,.i .i64 x.Attempt,.i .i64 x.Regs.R0,.i .i64 x.Regs.R1,.i .i64 x.Regs.R2,.i .i64 x.Regs.R3,.i .i64 x.Regs.R4,.i .i64 x.Regs.R5,.i .i64 x.Regs.R6,.i .i64 x.Regs.R7]
structure Ad where
 Cfg : Cx
 Tasks : List Am
 Phase : Int
 Epoch : Int
 Seq : Int
 Attempt : Int
 Sent : Int
 Left : Int
 Resets : Int
 Risk : Bool
 St : A1
 Req : B7
 In : A0
 Out : List UInt8
 Done : List A8
 Tried : List A9
def Zt (x : Ad) : List Lf := [.i .i64 x.Cfg.Who,.i .i64 x.Cfg.Plan.Wait,.i .i64 x.Cfg.Plan.Most,.i .i64 x.Cfg.Plan.Tries,.i .i64 x.Cfg.Attempts,.i .i64 x.Cfg.Budget,.sl x.Tasks.length (x.Tasks.flatMap Ap),.i .i64 x.Phase,.i .i64 x.Epoch,.i .i64 x.Seq,.i .i64 x.Attempt,.i .i64 x.Sent,.i .i64 x.Left,.i .i64 x.Resets,.b x.Risk,.i .i64 x.St.PC,.i .i64 x.St.Regs.R0,.i .i64 x.St.Regs.R1,.i .i64 x.St.Regs.R2,.i .i64 x.St.Regs.R3,.i .i64 x.St.Regs.R4,.i .i64 x.St.Regs.R5,.i .i64 x.St.Regs.R6,.i .i64 x.St.Regs.R7,.b x.St.Stopped,.i .i64 x.Req.Kind,.i .i64 x.Req.Seq,.i .i64 x.Req.Token,.i .i64 x.Req.Attempt,.b x.Req.RO,.sl x.Req.Key.length (x.Req.Key.flatMap eU8),.sl x.Req.Val.length (x.Req.Val.flatMap eU8),.sl x.Req.Rng.Lo.length (x.Req.Rng.Lo.flatMap eU8),.sl x.Req.Rng.Hi.length (x.Req.Rng.Hi.flatMap eU8),.b x.Req.Rng.Open,.sl x.In.Buf.length (x.In.Buf.flatMap eU8),.i .i64 x.In.Dead,.sl x.Out.length (x.Out.flatMap eU8),.sl x.Done.length (x.Done.flatMap A3),.sl x.Tried.length (x.Tried.flatMap A5)]
structure Mh where
 R0 : Bool
 R1 : Bool
 R2 : Bool
def Aer (x : Mh) : List Lf := [.b x.R0,.b x.R1,.b x.R2]
structure Ma where
 size_ : Int
 sum_ : BitVec 32
def Ae9 (x : Ma) : List Lf := [.i .i64 x.size_,.i .u32 (x.sum_.toNat : Int)]
structure G6 where
 head_ : Ma
 payload_ : List UInt8
def Acu (x : G6) : List Lf := [.i .i64 x.head_.size_,.i .u32 (x.head_.sum_.toNat : Int),.sl x.payload_.length (x.payload_.flatMap eU8)]
structure Hh where
 token_ : Bool
 attempt_ : Bool
 ro_ : Bool
 key_ : Bool
 val_ : Bool
 rng_ : Bool
def W3 (x : Hh) : List Lf := [.b x.token_,.b x.attempt_,.b x.ro_,.b x.key_,.b x.val_,.b x.rng_]
def Au5 : List Hh := [⟨false,false,false,false,false,false⟩,⟨true,true,false,false,false,false⟩,⟨true,true,true,false,false,false⟩,⟨false,false,false,true,false,false⟩,⟨false,false,false,true,true,false⟩,⟨false,false,false,true,false,false⟩,⟨false,false,false,false,false,true⟩,⟨false,false,false,false,false,false⟩,⟨false,false,false,false,false,false⟩,⟨true,true,false,false,false,false⟩,⟨true,false,false,false,false,false⟩,⟨false,false,false,false,false,false⟩]
structure Ba where
 Kind : Int
 Seq : Int
 Code : Int
 N : Int
 Found : Bool
 Val : List UInt8
 List : List Dk
def Ahp (x : Ba) : List Lf := [.i .i64 x.Kind,.i .i64 x.Seq,.i .i64 x.Code,.i .i64 x.N,.b x.Found,.sl x.Val.length (x.Val.flatMap eU8),.sl x.List.length (x.List.flatMap Dw)]
def I1 (a : Ee) (j : Int) (v : Int) : Option Ee :=
 if j = 0 then some ⟨v,a.R1,a.R2,a.R3,a.R4,a.R5,a.R6,a.R7⟩ else if j = 1 then some ⟨a.R0,v,a.R2,a.R3,a.R4,a.R5,a.R6,a.R7⟩ else if j = 2 then some ⟨a.R0,a.R1,v,a.R3,a.R4,a.R5,a.R6,a.R7⟩ else if j = 3 then some ⟨a.R0,a.R1,a.R2,v,a.R4,a.R5,a.R6,a.R7⟩ else if j = 4 then some ⟨a.R0,a.R1,a.R2,a.R3,v,a.R5,a.R6,a.R7⟩ else if j = 5 then some ⟨a.R0,a.R1,a.R2,a.R3,a.R4,v,a.R6,a.R7⟩ else if j = 6 then some ⟨a.R0,a.R1,a.R2,a.R3,a.R4,a.R5,v,a.R7⟩ else if j = 7 then some ⟨a.R0,a.R1,a.R2,a.R3,a.R4,a.R5,a.R6,v⟩ else none
structure Aby where
 Wait : Int
 Most : Int
 Tries : Int
structure W4 where
 Who : Int
 Plan : Aby
 Attempts : Int
 Budget : Int
structure J9 where
 PC : Int
 Regs : Ee
 Stopped : Bool
def Ahe (x : J9) : List Lf := [.i .i64 x.PC,.i .i64 x.Regs.R0,.i .i64 x.Regs.R1,.i .i64 x.Regs.R2,.i .i64 x.Regs.R3,.i .i64 x.Regs.R4,.i .i64 x.Regs.R5,.i .i64 x.Regs.R6,.i .i64 x.Regs.R7,.b x.Stopped]
structure N5 where
 Kind : Int
 Seq : Int
 Token : Int
 Attempt : Int
 RO : Bool
 Key : List UInt8
 Val : List UInt8
 Rng : B2
def Am8 (x : N5) : List Lf := [.i .i64 x.Kind,.i .i64 x.Seq,.i .i64 x.Token,.i .i64 x.Attempt,.b x.RO,.sl x.Key.length (x.Key.flatMap eU8),.sl x.Val.length (x.Val.flatMap eU8),.sl x.Rng.Lo.length (x.Rng.Lo.flatMap eU8),.sl x.Rng.Hi.length (x.Rng.Hi.flatMap eU8),.b x.Rng.Open]
structure Nj where
 Buf : List UInt8
 Dead : Int
def Ad5 (x : Nj) : List Lf := [.sl x.Buf.length (x.Buf.flatMap eU8),.i .i64 x.Dead]
structure Di where
 Token : Int
 Code : Int
 Attempt : Int
 Ts : Int
 Regs : Ee
def C0 (x : Di) : List Lf := [.i .i64 x.Token,.i .i64 x.Code,.i .i64 x.Attempt,.i .i64 x.Ts,.i .i64 x.Regs.R0,.i .i64 x.Regs.R1,.i .i64 x.Regs.R2,.i .i64 x.Regs.R3,.i .i64 x.Regs.R4,.i .i64 x.Regs.R5,.i .i64 x.Regs.R6,.i .i64 x.Regs.R7]
structure Cw where
 Token : Int
 Attempt : Int
 Regs : Ee
def Fz (x : Cw) : List Lf := [.i .i64 x.Token,.i .i64 x.Attempt,.i .i64 x.Regs.R0,.i .i64 x.Regs.R1,.i .i64 x.Regs.R2,.i .i64 x.Regs.R3,.i .i64 x.Regs.R4,.i .i64 x.Regs.R5,.i .i64 x.Regs.R6,.i .i64 x.Regs.R7]
structure Cq where
 Cfg : W4
 Tasks : List Cf
 Phase : Int
 Epoch : Int
 Seq : Int
 Attempt : Int
 Sent : Int
 Left : Int
 Resets : Int
 Risk : Bool
 St : J9
 Req : N5
 In : Nj
 Out : List UInt8
 Done : List Di
 Tried : List Cw
def Aeu (x : Cq) : List Lf := [.i .i64 x.Cfg.Who,.i .i64 x.Cfg.Plan.Wait,.i .i64 x.Cfg.Plan.Most,.i .i64 x.Cfg.Plan.Tries,.i .i64 x.Cfg.Attempts,.i .i64 x.Cfg.Budget,.sl x.Tasks.length (x.Tasks.flatMap Ck),.i .i64 x.Phase,.i .i64 x.Epoch,.i .i64 x.Seq,.i .i64 x.Attempt,.i .i64 x.Sent,.i .i64 x.Left,.i .i64 x.Resets,.b x.Risk,.i .i64 x.St.PC,.i .i64 x.St.Regs.R0,.i .i64 x.St.Regs.R1,.i .i64 x.St.Regs.R2,.i .i64 x.St.Regs.R3,.i .i64 x.St.Regs.R4,.i .i64 x.St.Regs.R5,.i .i64 x.St.Regs.R6,.i .i64 x.St.Regs.R7,.b x.St.Stopped,.i .i64 x.Req.Kind,.i .i64 x.Req.Seq,.i .i64 x.Req.Token,.i .i64 x.Req.Attempt,.b x.Req.RO,.sl x.Req.Key.length (x.Req.Key.flatMap eU8),.sl x.Req.Val.length (x.Req.Val.flatMap eU8),.sl x.Req.Rng.Lo.length (x.Req.Rng.Lo.flatMap eU8),.sl x.Req.Rng.Hi.length (x.Req.Rng.Hi.flatMap eU8),.b x.Req.Rng.Open,.sl x.In.Buf.length (x.In.Buf.flatMap eU8),.i .i64 x.In.Dead,.sl x.Out.length (x.Out.flatMap eU8),.sl x.Done.length (x.Done.flatMap C0),.sl x.Tried.length (x.Tried.flatMap Fz)]
class EL (α : Type) where
 el : α → List Lf
open EL
instance : EL B2 := ⟨Aaz⟩
instance : EL Kh := ⟨Ep⟩
instance : EL Cp := ⟨Ack⟩
instance : EL Cf := ⟨Ck⟩
instance : EL Dk := ⟨Dw⟩
instance : EL Ij := ⟨Aat⟩
instance : EL G3 := ⟨Lj⟩
instance : EL D3 := ⟨Afc⟩
instance : EL Cx := ⟨Zu⟩
instance : EL B9 := ⟨Ce⟩
instance : EL Cv := ⟨Ag4⟩
instance : EL Am := ⟨Ap⟩
instance : EL Ee := ⟨Aa7⟩
instance : EL A1 := ⟨Ae8⟩
instance : EL B7 := ⟨Anc⟩
instance : EL A0 := ⟨Zz⟩
instance : EL A8 := ⟨A3⟩
instance : EL A9 := ⟨A5⟩
instance : EL Ad := ⟨Zt⟩
instance : EL Mh := ⟨Aer⟩
instance : EL Ma := ⟨Ae9⟩
instance : EL G6 := ⟨Acu⟩
instance : EL Hh := ⟨W3⟩
instance : EL Ba := ⟨Ahp⟩
instance : EL J9 := ⟨Ahe⟩
instance : EL N5 := ⟨Am8⟩
instance : EL Nj := ⟨Ad5⟩
instance : EL Di := ⟨C0⟩
instance : EL Cw := ⟨Fz⟩
instance : EL Cq := ⟨Aeu⟩
abbrev Bu : B2 := (B2.mk ([] : List UInt8) ([] : List UInt8) false)
abbrev Ou : Am := (Am.mk 0 (Cv.mk false ([] : List B9)))
abbrev G4 : A1 := (A1.mk 0 (Ee.mk 0 0 0 0 0 0 0 0) false)
abbrev Pl : B7 := (B7.mk 0 0 0 0 false ([] : List UInt8) ([] : List UInt8) (B2.mk ([] : List UInt8) ([] : List UInt8) false))
abbrev M4 : A8 := (A8.mk 0 0 0 0 (Ee.mk 0 0 0 0 0 0 0 0))
abbrev Nx : A9 := (A9.mk 0 0 (Ee.mk 0 0 0 0 0 0 0 0))
abbrev C4 : Ad := (Ad.mk (Cx.mk 0 (D3.mk 0 0 0) 0 0) ([] : List Am) 0 0 0 0 0 0 0 false (A1.mk 0 (Ee.mk 0 0 0 0 0 0 0 0) false) (B7.mk 0 0 0 0 false ([] : List UInt8) ([] : List UInt8) (B2.mk ([] : List UInt8) ([] : List UInt8) false)) (A0.mk ([] : List UInt8) 0) ([] : List UInt8) ([] : List A8) ([] : List A9))
abbrev Aa2 : Ba := (Ba.mk 0 0 0 0 false ([] : List UInt8) ([] : List Dk))
abbrev Znl : Lf := .raw (.slice none 0 0)
abbrev Ii6 (n : Int) : Lf := .i .i64 n
theorem SJ {α : Type} {a b : α} (h : some a = some b) : a = b := Option.some.inj h
abbrev Nfu : Lf := .raw .nilFunc
abbrev Thb (a0 : Ad) (v1 : J9) (v2 : N5) (x y z : Lf) : List Lf := [Ii6 a0.Cfg.Who,Ii6 a0.Cfg.Plan.Wait,Ii6 a0.Cfg.Plan.Most,Ii6 a0.Cfg.Plan.Tries,Ii6 a0.Cfg.Attempts,Ii6 a0.Cfg.Budget,x,Ii6 a0.Phase,Ii6 a0.Epoch,Ii6 a0.Seq,Ii6 a0.Attempt,Ii6 a0.Sent,Ii6 a0.Left,Ii6 a0.Resets,.b a0.Risk,Ii6 v1.PC,Ii6 v1.Regs.R0,Ii6 v1.Regs.R1,Ii6 v1.Regs.R2,Ii6 v1.Regs.R3,Ii6 v1.Regs.R4,Ii6 v1.Regs.R5,Ii6 v1.Regs.R6,Ii6 v1.Regs.R7,.b v1.Stopped,Ii6 v2.Kind,Ii6 v2.Seq,Ii6 v2.Token,Ii6 v2.Attempt,.b v2.RO,.sl v2.Key.length (v2.Key.flatMap eU8),.sl v2.Val.length (v2.Val.flatMap eU8),.sl v2.Rng.Lo.length (v2.Rng.Lo.flatMap eU8),.sl v2.Rng.Hi.length (v2.Rng.Hi.flatMap eU8),.b v2.Rng.Open,.sl a0.In.Buf.length (a0.In.Buf.flatMap eU8),Ii6 a0.In.Dead,.sl a0.Out.length (a0.Out.flatMap eU8),y,z]
abbrev Zba : List Lf := [Ii6 0,Ii6 0,Ii6 0,Ii6 0,Ii6 0,Ii6 0,Znl,Ii6 0,Ii6 0,Ii6 0,Ii6 0,Ii6 0,Ii6 0,Ii6 0,.b false,Ii6 0,Ii6 0,Ii6 0,Ii6 0,Ii6 0,Ii6 0,Ii6 0,Ii6 0,Ii6 0,.b false,Ii6 0,Ii6 0,Ii6 0,Ii6 0,.b false,Znl,Znl,Znl,Znl,.b false,Znl,Ii6 0,Znl,Znl,Znl]
abbrev Zbb : List Lf := [Ii6 0,Ii6 0,Ii6 0,Ii6 0,Ii6 0,Ii6 0,Ii6 0,Ii6 0,Ii6 0,.b false]
abbrev Zbc : List Lf := [Ii6 0,Ii6 0,Ii6 0,Ii6 0,.b false,Znl,Znl,Znl,Znl,.b false]
abbrev Zbd : List Lf := [Ii6 0,Ii6 0,Ii6 0,Ii6 0,.b false,Znl,Znl]
abbrev Zbe : List Lf := [Ii6 0,Ii6 0,Ii6 0,Ii6 0,Ii6 0,Ii6 0,Ii6 0,Ii6 0,Ii6 0,Ii6 0,Ii6 0,Ii6 0]
abbrev Zbf : List Lf := [Ii6 0,Ii6 0,Ii6 0,Ii6 0,Ii6 0,Ii6 0,Ii6 0,Ii6 0,Ii6 0,Ii6 0]
theorem Nbl {n m : Nat} (h : Nat.ble n m = true) : n ≤ m := Nat.le_of_ble_eq_true h
theorem Avv : ZI Tryz.prog 28 ([Ii6 0,Ii6 0,Ii6 0,Ii6 0,Ii6 0,Ii6 0]) := Mo (by kernel_rfl)
theorem A00 : ZI Tryz.prog 26 ([Ii6 0,Ii6 0,Ii6 0]) := Mo (by kernel_rfl)
theorem A04 : PI Tryz.prog 26 [(0,1),(1,1),(2,1)] := Nz Tryz.underlying26 (by kernel_rfl) (by kernel_rfl)
theorem A1g : PI Tryz.prog 28 [(0,1),(1,3),(4,1),(5,1)] := Nz Tryz.underlying28 (by kernel_rfl) (by kernel_rfl)
theorem Ay0 : (Tryz.prog.info? 28).map (·.size) = some 6 := by kernel_rfl
theorem Atu : TI Tryz.prog 28 true 6 := ⟨⟨_,Tryz.underlying28,rfl⟩,by kernel_rfl⟩
theorem Ay3 : FnI Tryz.prog 10 := ⟨⟨_,Tryz.func10,by kernel_rfl,by kernel_rfl⟩⟩
theorem O1 : ZI Tryz.prog 44 (Zba) := Mo (by kernel_rfl)
theorem Agg : FI Tryz.prog 28 0 0 := ⟨⟨_,_,1,Tryz.underlying28,rfl,rfl,by kernel_rfl,by decide⟩⟩
theorem ti3 : TI Tryz.prog 3 false 1 := ⟨⟨_,Tryz.underlying3,rfl⟩,by kernel_rfl⟩
theorem Ah4 : FnI Tryz.prog 36 := ⟨⟨_,Tryz.func36,by kernel_rfl,by kernel_rfl⟩⟩
theorem Ur : FI Tryz.prog 28 1 1 := ⟨⟨_,_,3,Tryz.underlying28,rfl,rfl,by kernel_rfl,by decide⟩⟩
theorem Aos : TI Tryz.prog 26 true 3 := ⟨⟨_,Tryz.underlying26,rfl⟩,by kernel_rfl⟩
theorem Acr : FI Tryz.prog 26 0 0 := ⟨⟨_,_,1,Tryz.underlying26,rfl,rfl,by kernel_rfl,by decide⟩⟩
theorem Af3 : FI Tryz.prog 26 1 1 := ⟨⟨_,_,1,Tryz.underlying26,rfl,rfl,by kernel_rfl,by decide⟩⟩
theorem Aak : FI Tryz.prog 26 2 2 := ⟨⟨_,_,1,Tryz.underlying26,rfl,rfl,by kernel_rfl,by decide⟩⟩
theorem Ayy : FnI Tryz.prog 58 := ⟨⟨_,Tryz.func58,by kernel_rfl,by kernel_rfl⟩⟩
theorem Afp : FI Tryz.prog 28 2 4 := ⟨⟨_,_,1,Tryz.underlying28,rfl,rfl,by kernel_rfl,by decide⟩⟩
theorem Aiq : FI Tryz.prog 28 3 5 := ⟨⟨_,_,1,Tryz.underlying28,rfl,rfl,by kernel_rfl,by decide⟩⟩
theorem Ayc : FnI Tryz.prog 25 := ⟨⟨_,Tryz.func25,by kernel_rfl,by kernel_rfl⟩⟩
theorem Agj : PI Tryz.prog 44 [(0,6),(6,1),(7,1),(8,1),(9,1),(10,1),(11,1),(12,1),(13,1),(14,1),(15,10),(25,10),(35,2),(37,1),(38,1),(39,1)] := Nz Tryz.underlying44 (by kernel_rfl) (by kernel_rfl)
theorem E2 : (Tryz.prog.info? 44).map (·.size) = some 40 := by kernel_rfl
theorem B6 : TI Tryz.prog 44 true 40 := ⟨⟨_,Tryz.underlying44,rfl⟩,by kernel_rfl⟩
theorem fn9 : FnI Tryz.prog 9 := ⟨⟨_,Tryz.func9,by kernel_rfl,by kernel_rfl⟩⟩
theorem Sd : FI Tryz.prog 44 0 0 := ⟨⟨_,_,6,Tryz.underlying44,rfl,rfl,by kernel_rfl,by decide⟩⟩
theorem G8 : FI Tryz.prog 44 2 7 := ⟨⟨_,_,1,Tryz.underlying44,rfl,rfl,by kernel_rfl,by decide⟩⟩
theorem Aar : FI Tryz.prog 44 3 8 := ⟨⟨_,_,1,Tryz.underlying44,rfl,rfl,by kernel_rfl,by decide⟩⟩
theorem Yw : FI Tryz.prog 44 4 9 := ⟨⟨_,_,1,Tryz.underlying44,rfl,rfl,by kernel_rfl,by decide⟩⟩
theorem Pd : FI Tryz.prog 44 5 10 := ⟨⟨_,_,1,Tryz.underlying44,rfl,rfl,by kernel_rfl,by decide⟩⟩
theorem Aay : FI Tryz.prog 44 6 11 := ⟨⟨_,_,1,Tryz.underlying44,rfl,rfl,by kernel_rfl,by decide⟩⟩
theorem Sf : FI Tryz.prog 44 7 12 := ⟨⟨_,_,1,Tryz.underlying44,rfl,rfl,by kernel_rfl,by decide⟩⟩
theorem Acv : FI Tryz.prog 44 8 13 := ⟨⟨_,_,1,Tryz.underlying44,rfl,rfl,by kernel_rfl,by decide⟩⟩
theorem A15 : FnI Tryz.prog 29 := ⟨⟨_,Tryz.func29,by kernel_rfl,by kernel_rfl⟩⟩
theorem Lw : FI Tryz.prog 44 1 6 := ⟨⟨_,_,1,Tryz.underlying44,rfl,rfl,by kernel_rfl,by decide⟩⟩
theorem Zp : TI Tryz.prog 29 false 1 := ⟨⟨_,Tryz.underlying29,rfl⟩,by kernel_rfl⟩
theorem Vl : SI Tryz.prog 29 94 3 := ⟨Tryz.underlying29,by kernel_rfl,by decide⟩
theorem Aqr : TI Tryz.prog 94 true 3 := ⟨⟨_,Tryz.underlying94,rfl⟩,by kernel_rfl⟩
theorem Asb : ZI Tryz.prog 94 ([Ii6 0,.b false,Znl]) := Mo (by kernel_rfl)
theorem Au2 : (Tryz.prog.info? 94).map (·.size) = some 3 := by kernel_rfl
theorem Sx : FI Tryz.prog 94 0 0 := ⟨⟨_,_,1,Tryz.underlying94,rfl,rfl,by kernel_rfl,by decide⟩⟩
theorem Y0 : FI Tryz.prog 94 1 1 := ⟨⟨_,_,2,Tryz.underlying94,rfl,rfl,by kernel_rfl,by decide⟩⟩
theorem Ara : TI Tryz.prog 92 true 2 := ⟨⟨_,Tryz.underlying92,rfl⟩,by kernel_rfl⟩
theorem Si : FI Tryz.prog 92 1 1 := ⟨⟨_,_,1,Tryz.underlying92,rfl,rfl,by kernel_rfl,by decide⟩⟩
theorem Ald : TI Tryz.prog 90 false 1 := ⟨⟨_,Tryz.underlying90,rfl⟩,by kernel_rfl⟩
theorem Aki : SI Tryz.prog 90 89 8 := ⟨Tryz.underlying90,by kernel_rfl,by decide⟩
theorem Ame : TI Tryz.prog 89 true 8 := ⟨⟨_,Tryz.underlying89,rfl⟩,by kernel_rfl⟩
theorem Ar0 : ZI Tryz.prog 89 ([Ii6 0,Ii6 0,Ii6 0,Ii6 0,Znl,Znl,Znl,.b false]) := Mo (by kernel_rfl)
theorem Au1 : (Tryz.prog.info? 89).map (·.size) = some 8 := by kernel_rfl
theorem Ajg : FI Tryz.prog 92 0 0 := ⟨⟨_,_,1,Tryz.underlying92,rfl,rfl,by kernel_rfl,by decide⟩⟩
theorem ti4 : TI Tryz.prog 4 false 1 := ⟨⟨_,Tryz.underlying4,rfl⟩,by kernel_rfl⟩
theorem Xg : FI Tryz.prog 89 0 0 := ⟨⟨_,_,1,Tryz.underlying89,rfl,rfl,by kernel_rfl,by decide⟩⟩
theorem Aj1 : FnI Tryz.prog 120 := ⟨⟨_,Tryz.func120,by kernel_rfl,by kernel_rfl⟩⟩
theorem Vz : FI Tryz.prog 89 1 1 := ⟨⟨_,_,1,Tryz.underlying89,rfl,rfl,by kernel_rfl,by decide⟩⟩
theorem Zh : FI Tryz.prog 89 2 2 := ⟨⟨_,_,1,Tryz.underlying89,rfl,rfl,by kernel_rfl,by decide⟩⟩
theorem Aag : FI Tryz.prog 89 3 3 := ⟨⟨_,_,1,Tryz.underlying89,rfl,rfl,by kernel_rfl,by decide⟩⟩
theorem Ado : ZI Tryz.prog 201 ([.b false,.b false,.b false]) := Mo (by kernel_rfl)
theorem Aez : AI Tryz.prog 201 3 4 1 := ⟨Tryz.underlying201,by kernel_rfl,by decide,by decide⟩
theorem Aka : (Tryz.prog.info? 201).map (·.size) = some 3 := by kernel_rfl
theorem Ala : TI Tryz.prog 201 true 3 := ⟨⟨_,Tryz.underlying201,rfl⟩,by kernel_rfl⟩
theorem As6 : FnI Tryz.prog 121 := ⟨⟨_,Tryz.func121,by kernel_rfl,by kernel_rfl⟩⟩
theorem Kd : Tryz.prog.follows .mixedOrders = true := by kernel_rfl
theorem Aab : FI Tryz.prog 89 4 4 := ⟨⟨_,_,1,Tryz.underlying89,rfl,rfl,by kernel_rfl,by decide⟩⟩
theorem I9 : TI Tryz.prog 33 false 1 := ⟨⟨_,Tryz.underlying33,rfl⟩,by kernel_rfl⟩
theorem Mi : SI Tryz.prog 33 5 1 := ⟨Tryz.underlying33,by kernel_rfl,by decide⟩
theorem Agp : FI Tryz.prog 89 5 5 := ⟨⟨_,_,3,Tryz.underlying89,rfl,rfl,by kernel_rfl,by decide⟩⟩
theorem Ahk : TI Tryz.prog 35 true 3 := ⟨⟨_,Tryz.underlying35,rfl⟩,by kernel_rfl⟩
theorem Rk : FI Tryz.prog 35 0 0 := ⟨⟨_,_,1,Tryz.underlying35,rfl,rfl,by kernel_rfl,by decide⟩⟩
theorem Pw : FI Tryz.prog 35 1 1 := ⟨⟨_,_,1,Tryz.underlying35,rfl,rfl,by kernel_rfl,by decide⟩⟩
theorem Uk : FI Tryz.prog 35 2 2 := ⟨⟨_,_,1,Tryz.underlying35,rfl,rfl,by kernel_rfl,by decide⟩⟩
theorem Av8 : FnI Tryz.prog 122 := ⟨⟨_,Tryz.func122,by kernel_rfl,by kernel_rfl⟩⟩
theorem Asm : EqD Tryz.prog 201 [1,1,1] := ⟨by kernel_rfl,by kernel_rfl,by kernel_rfl,by kernel_rfl⟩
theorem Awy : FnI Tryz.prog 123 := ⟨⟨_,Tryz.func123,by kernel_rfl,by kernel_rfl⟩⟩
theorem Awm : FnI Tryz.prog 133 := ⟨⟨_,Tryz.func133,by kernel_rfl,by kernel_rfl⟩⟩
theorem ti5 : TI Tryz.prog 5 false 1 := ⟨⟨_,Tryz.underlying5,rfl⟩,by kernel_rfl⟩
theorem Axn : XI Tryz.prog 142 Extern.BytealgCompare.compare := ⟨⟨Tryz.f142,Tryz.func142,by kernel_rfl,by kernel_rfl,by kernel_rfl,by kernel_rfl⟩⟩
theorem Axo : FnI Tryz.prog 141 := ⟨⟨_,Tryz.func141,by kernel_rfl,by kernel_rfl⟩⟩
theorem Av1 : FnI Tryz.prog 139 := ⟨⟨_,Tryz.func139,by kernel_rfl,by kernel_rfl⟩⟩
theorem Axk : FnI Tryz.prog 134 := ⟨⟨_,Tryz.func134,by kernel_rfl,by kernel_rfl⟩⟩
theorem Ax9 : FnI Tryz.prog 124 := ⟨⟨_,Tryz.func124,by kernel_rfl,by kernel_rfl⟩⟩
theorem Awp : FnI Tryz.prog 107 := ⟨⟨_,Tryz.func107,by kernel_rfl,by kernel_rfl⟩⟩
theorem Avy : FnI Tryz.prog 82 := ⟨⟨_,Tryz.func82,by kernel_rfl,by kernel_rfl⟩⟩
theorem Ay4 : FnI Tryz.prog 53 := ⟨⟨_,Tryz.func53,by kernel_rfl,by kernel_rfl⟩⟩
theorem Aze : FnI Tryz.prog 54 := ⟨⟨_,Tryz.func54,by kernel_rfl,by kernel_rfl⟩⟩
theorem A1z : FnI Tryz.prog 30 := ⟨⟨_,Tryz.func30,by kernel_rfl,by kernel_rfl⟩⟩
theorem A0r : FnI Tryz.prog 31 := ⟨⟨_,Tryz.func31,by kernel_rfl,by kernel_rfl⟩⟩
theorem Anv : FnI Tryz.prog 32 := ⟨⟨_,Tryz.func32,by kernel_rfl,by kernel_rfl⟩⟩
theorem Tf : FI Tryz.prog 44 12 35 := ⟨⟨_,_,2,Tryz.underlying44,rfl,rfl,by kernel_rfl,by decide⟩⟩
theorem Alt : TI Tryz.prog 40 true 2 := ⟨⟨_,Tryz.underlying40,rfl⟩,by kernel_rfl⟩
theorem Agl : FI Tryz.prog 40 1 1 := ⟨⟨_,_,1,Tryz.underlying40,rfl,rfl,by kernel_rfl,by decide⟩⟩
theorem Aah : TI Tryz.prog 38 false 1 := ⟨⟨_,Tryz.underlying38,rfl⟩,by kernel_rfl⟩
theorem Azi : FnI Tryz.prog 65 := ⟨⟨_,Tryz.func65,by kernel_rfl,by kernel_rfl⟩⟩
theorem Aai : FI Tryz.prog 40 0 0 := ⟨⟨_,_,1,Tryz.underlying40,rfl,rfl,by kernel_rfl,by decide⟩⟩
theorem Yk : ZI Tryz.prog 121 ([Ii6 0,.i .u32 0,Znl]) := Mo (by kernel_rfl)
theorem zi3 : ZI Tryz.prog 3 ([Ii6 0]) := Mo (by kernel_rfl)
theorem sz3 : (Tryz.prog.info? 3).map (·.size) = some 1 := by kernel_rfl
theorem Awu : ZI Tryz.prog 193 ([Nfu,Ii6 0]) := Mo (by kernel_rfl)
theorem Avl : PI Tryz.prog 193 [(0,1),(1,1)] := Nz Tryz.underlying193 (by kernel_rfl) (by kernel_rfl)
theorem Axz : FnI Tryz.prog 92 := ⟨⟨_,Tryz.func92,by kernel_rfl,by kernel_rfl⟩⟩
theorem Ahb : PI Tryz.prog 121 [(0,2),(2,1)] := Nz Tryz.underlying121 (by kernel_rfl) (by kernel_rfl)
theorem Abi : (Tryz.prog.info? 121).map (·.size) = some 3 := by kernel_rfl
theorem Aeq : FI Tryz.prog 193 1 1 := ⟨⟨_,_,1,Tryz.underlying193,rfl,rfl,by kernel_rfl,by decide⟩⟩
theorem Amg : FnI Tryz.prog 108 := ⟨⟨_,Tryz.func108,by kernel_rfl,by kernel_rfl⟩⟩
theorem Ayw : (Tryz.prog.info? 38).map (·.size) = some 1 := by kernel_rfl
theorem Aqa : FnI Tryz.prog 94 := ⟨⟨_,Tryz.func94,by kernel_rfl,by kernel_rfl⟩⟩
theorem Aee : FI Tryz.prog 193 0 0 := ⟨⟨_,_,1,Tryz.underlying193,rfl,rfl,by kernel_rfl,by decide⟩⟩
theorem Aq8 : TI Tryz.prog 191 false 1 := ⟨⟨_,Tryz.underlying191,rfl⟩,by kernel_rfl⟩
theorem Ath : FnI Tryz.prog 112 := ⟨⟨_,Tryz.func112,by kernel_rfl,by kernel_rfl⟩⟩
theorem Asv : FnI Tryz.prog 114 := ⟨⟨_,Tryz.func114,by kernel_rfl,by kernel_rfl⟩⟩
theorem Atn : FnI Tryz.prog 113 := ⟨⟨_,Tryz.func113,by kernel_rfl,by kernel_rfl⟩⟩
theorem Alu : FnI Tryz.prog 93 := ⟨⟨_,Tryz.func93,by kernel_rfl,by kernel_rfl⟩⟩
theorem Rz : FI Tryz.prog 121 0 0 := ⟨⟨_,_,2,Tryz.underlying121,rfl,rfl,by kernel_rfl,by decide⟩⟩
theorem Wn : FI Tryz.prog 119 0 0 := ⟨⟨_,_,1,Tryz.underlying119,rfl,rfl,by kernel_rfl,by decide⟩⟩
theorem Aeh : TI Tryz.prog 121 true 3 := ⟨⟨_,Tryz.underlying121,rfl⟩,by kernel_rfl⟩
theorem Ad6 : FI Tryz.prog 119 1 1 := ⟨⟨_,_,1,Tryz.underlying119,rfl,rfl,by kernel_rfl,by decide⟩⟩
theorem Atx : (Tryz.prog.info? 117).map (·.size) = some 1 := by kernel_rfl
theorem Aa5 : FI Tryz.prog 121 1 2 := ⟨⟨_,_,1,Tryz.underlying121,rfl,rfl,by kernel_rfl,by decide⟩⟩
theorem Auy : (Tryz.prog.info? 33).map (·.size) = some 1 := by kernel_rfl
theorem Aqq : TI Tryz.prog 117 false 1 := ⟨⟨_,Tryz.underlying117,rfl⟩,by kernel_rfl⟩
theorem ei5 : EI Tryz.prog 5 1 1 [.i .u8 0] := Vj (by kernel_rfl) (by decide)
theorem sz5 : (Tryz.prog.info? 5).map (·.size) = some 1 := by kernel_rfl
theorem Ar8 : EI Tryz.prog 33 1 24 [Znl] := Vj (by kernel_rfl) (by decide)
theorem Aht : SI Tryz.prog 124 33 1 := ⟨Tryz.underlying124,by kernel_rfl,by decide⟩
theorem A0c : FnI Tryz.prog 75 := ⟨⟨_,Tryz.func75,by kernel_rfl,by kernel_rfl⟩⟩
theorem Avw : NI Tryz.prog 33 := ⟨.inl ⟨_,Tryz.underlying33⟩⟩
theorem Au9 : FnI Tryz.prog 44 := ⟨⟨_,Tryz.func44,by kernel_rfl,by kernel_rfl⟩⟩
theorem Adz : FnI Tryz.prog 40 := ⟨⟨_,Tryz.func40,by kernel_rfl,by kernel_rfl⟩⟩
theorem Ap9 : ZI Tryz.prog 188 (List.replicate 256 (.i .u32 0)) := Mo (by kernel_rfl)
theorem Avj : FnI Tryz.prog 126 := ⟨⟨_,Tryz.func126,by kernel_rfl,by kernel_rfl⟩⟩
theorem Aty : AI Tryz.prog 188 256 117 1 := ⟨Tryz.underlying188,by kernel_rfl,by decide,by decide⟩
theorem Aul : TI Tryz.prog 188 true 256 := ⟨⟨_,Tryz.underlying188,rfl⟩,by kernel_rfl⟩
theorem Atf : (Tryz.prog.info? 188).map (·.size) = some 256 := by kernel_rfl
theorem Av0 : FnI Tryz.prog 111 := ⟨⟨_,Tryz.func111,by kernel_rfl,by kernel_rfl⟩⟩
theorem Ayr : FnI Tryz.prog 90 := ⟨⟨_,Tryz.func90,by kernel_rfl,by kernel_rfl⟩⟩
theorem A0j : FnI Tryz.prog 91 := ⟨⟨_,Tryz.func91,by kernel_rfl,by kernel_rfl⟩⟩
theorem Azj : FnI Tryz.prog 74 := ⟨⟨_,Tryz.func74,by kernel_rfl,by kernel_rfl⟩⟩
theorem A1a : FnI Tryz.prog 84 := ⟨⟨_,Tryz.func84,by kernel_rfl,by kernel_rfl⟩⟩
theorem Azk : FnI Tryz.prog 85 := ⟨⟨_,Tryz.func85,by kernel_rfl,by kernel_rfl⟩⟩
theorem Ayk : FnI Tryz.prog 66 := ⟨⟨_,Tryz.func66,by kernel_rfl,by kernel_rfl⟩⟩
theorem Avp : FnI Tryz.prog 34 := ⟨⟨_,Tryz.func34,by kernel_rfl,by kernel_rfl⟩⟩
theorem Rt : FI Tryz.prog 44 13 37 := ⟨⟨_,_,1,Tryz.underlying44,rfl,rfl,by kernel_rfl,by decide⟩⟩
theorem Hz : FI Tryz.prog 44 11 25 := ⟨⟨_,_,10,Tryz.underlying44,rfl,rfl,by kernel_rfl,by decide⟩⟩
theorem Agc : TI Tryz.prog 37 true 10 := ⟨⟨_,Tryz.underlying37,rfl⟩,by kernel_rfl⟩
theorem Qm : FI Tryz.prog 37 0 0 := ⟨⟨_,_,1,Tryz.underlying37,rfl,rfl,by kernel_rfl,by decide⟩⟩
theorem Al8 : ZI Tryz.prog 142 ([.b false,.b false,.b false,.b false,.b false,.b false]) := Mo (by kernel_rfl)
theorem Au0 : FnI Tryz.prog 60 := ⟨⟨_,Tryz.func60,by kernel_rfl,by kernel_rfl⟩⟩
theorem Awb : PI Tryz.prog 142 [(0,1),(1,1),(2,1),(3,1),(4,1),(5,1)] := Nz Tryz.underlying142 (by kernel_rfl) (by kernel_rfl)
theorem Amn : (Tryz.prog.info? 142).map (·.size) = some 6 := by kernel_rfl
theorem Apy : TI Tryz.prog 142 true 6 := ⟨⟨_,Tryz.underlying142,rfl⟩,by kernel_rfl⟩
theorem Arh : (0,Au5.flatMap W3) ∈ GL := List.mem_cons.2 (.inl rfl)
theorem Avu : AI Tryz.prog 165 12 142 6 := ⟨Tryz.underlying165,by kernel_rfl,by decide,by decide⟩
theorem Aye : FnI Tryz.prog 59 := ⟨⟨_,Tryz.func59,by kernel_rfl,by kernel_rfl⟩⟩
theorem Pp : FI Tryz.prog 37 1 1 := ⟨⟨_,_,1,Tryz.underlying37,rfl,rfl,by kernel_rfl,by decide⟩⟩
theorem Api : FnI Tryz.prog 61 := ⟨⟨_,Tryz.func61,by kernel_rfl,by kernel_rfl⟩⟩
theorem Akq : FI Tryz.prog 142 0 0 := ⟨⟨_,_,1,Tryz.underlying142,rfl,rfl,by kernel_rfl,by decide⟩⟩
theorem Aj9 : FI Tryz.prog 37 2 2 := ⟨⟨_,_,1,Tryz.underlying37,rfl,rfl,by kernel_rfl,by decide⟩⟩
theorem Ayx : FnI Tryz.prog 62 := ⟨⟨_,Tryz.func62,by kernel_rfl,by kernel_rfl⟩⟩
theorem Aji : FI Tryz.prog 142 1 1 := ⟨⟨_,_,1,Tryz.underlying142,rfl,rfl,by kernel_rfl,by decide⟩⟩
theorem Akz : FI Tryz.prog 37 3 3 := ⟨⟨_,_,1,Tryz.underlying37,rfl,rfl,by kernel_rfl,by decide⟩⟩
theorem Aj6 : FI Tryz.prog 142 2 2 := ⟨⟨_,_,1,Tryz.underlying142,rfl,rfl,by kernel_rfl,by decide⟩⟩
theorem Ae3 : FI Tryz.prog 142 3 3 := ⟨⟨_,_,1,Tryz.underlying142,rfl,rfl,by kernel_rfl,by decide⟩⟩
theorem Afy : FI Tryz.prog 37 5 5 := ⟨⟨_,_,1,Tryz.underlying37,rfl,rfl,by kernel_rfl,by decide⟩⟩
theorem Aor : FnI Tryz.prog 63 := ⟨⟨_,Tryz.func63,by kernel_rfl,by kernel_rfl⟩⟩
theorem Aek : FI Tryz.prog 142 4 4 := ⟨⟨_,_,1,Tryz.underlying142,rfl,rfl,by kernel_rfl,by decide⟩⟩
theorem Aft : FI Tryz.prog 37 6 6 := ⟨⟨_,_,1,Tryz.underlying37,rfl,rfl,by kernel_rfl,by decide⟩⟩
theorem Aev : FI Tryz.prog 142 5 5 := ⟨⟨_,_,1,Tryz.underlying142,rfl,rfl,by kernel_rfl,by decide⟩⟩
theorem Aav : FI Tryz.prog 37 7 7 := ⟨⟨_,_,3,Tryz.underlying37,rfl,rfl,by kernel_rfl,by decide⟩⟩
theorem Ay1 : FnI Tryz.prog 64 := ⟨⟨_,Tryz.func64,by kernel_rfl,by kernel_rfl⟩⟩
theorem Aiz : FI Tryz.prog 37 4 4 := ⟨⟨_,_,1,Tryz.underlying37,rfl,rfl,by kernel_rfl,by decide⟩⟩
theorem Aya : FnI Tryz.prog 33 := ⟨⟨_,Tryz.func33,by kernel_rfl,by kernel_rfl⟩⟩
theorem Ar4 : FnI Tryz.prog 12 := ⟨⟨_,Tryz.func12,by kernel_rfl,by kernel_rfl⟩⟩
theorem Adp : ZI Tryz.prog 37 (Zbc) := Mo (by kernel_rfl)
theorem Ahn : PI Tryz.prog 37 [(0,1),(1,1),(2,1),(3,1),(4,1),(5,1),(6,1),(7,3)] := Nz Tryz.underlying37 (by kernel_rfl) (by kernel_rfl)
theorem Asq : ZI Tryz.prog 61 (Zbe) := Mo (by kernel_rfl)
theorem Ax1 : PI Tryz.prog 61 [(0,1),(1,1),(2,1),(3,1),(4,8)] := Nz Tryz.underlying61 (by kernel_rfl) (by kernel_rfl)
theorem Va : FI Tryz.prog 44 14 38 := ⟨⟨_,_,1,Tryz.underlying44,rfl,rfl,by kernel_rfl,by decide⟩⟩
theorem Aph : TI Tryz.prog 41 false 1 := ⟨⟨_,Tryz.underlying41,rfl⟩,by kernel_rfl⟩
theorem Axy : TI Tryz.prog 61 true 12 := ⟨⟨_,Tryz.underlying61,rfl⟩,by kernel_rfl⟩
theorem Axh : EI Tryz.prog 61 12 96 Zbe := Vj (by kernel_rfl) (by decide)
theorem A1d : EI Tryz.prog 41 1 24 [Znl] := Vj (by kernel_rfl) (by decide)
theorem An3 : SI Tryz.prog 204 41 1 := ⟨Tryz.underlying204,by kernel_rfl,by decide⟩
theorem Ah8 : SI Tryz.prog 41 61 12 := ⟨Tryz.underlying41,by kernel_rfl,by decide⟩
theorem Awg : FnI Tryz.prog 125 := ⟨⟨_,Tryz.func125,by kernel_rfl,by kernel_rfl⟩⟩
theorem Azz : NI Tryz.prog 41 := ⟨.inl ⟨_,Tryz.underlying41⟩⟩
theorem Awx : FnI Tryz.prog 109 := ⟨⟨_,Tryz.func109,by kernel_rfl,by kernel_rfl⟩⟩
theorem Azw : (Tryz.prog.info? 41).map (·.size) = some 1 := by kernel_rfl
theorem Aw1 : FnI Tryz.prog 86 := ⟨⟨_,Tryz.func86,by kernel_rfl,by kernel_rfl⟩⟩
theorem Yi : FI Tryz.prog 44 9 14 := ⟨⟨_,_,1,Tryz.underlying44,rfl,rfl,by kernel_rfl,by decide⟩⟩
theorem Qs : FI Tryz.prog 44 10 15 := ⟨⟨_,_,10,Tryz.underlying44,rfl,rfl,by kernel_rfl,by decide⟩⟩
theorem W6 : FI Tryz.prog 32 2 9 := ⟨⟨_,_,1,Tryz.underlying32,rfl,rfl,by kernel_rfl,by decide⟩⟩
theorem Az7 : FnI Tryz.prog 87 := ⟨⟨_,Tryz.func87,by kernel_rfl,by kernel_rfl⟩⟩
theorem Ax6 : (Tryz.prog.info? 29).map (·.size) = some 1 := by kernel_rfl
theorem Art : FnI Tryz.prog 68 := ⟨⟨_,Tryz.func68,by kernel_rfl,by kernel_rfl⟩⟩
theorem Azn : FnI Tryz.prog 67 := ⟨⟨_,Tryz.func67,by kernel_rfl,by kernel_rfl⟩⟩
theorem Alq : (Tryz.prog.info? 37).map (·.size) = some 10 := by kernel_rfl
theorem zi4 : ZI Tryz.prog 4 ([.b false]) := Mo (by kernel_rfl)
theorem A0o : FnI Tryz.prog 88 := ⟨⟨_,Tryz.func88,by kernel_rfl,by kernel_rfl⟩⟩
theorem Aw7 : FnI Tryz.prog 110 := ⟨⟨_,Tryz.func110,by kernel_rfl,by kernel_rfl⟩⟩
theorem sz4 : (Tryz.prog.info? 4).map (·.size) = some 1 := by kernel_rfl
theorem Avc : FnI Tryz.prog 69 := ⟨⟨_,Tryz.func69,by kernel_rfl,by kernel_rfl⟩⟩
theorem Awj : FnI Tryz.prog 42 := ⟨⟨_,Tryz.func42,by kernel_rfl,by kernel_rfl⟩⟩
theorem Aqu : FnI Tryz.prog 41 := ⟨⟨_,Tryz.func41,by kernel_rfl,by kernel_rfl⟩⟩
theorem Azr : FnI Tryz.prog 89 := ⟨⟨_,Tryz.func89,by kernel_rfl,by kernel_rfl⟩⟩
theorem Axv : ZI Tryz.prog 119 ([Ii6 0,.i .u32 0]) := Mo (by kernel_rfl)
theorem Aw8 : PI Tryz.prog 119 [(0,1),(1,1)] := Nz Tryz.underlying119 (by kernel_rfl) (by kernel_rfl)
theorem Azv : FnI Tryz.prog 43 := ⟨⟨_,Tryz.func43,by kernel_rfl,by kernel_rfl⟩⟩
theorem Axc : FnI Tryz.prog 17 := ⟨⟨_,Tryz.func17,by kernel_rfl,by kernel_rfl⟩⟩
theorem Ay9 : FnI Tryz.prog 70 := ⟨⟨_,Tryz.func70,by kernel_rfl,by kernel_rfl⟩⟩
theorem Aq7 : FnI Tryz.prog 35 := ⟨⟨_,Tryz.func35,by kernel_rfl,by kernel_rfl⟩⟩
theorem Ayq : FnI Tryz.prog 14 := ⟨⟨_,Tryz.func14,by kernel_rfl,by kernel_rfl⟩⟩
theorem Ayf : PI Tryz.prog 89 [(0,1),(1,1),(2,1),(3,1),(4,1),(5,3)] := Nz Tryz.underlying89 (by kernel_rfl) (by kernel_rfl)
theorem Axs : EI Tryz.prog 89 8 112 [Ii6 0,Ii6 0,Ii6 0,Ii6 0,Znl,Znl,Znl,.b false] := Vj (by kernel_rfl) (by decide)
theorem Ave : ZI Tryz.prog 92 ([.b false,Znl]) := Mo (by kernel_rfl)
theorem Ay5 : PI Tryz.prog 92 [(0,1),(1,1)] := Nz Tryz.underlying92 (by kernel_rfl) (by kernel_rfl)
theorem Ayn : PI Tryz.prog 94 [(0,1),(1,2)] := Nz Tryz.underlying94 (by kernel_rfl) (by kernel_rfl)
theorem Atg : EI Tryz.prog 94 3 40 [Ii6 0,.b false,Znl] := Vj (by kernel_rfl) (by decide)
theorem A1n : EI Tryz.prog 29 1 24 [Znl] := Vj (by kernel_rfl) (by decide)
theorem Al6 : SI Tryz.prog 163 29 1 := ⟨Tryz.underlying163,by kernel_rfl,by decide⟩
theorem A0u : FnI Tryz.prog 83 := ⟨⟨_,Tryz.func83,by kernel_rfl,by kernel_rfl⟩⟩
theorem Ayh : NI Tryz.prog 29 := ⟨.inl ⟨_,Tryz.underlying29⟩⟩
theorem A13 : FnI Tryz.prog 55 := ⟨⟨_,Tryz.func55,by kernel_rfl,by kernel_rfl⟩⟩
theorem Axi : FnI Tryz.prog 72 := ⟨⟨_,Tryz.func72,by kernel_rfl,by kernel_rfl⟩⟩
theorem Alm : ZI Tryz.prog 32 (Zbb) := Mo (by kernel_rfl)
theorem Auh : PI Tryz.prog 32 [(0,1),(1,8),(9,1)] := Nz Tryz.underlying32 (by kernel_rfl) (by kernel_rfl)
theorem Zq : (Tryz.prog.info? 32).map (·.size) = some 10 := by kernel_rfl
theorem Ayp : FnI Tryz.prog 71 := ⟨⟨_,Tryz.func71,by kernel_rfl,by kernel_rfl⟩⟩
theorem Axm : FnI Tryz.prog 56 := ⟨⟨_,Tryz.func56,by kernel_rfl,by kernel_rfl⟩⟩
theorem Azd : FnI Tryz.prog 21 := ⟨⟨_,Tryz.func21,by kernel_rfl,by kernel_rfl⟩⟩
theorem Az8 : ZI Tryz.prog 55 (Zbd) := Mo (by kernel_rfl)
theorem A09 : PI Tryz.prog 55 [(0,1),(1,1),(2,1),(3,1),(4,1),(5,1),(6,1)] := Nz Tryz.underlying55 (by kernel_rfl) (by kernel_rfl)
theorem Ao6 : FI Tryz.prog 55 2 2 := ⟨⟨_,_,1,Tryz.underlying55,rfl,rfl,by kernel_rfl,by decide⟩⟩
theorem Apa : FI Tryz.prog 55 3 3 := ⟨⟨_,_,1,Tryz.underlying55,rfl,rfl,by kernel_rfl,by decide⟩⟩
theorem Aou : FI Tryz.prog 55 4 4 := ⟨⟨_,_,1,Tryz.underlying55,rfl,rfl,by kernel_rfl,by decide⟩⟩
theorem Aiu : FI Tryz.prog 55 5 5 := ⟨⟨_,_,1,Tryz.underlying55,rfl,rfl,by kernel_rfl,by decide⟩⟩
theorem Aad : FI Tryz.prog 55 6 6 := ⟨⟨_,_,1,Tryz.underlying55,rfl,rfl,by kernel_rfl,by decide⟩⟩
theorem Ag8 : TI Tryz.prog 53 false 1 := ⟨⟨_,Tryz.underlying53,rfl⟩,by kernel_rfl⟩
theorem Alv : ZI Tryz.prog 68 (Zbd) := Mo (by kernel_rfl)
theorem Atc : PI Tryz.prog 68 [(0,1),(1,1),(2,1),(3,1),(4,1),(5,1),(6,1)] := Nz Tryz.underlying68 (by kernel_rfl) (by kernel_rfl)
theorem Aqo : (Tryz.prog.info? 68).map (·.size) = some 7 := by kernel_rfl
theorem Ady : TI Tryz.prog 68 true 7 := ⟨⟨_,Tryz.underlying68,rfl⟩,by kernel_rfl⟩
theorem Xd : FI Tryz.prog 68 6 6 := ⟨⟨_,_,1,Tryz.underlying68,rfl,rfl,by kernel_rfl,by decide⟩⟩
theorem Afv : SI Tryz.prog 53 116 2 := ⟨Tryz.underlying53,by kernel_rfl,by decide⟩
theorem Ap2 : TI Tryz.prog 116 true 2 := ⟨⟨_,Tryz.underlying116,rfl⟩,by kernel_rfl⟩
theorem Ann : ZI Tryz.prog 116 ([Znl,Znl]) := Mo (by kernel_rfl)
theorem Aqw : (Tryz.prog.info? 116).map (·.size) = some 2 := by kernel_rfl
theorem Ae2 : FI Tryz.prog 116 0 0 := ⟨⟨_,_,1,Tryz.underlying116,rfl,rfl,by kernel_rfl,by decide⟩⟩
theorem Abl : FI Tryz.prog 116 1 1 := ⟨⟨_,_,1,Tryz.underlying116,rfl,rfl,by kernel_rfl,by decide⟩⟩
theorem Rq : FI Tryz.prog 68 0 0 := ⟨⟨_,_,1,Tryz.underlying68,rfl,rfl,by kernel_rfl,by decide⟩⟩
theorem Tm : FI Tryz.prog 68 1 1 := ⟨⟨_,_,1,Tryz.underlying68,rfl,rfl,by kernel_rfl,by decide⟩⟩
theorem S7 : FI Tryz.prog 68 2 2 := ⟨⟨_,_,1,Tryz.underlying68,rfl,rfl,by kernel_rfl,by decide⟩⟩
theorem Tt : FI Tryz.prog 68 3 3 := ⟨⟨_,_,1,Tryz.underlying68,rfl,rfl,by kernel_rfl,by decide⟩⟩
theorem Acw : FI Tryz.prog 68 4 4 := ⟨⟨_,_,1,Tryz.underlying68,rfl,rfl,by kernel_rfl,by decide⟩⟩
theorem Adk : FI Tryz.prog 68 5 5 := ⟨⟨_,_,1,Tryz.underlying68,rfl,rfl,by kernel_rfl,by decide⟩⟩
theorem Azb : FnI Tryz.prog 39 := ⟨⟨_,Tryz.func39,by kernel_rfl,by kernel_rfl⟩⟩
theorem Azm : FnI Tryz.prog 16 := ⟨⟨_,Tryz.func16,by kernel_rfl,by kernel_rfl⟩⟩
theorem Ayo : FnI Tryz.prog 22 := ⟨⟨_,Tryz.func22,by kernel_rfl,by kernel_rfl⟩⟩
theorem Auj : FnI Tryz.prog 37 := ⟨⟨_,Tryz.func37,by kernel_rfl,by kernel_rfl⟩⟩
theorem Ar1 : ZI Tryz.prog 40 ([Znl,Ii6 0]) := Mo (by kernel_rfl)
theorem Au4 : PI Tryz.prog 40 [(0,1),(1,1)] := Nz Tryz.underlying40 (by kernel_rfl) (by kernel_rfl)
theorem Ap5 : (Tryz.prog.info? 40).map (·.size) = some 2 := by kernel_rfl
theorem Awl : NI Tryz.prog 124 := ⟨.inl ⟨_,Tryz.underlying124⟩⟩
theorem Az9 : FnI Tryz.prog 76 := ⟨⟨_,Tryz.func76,by kernel_rfl,by kernel_rfl⟩⟩
theorem A1l : FnI Tryz.prog 77 := ⟨⟨_,Tryz.func77,by kernel_rfl,by kernel_rfl⟩⟩
theorem A0z : FnI Tryz.prog 45 := ⟨⟨_,Tryz.func45,by kernel_rfl,by kernel_rfl⟩⟩
theorem A1f : FnI Tryz.prog 95 := ⟨⟨_,Tryz.func95,by kernel_rfl,by kernel_rfl⟩⟩
theorem Avt : FnI Tryz.prog 96 := ⟨⟨_,Tryz.func96,by kernel_rfl,by kernel_rfl⟩⟩
theorem Aws : PI Tryz.prog 116 [(0,1),(1,1)] := Nz Tryz.underlying116 (by kernel_rfl) (by kernel_rfl)
theorem Aub : EI Tryz.prog 116 2 48 [Znl,Znl] := Vj (by kernel_rfl) (by decide)
theorem Az4 : NI Tryz.prog 53 := ⟨.inl ⟨_,Tryz.underlying53⟩⟩
theorem A0s : FnI Tryz.prog 97 := ⟨⟨_,Tryz.func97,by kernel_rfl,by kernel_rfl⟩⟩
theorem A0f : (Tryz.prog.info? 53).map (·.size) = some 1 := by kernel_rfl
theorem A1h : FnI Tryz.prog 98 := ⟨⟨_,Tryz.func98,by kernel_rfl,by kernel_rfl⟩⟩
theorem A1r : FnI Tryz.prog 78 := ⟨⟨_,Tryz.func78,by kernel_rfl,by kernel_rfl⟩⟩
theorem Awr : FnI Tryz.prog 106 := ⟨⟨_,Tryz.func106,by kernel_rfl,by kernel_rfl⟩⟩
theorem Ay8 : FnI Tryz.prog 80 := ⟨⟨_,Tryz.func80,by kernel_rfl,by kernel_rfl⟩⟩
theorem Asg : FnI Tryz.prog 47 := ⟨⟨_,Tryz.func47,by kernel_rfl,by kernel_rfl⟩⟩
theorem Ua : ZI Tryz.prog 184 ([Nfu,Nfu,Nfu,Nfu,Nfu,Nfu,Nfu,Nfu,Nfu,Nfu]) := Mo (by kernel_rfl)
theorem U8 : AI Tryz.prog 184 10 159 1 := ⟨Tryz.underlying184,by kernel_rfl,by decide,by decide⟩
theorem Ac8 : (Tryz.prog.info? 184).map (·.size) = some 10 := by kernel_rfl
theorem Aeo : TI Tryz.prog 159 false 1 := ⟨⟨_,Tryz.underlying159,rfl⟩,by kernel_rfl⟩
theorem Aof : FnI Tryz.prog 79 := ⟨⟨_,Tryz.func79,by kernel_rfl,by kernel_rfl⟩⟩
theorem A0x : FnI Tryz.prog 99 := ⟨⟨_,Tryz.func99,by kernel_rfl,by kernel_rfl⟩⟩
theorem Ayt : (Tryz.prog.info? 61).map (·.size) = some 12 := by kernel_rfl
theorem Ps : FI Tryz.prog 32 1 1 := ⟨⟨_,_,8,Tryz.underlying32,rfl,rfl,by kernel_rfl,by decide⟩⟩
theorem Auk : TI Tryz.prog 30 true 8 := ⟨⟨_,Tryz.underlying30,rfl⟩,by kernel_rfl⟩
theorem App : FI Tryz.prog 61 4 4 := ⟨⟨_,_,8,Tryz.underlying61,rfl,rfl,by kernel_rfl,by decide⟩⟩
theorem Azx : (Tryz.prog.info? 30).map (·.size) = some 8 := by kernel_rfl
theorem Apd : FI Tryz.prog 61 0 0 := ⟨⟨_,_,1,Tryz.underlying61,rfl,rfl,by kernel_rfl,by decide⟩⟩
theorem Ac7 : FnI Tryz.prog 119 := ⟨⟨_,Tryz.func119,by kernel_rfl,by kernel_rfl⟩⟩
theorem Avr : FnI Tryz.prog 129 := ⟨⟨_,Tryz.func129,by kernel_rfl,by kernel_rfl⟩⟩
theorem Aj5 : FnI Tryz.prog 117 := ⟨⟨_,Tryz.func117,by kernel_rfl,by kernel_rfl⟩⟩
theorem Auo : FnI Tryz.prog 115 := ⟨⟨_,Tryz.func115,by kernel_rfl,by kernel_rfl⟩⟩
theorem Uf : TI Tryz.prog 32 true 10 := ⟨⟨_,Tryz.underlying32,rfl⟩,by kernel_rfl⟩
theorem Pq : FI Tryz.prog 32 0 0 := ⟨⟨_,_,1,Tryz.underlying32,rfl,rfl,by kernel_rfl,by decide⟩⟩
theorem As5 : FnI Tryz.prog 130 := ⟨⟨_,Tryz.func130,by kernel_rfl,by kernel_rfl⟩⟩
theorem Ah5 : AI Tryz.prog 30 8 3 1 := ⟨Tryz.underlying30,by kernel_rfl,by decide,by decide⟩
theorem Axr : FnI Tryz.prog 140 := ⟨⟨_,Tryz.func140,by kernel_rfl,by kernel_rfl⟩⟩
theorem Axa : FnI Tryz.prog 135 := ⟨⟨_,Tryz.func135,by kernel_rfl,by kernel_rfl⟩⟩
theorem Ao5 : ∀ {a b : Ee} {j : Int} {v : Int},I1 a j v = some b → ∀ pre post : List Lf,Kc (pre ++ (Aa7 a ++ post)) (pre.length + j.toNat) [Ii6 v] = pre ++ (Aa7 b ++ post) := by
 intro a b j v h pre post
 rw [Aig]
 unfold I1 at h
 split at h
 ·rename_i hj; subst hj; cases h; rfl
 split at h
 ·rename_i hj; subst hj; cases h; rfl
 split at h
 ·rename_i hj; subst hj; cases h; rfl
 split at h
 ·rename_i hj; subst hj; cases h; rfl
 split at h
 ·rename_i hj; subst hj; cases h; rfl
 split at h
 ·rename_i hj; subst hj; cases h; rfl
 split at h
 ·rename_i hj; subst hj; cases h; rfl
 split at h
 ·rename_i hj; subst hj; cases h; rfl
 cases h
theorem Aso : FnI Tryz.prog 138 := ⟨⟨_,Tryz.func138,by kernel_rfl,by kernel_rfl⟩⟩
theorem Avi : FnI Tryz.prog 136 := ⟨⟨_,Tryz.func136,by kernel_rfl,by kernel_rfl⟩⟩
theorem Awo : FnI Tryz.prog 127 := ⟨⟨_,Tryz.func127,by kernel_rfl,by kernel_rfl⟩⟩
theorem Awz : ZI Tryz.prog 64 (Zbf) := Mo (by kernel_rfl)
theorem Azs : PI Tryz.prog 64 [(0,1),(1,1),(2,8)] := Nz Tryz.underlying64 (by kernel_rfl) (by kernel_rfl)
theorem Ayb : (Tryz.prog.info? 64).map (·.size) = some 10 := by kernel_rfl
theorem Yb : FI Tryz.prog 44 15 39 := ⟨⟨_,_,1,Tryz.underlying44,rfl,rfl,by kernel_rfl,by decide⟩⟩
theorem Ar5 : TI Tryz.prog 42 false 1 := ⟨⟨_,Tryz.underlying42,rfl⟩,by kernel_rfl⟩
theorem Azl : TI Tryz.prog 64 true 10 := ⟨⟨_,Tryz.underlying64,rfl⟩,by kernel_rfl⟩
theorem Awc : EI Tryz.prog 64 10 80 Zbf := Vj (by kernel_rfl) (by decide)
theorem Az2 : EI Tryz.prog 42 1 24 [Znl] := Vj (by kernel_rfl) (by decide)
theorem Amr : SI Tryz.prog 216 42 1 := ⟨Tryz.underlying216,by kernel_rfl,by decide⟩
theorem Alz : SI Tryz.prog 42 64 10 := ⟨Tryz.underlying42,by kernel_rfl,by decide⟩
theorem Av4 : FnI Tryz.prog 137 := ⟨⟨_,Tryz.func137,by kernel_rfl,by kernel_rfl⟩⟩
theorem A1w : NI Tryz.prog 42 := ⟨.inl ⟨_,Tryz.underlying42⟩⟩
theorem Awf : FnI Tryz.prog 128 := ⟨⟨_,Tryz.func128,by kernel_rfl,by kernel_rfl⟩⟩
theorem A0e : (Tryz.prog.info? 42).map (·.size) = some 1 := by kernel_rfl
theorem At5 : FnI Tryz.prog 116 := ⟨⟨_,Tryz.func116,by kernel_rfl,by kernel_rfl⟩⟩
theorem Ax2 : FnI Tryz.prog 100 := ⟨⟨_,Tryz.func100,by kernel_rfl,by kernel_rfl⟩⟩
theorem Asz : FnI Tryz.prog 131 := ⟨⟨_,Tryz.func131,by kernel_rfl,by kernel_rfl⟩⟩
theorem Ax8 : FnI Tryz.prog 132 := ⟨⟨_,Tryz.func132,by kernel_rfl,by kernel_rfl⟩⟩
theorem Axj : FnI Tryz.prog 118 := ⟨⟨_,Tryz.func118,by kernel_rfl,by kernel_rfl⟩⟩
theorem Av7 : FnI Tryz.prog 101 := ⟨⟨_,Tryz.func101,by kernel_rfl,by kernel_rfl⟩⟩
theorem Axl : FnI Tryz.prog 102 := ⟨⟨_,Tryz.func102,by kernel_rfl,by kernel_rfl⟩⟩
theorem Aw4 : FnI Tryz.prog 103 := ⟨⟨_,Tryz.func103,by kernel_rfl,by kernel_rfl⟩⟩
theorem Ax3 : FnI Tryz.prog 104 := ⟨⟨_,Tryz.func104,by kernel_rfl,by kernel_rfl⟩⟩
theorem Ax5 : FnI Tryz.prog 105 := ⟨⟨_,Tryz.func105,by kernel_rfl,by kernel_rfl⟩⟩
theorem Az3 : FnI Tryz.prog 46 := ⟨⟨_,Tryz.func46,by kernel_rfl,by kernel_rfl⟩⟩
theorem Aue : FnI Tryz.prog 18 := ⟨⟨_,Tryz.func18,by kernel_rfl,by kernel_rfl⟩⟩
theorem Aon : FI Tryz.prog 61 1 1 := ⟨⟨_,_,1,Tryz.underlying61,rfl,rfl,by kernel_rfl,by decide⟩⟩
theorem Aoq : FI Tryz.prog 61 3 3 := ⟨⟨_,_,1,Tryz.underlying61,rfl,rfl,by kernel_rfl,by decide⟩⟩
theorem fn7 : FnI Tryz.prog 7 := ⟨⟨_,Tryz.func7,by kernel_rfl,by kernel_rfl⟩⟩
theorem Ap4 : SI Tryz.prog 22 57 13 := ⟨Tryz.underlying22,by kernel_rfl,by decide⟩
theorem Ais : FI Tryz.prog 57 2 2 := ⟨⟨_,_,3,Tryz.underlying57,rfl,rfl,by kernel_rfl,by decide⟩⟩
theorem Agk : FI Tryz.prog 52 1 1 := ⟨⟨_,_,2,Tryz.underlying52,rfl,rfl,by kernel_rfl,by decide⟩⟩
theorem Ash : TI Tryz.prog 50 true 2 := ⟨⟨_,Tryz.underlying50,rfl⟩,by kernel_rfl⟩
theorem Rm : FI Tryz.prog 50 1 1 := ⟨⟨_,_,1,Tryz.underlying50,rfl,rfl,by kernel_rfl,by decide⟩⟩
theorem Ah7 : TI Tryz.prog 48 false 1 := ⟨⟨_,Tryz.underlying48,rfl⟩,by kernel_rfl⟩
theorem Akx : SI Tryz.prog 48 135 8 := ⟨Tryz.underlying48,by kernel_rfl,by decide⟩
theorem Abb : FI Tryz.prog 135 4 4 := ⟨⟨_,_,1,Tryz.underlying135,rfl,rfl,by kernel_rfl,by decide⟩⟩
theorem Ab2 : FI Tryz.prog 135 5 5 := ⟨⟨_,_,3,Tryz.underlying135,rfl,rfl,by kernel_rfl,by decide⟩⟩
theorem A03 : FnI Tryz.prog 57 := ⟨⟨_,Tryz.func57,by kernel_rfl,by kernel_rfl⟩⟩
theorem Azq : FnI Tryz.prog 23 := ⟨⟨_,Tryz.func23,by kernel_rfl,by kernel_rfl⟩⟩
theorem Yj : FI Tryz.prog 57 3 5 := ⟨⟨_,_,7,Tryz.underlying57,rfl,rfl,by kernel_rfl,by decide⟩⟩
theorem Ayz : TI Tryz.prog 55 true 7 := ⟨⟨_,Tryz.underlying55,rfl⟩,by kernel_rfl⟩
theorem A07 : FnI Tryz.prog 24 := ⟨⟨_,Tryz.func24,by kernel_rfl,by kernel_rfl⟩⟩
theorem Apm : FI Tryz.prog 57 4 12 := ⟨⟨_,_,1,Tryz.underlying57,rfl,rfl,by kernel_rfl,by decide⟩⟩
theorem fn8 : FnI Tryz.prog 8 := ⟨⟨_,Tryz.func8,by kernel_rfl,by kernel_rfl⟩⟩
theorem Azg : TI Tryz.prog 57 true 13 := ⟨⟨_,Tryz.underlying57,rfl⟩,by kernel_rfl⟩
theorem A0y : EI Tryz.prog 57 13 168 [Ii6 0,Ii6 0,Ii6 0,.b false,Znl,Ii6 0,Ii6 0,Ii6 0,Ii6 0,.b false,Znl,Znl,Znl] := Vj (by kernel_rfl) (by decide)
theorem Aam : FI Tryz.prog 57 0 0 := ⟨⟨_,_,1,Tryz.underlying57,rfl,rfl,by kernel_rfl,by decide⟩⟩
theorem Ai6 : FI Tryz.prog 52 0 0 := ⟨⟨_,_,1,Tryz.underlying52,rfl,rfl,by kernel_rfl,by decide⟩⟩
theorem Ain : FI Tryz.prog 50 0 0 := ⟨⟨_,_,1,Tryz.underlying50,rfl,rfl,by kernel_rfl,by decide⟩⟩
theorem Ayd : (Tryz.prog.info? 92).map (·.size) = some 2 := by kernel_rfl
theorem Ap7 : TI Tryz.prog 135 true 8 := ⟨⟨_,Tryz.underlying135,rfl⟩,by kernel_rfl⟩
theorem Al0 : ZI Tryz.prog 135 ([Ii6 0,Ii6 0,Ii6 0,Ii6 0,Znl,Znl,Znl,.b false]) := Mo (by kernel_rfl)
theorem Aq5 : (Tryz.prog.info? 135).map (·.size) = some 8 := by kernel_rfl
theorem Ad9 : FI Tryz.prog 135 0 0 := ⟨⟨_,_,1,Tryz.underlying135,rfl,rfl,by kernel_rfl,by decide⟩⟩
theorem Aed : FI Tryz.prog 135 1 1 := ⟨⟨_,_,1,Tryz.underlying135,rfl,rfl,by kernel_rfl,by decide⟩⟩
theorem Ad2 : FI Tryz.prog 135 2 2 := ⟨⟨_,_,1,Tryz.underlying135,rfl,rfl,by kernel_rfl,by decide⟩⟩
theorem Aec : FI Tryz.prog 135 3 3 := ⟨⟨_,_,1,Tryz.underlying135,rfl,rfl,by kernel_rfl,by decide⟩⟩
theorem A1i : NI Tryz.prog 90 := ⟨.inl ⟨_,Tryz.underlying90⟩⟩
theorem A0q : (Tryz.prog.info? 90).map (·.size) = some 1 := by kernel_rfl
theorem A1s : FnI Tryz.prog 26 := ⟨⟨_,Tryz.func26,by kernel_rfl,by kernel_rfl⟩⟩
theorem Az1 : FnI Tryz.prog 27 := ⟨⟨_,Tryz.func27,by kernel_rfl,by kernel_rfl⟩⟩
theorem Atr : FI Tryz.prog 57 1 1 := ⟨⟨_,_,1,Tryz.underlying57,rfl,rfl,by kernel_rfl,by decide⟩⟩
theorem Azt : FnI Tryz.prog 73 := ⟨⟨_,Tryz.func73,by kernel_rfl,by kernel_rfl⟩⟩
theorem A1p : FnI Tryz.prog 38 := ⟨⟨_,Tryz.func38,by kernel_rfl,by kernel_rfl⟩⟩
theorem A1x : FnI Tryz.prog 15 := ⟨⟨_,Tryz.func15,by kernel_rfl,by kernel_rfl⟩⟩
theorem A1y : FnI Tryz.prog 28 := ⟨⟨_,Tryz.func28,by kernel_rfl,by kernel_rfl⟩⟩
theorem A1u : FnI Tryz.prog 11 := ⟨⟨_,Tryz.func11,by kernel_rfl,by kernel_rfl⟩⟩
theorem Avn : ZI Tryz.prog 84 (Zba) := Mo (by kernel_rfl)
theorem Ay7 : ZI Tryz.prog 78 (Zbb) := Mo (by kernel_rfl)
theorem Az6 : PI Tryz.prog 78 [(0,1),(1,8),(9,1)] := Nz Tryz.underlying78 (by kernel_rfl) (by kernel_rfl)
theorem A05 : (Tryz.prog.info? 78).map (·.size) = some 10 := by kernel_rfl
theorem Axd : TI Tryz.prog 78 true 10 := ⟨⟨_,Tryz.underlying78,rfl⟩,by kernel_rfl⟩
theorem A1m : FnI Tryz.prog 51 := ⟨⟨_,Tryz.func51,by kernel_rfl,by kernel_rfl⟩⟩
theorem Ayv : ZI Tryz.prog 79 (Zbc) := Mo (by kernel_rfl)
theorem A0p : PI Tryz.prog 79 [(0,1),(1,1),(2,1),(3,1),(4,1),(5,1),(6,1),(7,3)] := Nz Tryz.underlying79 (by kernel_rfl) (by kernel_rfl)
theorem A1e : (Tryz.prog.info? 79).map (·.size) = some 10 := by kernel_rfl
theorem Axw : TI Tryz.prog 79 true 10 := ⟨⟨_,Tryz.underlying79,rfl⟩,by kernel_rfl⟩
theorem A1q : FnI Tryz.prog 52 := ⟨⟨_,Tryz.func52,by kernel_rfl,by kernel_rfl⟩⟩
theorem A12 : ZI Tryz.prog 80 ([Znl,Ii6 0]) := Mo (by kernel_rfl)
theorem A02 : PI Tryz.prog 80 [(0,1),(1,1)] := Nz Tryz.underlying80 (by kernel_rfl) (by kernel_rfl)
theorem A1o : PI Tryz.prog 84 [(0,6),(6,1),(7,1),(8,1),(9,1),(10,1),(11,1),(12,1),(13,1),(14,1),(15,10),(25,10),(35,2),(37,1),(38,1),(39,1)] := Nz Tryz.underlying84 (by kernel_rfl) (by kernel_rfl)
theorem Ayl : (Tryz.prog.info? 84).map (·.size) = some 40 := by kernel_rfl
theorem A0h : ZI Tryz.prog 74 ([Ii6 0,Ii6 0,Ii6 0]) := Mo (by kernel_rfl)
theorem A0i : PI Tryz.prog 74 [(0,1),(1,1),(2,1)] := Nz Tryz.underlying74 (by kernel_rfl) (by kernel_rfl)
theorem A1k : ZI Tryz.prog 76 ([Ii6 0,Ii6 0,Ii6 0,Ii6 0,Ii6 0,Ii6 0]) := Mo (by kernel_rfl)
theorem A0k : PI Tryz.prog 76 [(0,1),(1,3),(4,1),(5,1)] := Nz Tryz.underlying76 (by kernel_rfl) (by kernel_rfl)
theorem Akk : FI Tryz.prog 84 0 0 := ⟨⟨_,_,6,Tryz.underlying84,rfl,rfl,by kernel_rfl,by decide⟩⟩
theorem A0v : (Tryz.prog.info? 76).map (·.size) = some 6 := by kernel_rfl
theorem Azo : ZI Tryz.prog 50 ([.b false,Znl]) := Mo (by kernel_rfl)
theorem A11 : PI Tryz.prog 50 [(0,1),(1,1)] := Nz Tryz.underlying50 (by kernel_rfl) (by kernel_rfl)
theorem A0a : (Tryz.prog.info? 50).map (·.size) = some 2 := by kernel_rfl
theorem Axp : PI Tryz.prog 135 [(0,1),(1,1),(2,1),(3,1),(4,1),(5,3)] := Nz Tryz.underlying135 (by kernel_rfl) (by kernel_rfl)
theorem As3 : EI Tryz.prog 135 8 112 [Ii6 0,Ii6 0,Ii6 0,Ii6 0,Znl,Znl,Znl,.b false] := Vj (by kernel_rfl) (by decide)
theorem A0l : NI Tryz.prog 48 := ⟨.inl ⟨_,Tryz.underlying48⟩⟩
theorem A1c : (Tryz.prog.info? 48).map (·.size) = some 1 := by kernel_rfl
theorem Wb : FI Tryz.prog 84 1 6 := ⟨⟨_,_,1,Tryz.underlying84,rfl,rfl,by kernel_rfl,by decide⟩⟩
theorem Aog : TI Tryz.prog 77 false 1 := ⟨⟨_,Tryz.underlying77,rfl⟩,by kernel_rfl⟩
theorem A0d : ZI Tryz.prog 52 ([Ii6 0,.b false,Znl]) := Mo (by kernel_rfl)
theorem A0w : PI Tryz.prog 52 [(0,1),(1,2)] := Nz Tryz.underlying52 (by kernel_rfl) (by kernel_rfl)
theorem Azf : EI Tryz.prog 52 3 40 [Ii6 0,.b false,Znl] := Vj (by kernel_rfl) (by decide)
theorem A0n : NI Tryz.prog 77 := ⟨.inl ⟨_,Tryz.underlying77⟩⟩
theorem A0t : (Tryz.prog.info? 77).map (·.size) = some 1 := by kernel_rfl
theorem U7 : FI Tryz.prog 84 14 38 := ⟨⟨_,_,1,Tryz.underlying84,rfl,rfl,by kernel_rfl,by decide⟩⟩
theorem Ar3 : TI Tryz.prog 81 false 1 := ⟨⟨_,Tryz.underlying81,rfl⟩,by kernel_rfl⟩
theorem Atv : FI Tryz.prog 61 2 2 := ⟨⟨_,_,1,Tryz.underlying61,rfl,rfl,by kernel_rfl,by decide⟩⟩
theorem Axt : ZI Tryz.prog 131 (Zbe) := Mo (by kernel_rfl)
theorem Aw2 : PI Tryz.prog 131 [(0,1),(1,1),(2,1),(3,1),(4,8)] := Nz Tryz.underlying131 (by kernel_rfl) (by kernel_rfl)
theorem At9 : EI Tryz.prog 131 12 96 Zbe := Vj (by kernel_rfl) (by decide)
theorem A1b : NI Tryz.prog 81 := ⟨.inl ⟨_,Tryz.underlying81⟩⟩
theorem A14 : (Tryz.prog.info? 81).map (·.size) = some 1 := by kernel_rfl
theorem Vg : FI Tryz.prog 84 15 39 := ⟨⟨_,_,1,Tryz.underlying84,rfl,rfl,by kernel_rfl,by decide⟩⟩
theorem Ar6 : TI Tryz.prog 82 false 1 := ⟨⟨_,Tryz.underlying82,rfl⟩,by kernel_rfl⟩
theorem Aus : FI Tryz.prog 64 0 0 := ⟨⟨_,_,1,Tryz.underlying64,rfl,rfl,by kernel_rfl,by decide⟩⟩
theorem Aur : FI Tryz.prog 64 1 1 := ⟨⟨_,_,1,Tryz.underlying64,rfl,rfl,by kernel_rfl,by decide⟩⟩
theorem As0 : FI Tryz.prog 64 2 2 := ⟨⟨_,_,8,Tryz.underlying64,rfl,rfl,by kernel_rfl,by decide⟩⟩
theorem Aw5 : ZI Tryz.prog 132 (Zbf) := Mo (by kernel_rfl)
theorem Av5 : PI Tryz.prog 132 [(0,1),(1,1),(2,8)] := Nz Tryz.underlying132 (by kernel_rfl) (by kernel_rfl)
theorem Atw : EI Tryz.prog 132 10 80 Zbf := Vj (by kernel_rfl) (by decide)
theorem A06 : NI Tryz.prog 82 := ⟨.inl ⟨_,Tryz.underlying82⟩⟩
theorem Az0 : (Tryz.prog.info? 82).map (·.size) = some 1 := by kernel_rfl
theorem Ay6 : TI Tryz.prog 84 true 40 := ⟨⟨_,Tryz.underlying84,rfl⟩,by kernel_rfl⟩
theorem Asd : FnI Tryz.prog 20 := ⟨⟨_,Tryz.func20,by kernel_rfl,by kernel_rfl⟩⟩
theorem Azc : TI Tryz.prog 76 true 6 := ⟨⟨_,Tryz.underlying76,rfl⟩,by kernel_rfl⟩
theorem Az5 : EqD Tryz.prog 76 [0,0,0,0,0,0] := ⟨by kernel_rfl,by kernel_rfl,by kernel_rfl,by kernel_rfl⟩
theorem An7 : FI Tryz.prog 84 2 7 := ⟨⟨_,_,1,Tryz.underlying84,rfl,rfl,by kernel_rfl,by decide⟩⟩
theorem Aoj : FI Tryz.prog 84 3 8 := ⟨⟨_,_,1,Tryz.underlying84,rfl,rfl,by kernel_rfl,by decide⟩⟩
theorem Ao8 : FI Tryz.prog 84 4 9 := ⟨⟨_,_,1,Tryz.underlying84,rfl,rfl,by kernel_rfl,by decide⟩⟩
theorem Aoy : FI Tryz.prog 84 5 10 := ⟨⟨_,_,1,Tryz.underlying84,rfl,rfl,by kernel_rfl,by decide⟩⟩
theorem Aom : FI Tryz.prog 84 6 11 := ⟨⟨_,_,1,Tryz.underlying84,rfl,rfl,by kernel_rfl,by decide⟩⟩
theorem Apb : FI Tryz.prog 84 7 12 := ⟨⟨_,_,1,Tryz.underlying84,rfl,rfl,by kernel_rfl,by decide⟩⟩
theorem Ao7 : FI Tryz.prog 84 8 13 := ⟨⟨_,_,1,Tryz.underlying84,rfl,rfl,by kernel_rfl,by decide⟩⟩
theorem Apk : FI Tryz.prog 84 9 14 := ⟨⟨_,_,1,Tryz.underlying84,rfl,rfl,by kernel_rfl,by decide⟩⟩
theorem Ai5 : FI Tryz.prog 84 10 15 := ⟨⟨_,_,10,Tryz.underlying84,rfl,rfl,by kernel_rfl,by decide⟩⟩
theorem A08 : EqD Tryz.prog 78 [0,0,0,0,0,0,0,0,0,1] := ⟨by kernel_rfl,by kernel_rfl,by kernel_rfl,by kernel_rfl⟩
theorem Ake : FI Tryz.prog 84 11 25 := ⟨⟨_,_,10,Tryz.underlying84,rfl,rfl,by kernel_rfl,by decide⟩⟩
theorem Ao4 : FI Tryz.prog 79 0 0 := ⟨⟨_,_,1,Tryz.underlying79,rfl,rfl,by kernel_rfl,by decide⟩⟩
theorem Aoc : FI Tryz.prog 79 1 1 := ⟨⟨_,_,1,Tryz.underlying79,rfl,rfl,by kernel_rfl,by decide⟩⟩
theorem An6 : FI Tryz.prog 79 2 2 := ⟨⟨_,_,1,Tryz.underlying79,rfl,rfl,by kernel_rfl,by decide⟩⟩
theorem Aow : FI Tryz.prog 79 3 3 := ⟨⟨_,_,1,Tryz.underlying79,rfl,rfl,by kernel_rfl,by decide⟩⟩
theorem Aoh : FI Tryz.prog 79 4 4 := ⟨⟨_,_,1,Tryz.underlying79,rfl,rfl,by kernel_rfl,by decide⟩⟩
theorem Aoi : FI Tryz.prog 79 5 5 := ⟨⟨_,_,1,Tryz.underlying79,rfl,rfl,by kernel_rfl,by decide⟩⟩
theorem Apl : FI Tryz.prog 79 6 6 := ⟨⟨_,_,1,Tryz.underlying79,rfl,rfl,by kernel_rfl,by decide⟩⟩
theorem Aax : FI Tryz.prog 79 7 7 := ⟨⟨_,_,3,Tryz.underlying79,rfl,rfl,by kernel_rfl,by decide⟩⟩
theorem Azu : FnI Tryz.prog 48 := ⟨⟨_,Tryz.func48,by kernel_rfl,by kernel_rfl⟩⟩
theorem Aik : FI Tryz.prog 84 12 35 := ⟨⟨_,_,2,Tryz.underlying84,rfl,rfl,by kernel_rfl,by decide⟩⟩
theorem Azp : TI Tryz.prog 80 true 2 := ⟨⟨_,Tryz.underlying80,rfl⟩,by kernel_rfl⟩
theorem Aod : FI Tryz.prog 80 0 0 := ⟨⟨_,_,1,Tryz.underlying80,rfl,rfl,by kernel_rfl,by decide⟩⟩
theorem Aok : FI Tryz.prog 80 1 1 := ⟨⟨_,_,1,Tryz.underlying80,rfl,rfl,by kernel_rfl,by decide⟩⟩
theorem A1t : FnI Tryz.prog 49 := ⟨⟨_,Tryz.func49,by kernel_rfl,by kernel_rfl⟩⟩
theorem Alb : FI Tryz.prog 84 13 37 := ⟨⟨_,_,1,Tryz.underlying84,rfl,rfl,by kernel_rfl,by decide⟩⟩
theorem Apz : SI Tryz.prog 77 52 3 := ⟨Tryz.underlying77,by kernel_rfl,by decide⟩
theorem Atz : SI Tryz.prog 81 131 12 := ⟨Tryz.underlying81,by kernel_rfl,by decide⟩
theorem Asj : SI Tryz.prog 82 132 10 := ⟨Tryz.underlying82,by kernel_rfl,by decide⟩
theorem A0b : FnI Tryz.prog 81 := ⟨⟨_,Tryz.func81,by kernel_rfl,by kernel_rfl⟩⟩
theorem A1j : FnI Tryz.prog 50 := ⟨⟨_,Tryz.func50,by kernel_rfl,by kernel_rfl⟩⟩
theorem As8 : TI Tryz.prog 131 true 12 := ⟨⟨_,Tryz.underlying131,rfl⟩,by kernel_rfl⟩
theorem Ax7 : EqD Tryz.prog 131 [0,0,0,0,0,0,0,0,0,0,0,0] := ⟨by kernel_rfl,by kernel_rfl,by kernel_rfl,by kernel_rfl⟩
theorem Aua : TI Tryz.prog 132 true 10 := ⟨⟨_,Tryz.underlying132,rfl⟩,by kernel_rfl⟩
theorem Av9 : EqD Tryz.prog 132 [0,0,0,0,0,0,0,0,0,0] := ⟨by kernel_rfl,by kernel_rfl,by kernel_rfl,by kernel_rfl⟩
theorem Avk : FnI Tryz.prog 19 := ⟨⟨_,Tryz.func19,by kernel_rfl,by kernel_rfl⟩⟩
def O3  : Option Cx :=
 some (Cx.mk 3 (D3.mk 4 30 4) 3 2)
theorem Ul  {r : Cx} (h : O3 = some r) : Bl Tryz.prog 10 [] (· = .s (.agg (el r))) := by
 unfold O3 at h
 refine Au Tryz.func10 rfl (nt := 3) rfl (Nbl rfl) ?_
 intro w0 S0
 refine csr (Bw rfl Avv (Al (csr (sv rfl (Be A00 A04 (Ah rfl (Ah rfl (Ah rfl Ay))) (.cons _ _ _ _ _ _ _ rfl rfl (Nbl rfl) (.cons _ _ _ _ _ _ _ rfl rfl (Nbl rfl) (.cons _ _ _ _ _ _ _ rfl rfl (Nbl rfl) (.nil _))))) (sv rfl (Be Avv A1g (Ah rfl (Ah rfl (Ah rfl (Ah rfl Ay)))) (.cons _ _ _ _ _ _ _ rfl rfl (Nbl rfl) (.cons _ _ _ _ _ _ _ rfl rfl (Nbl rfl) (.cons _ _ _ _ _ _ _ rfl rfl (Nbl rfl) (.cons _ _ _ _ _ _ _ rfl rfl (Nbl rfl) (.nil _)))))) (An Ay0 rfl rfl rfl rfl (Nbl rfl) (Bs [.box [Ii6 3,Ii6 4,Ii6 30,Ii6 4,Ii6 3,Ii6 2]] rfl (Al (Bg ?_)))))))))
 cases SJ h
 exact dnA rfl Atu rfl (.lp _ _ _ rfl) (Nbl rfl) rfl rfl
def B1 (a0 : Int) (a1 : Int) (a2 : Int) : Option Bool :=
 if (decide (a1 ≤ a0)) then (some (decide (a0 ≤ a2))) else (some false)
theorem Co {a0 : Int} {a1 : Int} {a2 : Int} {r : Bool} (h : B1 a0 a1 a2 = some r) : Bl Tryz.prog 36 [.one (Ii6 a0),.one (Ii6 a1),.one (Ii6 a2)] (· = .s (.one (.b r))) := by
 unfold B1 at h
 refine Au Tryz.func36 rfl (nt := 15) rfl (Nbl rfl) ?_
 intro w0 S0
 refine csr (rm 1 rfl (Al (csr (rm 2 rfl (sv rfl (Nc rfl rfl) (rm 1 rfl (Bf 10 rfl (fun hc => ?_) (fun hc => ?_))))))))
 ·replace h := Br hc h
  clear hc
  refine rm 2 rfl (son rfl rfl rfl (sv rfl (Gm rfl rfl) (rm 2 rfl (Al (Bg ?_)))))
  cases SJ h
  exact dnT rfl rfl rfl rfl
 ·replace h := Bq hc h
  clear hc
  refine rm 5 rfl (Al (Bg ?_))
  cases SJ h
  exact dnT rfl rfl rfl rfl
def K9 (a0 : D3) : Option Bool :=
 if (decide (1 ≤ a0.Wait)) then (if (decide (a0.Wait ≤ 1048576)) then (if (decide (a0.Wait ≤ a0.Most)) then (if (decide (a0.Most ≤ 1073741824)) then (if (decide (0 ≤ a0.Tries)) then (some (decide (a0.Tries ≤ 100))) else (some false)) else (some false)) else (some false)) else (some false)) else (some false)
theorem Sg {a0 : D3} {r : Bool} (h : K9 a0 = some r) : Bl Tryz.prog 58 [.agg (el a0)] (· = .s (.one (.b r))) := by
 unfold K9 at h
 refine Au Tryz.func58 rfl (nt := 33) rfl (Nbl rfl) ?_
 intro w0 S0
 refine csr (Ih rfl rfl (rm 1 rfl (Al (csr (fl Acr ti3 rfl rfl rfl rfl rfl rfl (sv rfl (Nc rfl rfl) (rm 1 rfl (Bf 6 rfl (fun hc => ?_) (fun hc => ?_)))))))))
 ·replace h := Br hc h
  clear hc
  refine son rfl rfl rfl (sv rfl (Aa Acr rfl) (son rfl rfl rfl (sv rfl (Ae ti3 rfl (.lp _ _ _ rfl) rfl) (son rfl rfl rfl (sv rfl (Gm rfl rfl) (rm 2 rfl (Bf 11 rfl (fun hc => ?_) (fun hc => ?_))))))))
  ·replace h := Br hc h
   clear hc
   refine son rfl rfl rfl (sv rfl (Aa Af3 rfl) (son rfl rfl rfl (sv rfl (Ae ti3 rfl (.lp _ _ _ rfl) rfl) (son rfl rfl rfl (sv rfl (Aa Acr rfl) (son rfl rfl rfl (sv rfl (Ae ti3 rfl (.lp _ _ _ rfl) rfl) (son rfl rfl rfl (sv rfl (Nc rfl rfl) (rm 2 rfl (Bf 18 rfl (fun hc => ?_) (fun hc => ?_))))))))))))
   ·replace h := Br hc h
    clear hc
    refine son rfl rfl rfl (sv rfl (Aa Af3 rfl) (son rfl rfl rfl (sv rfl (Ae ti3 rfl (.lp _ _ _ rfl) rfl) (son rfl rfl rfl (sv rfl (Gm rfl rfl) (rm 2 rfl (Bf 23 rfl (fun hc => ?_) (fun hc => ?_))))))))
    ·replace h := Br hc h
     clear hc
     refine son rfl rfl rfl (sv rfl (Aa Aak rfl) (son rfl rfl rfl (sv rfl (Ae ti3 rfl (.lp _ _ _ rfl) rfl) (son rfl rfl rfl (sv rfl (Nc rfl rfl) (rm 2 rfl (Bf 28 rfl (fun hc => ?_) (fun hc => ?_))))))))
     ·replace h := Br hc h
      clear hc
      refine son rfl rfl rfl (sv rfl (Aa Aak rfl) (son rfl rfl rfl (sv rfl (Ae ti3 rfl (.lp _ _ _ rfl) rfl) (son rfl rfl rfl (sv rfl (Gm rfl rfl) (rm 2 rfl (Al (Bg ?_))))))))
      cases SJ h
      exact dnT rfl rfl rfl rfl
     ·replace h := Bq hc h
      clear hc
      refine rm 5 rfl (Al (Bg ?_))
      cases SJ h
      exact dnT rfl rfl rfl rfl
    ·replace h := Bq hc h
     clear hc
     refine rm 10 rfl (Al (Bg ?_))
     cases SJ h
     exact dnT rfl rfl rfl rfl
   ·replace h := Bq hc h
    clear hc
    refine rm 15 rfl (Al (Bg ?_))
    cases SJ h
    exact dnT rfl rfl rfl rfl
  ·replace h := Bq hc h
   clear hc
   refine rm 22 rfl (Al (Bg ?_))
   cases SJ h
   exact dnT rfl rfl rfl rfl
 ·replace h := Bq hc h
  clear hc
  refine rm 27 rfl (Al (Bg ?_))
  cases SJ h
  exact dnT rfl rfl rfl rfl
def Hl (a0 : Cx) : Option Bool :=
 (B1 a0.Who 0 1048576).bind fun v1 => if v1 then ((K9 a0.Plan).bind fun v2 => if v2 then (if (decide (0 < a0.Plan.Tries)) then ((B1 a0.Attempts 1 1000).bind fun v3 => if v3 then ((B1 a0.Budget 0 1000).bind fun v4 => some v4) else (some false)) else (some false)) else (some false)) else (some false)
theorem N2 {a0 : Cx} {r : Bool} (h : Hl a0 = some r) : Bl Tryz.prog 25 [.agg (el a0)] (· = .s (.one (.b r))) := by
 unfold Hl at h
 refine Au Tryz.func25 rfl (nt := 27) rfl (Nbl rfl) ?_
 intro w0 S0
 refine csr (Ih rfl rfl (rm 1 rfl (Al (csr (sv rfl (Aa Agg rfl) (sv rfl (Ae ti3 rfl (.lp _ _ _ rfl) rfl) ?_))))))
 obtain ⟨v1,hv1,h⟩ := Ag h
 refine Av rfl Ah4 (Ab rfl (Ab rfl (Ab rfl Af))) (Ao rfl) (Co hv1) (rm 1 rfl (Bf 6 rfl (fun hc => ?_) (fun hc => ?_)))
 ·replace h := Br hc h
  clear hc
  refine son rfl rfl rfl (sv rfl (Aa Ur rfl) (son rfl rfl rfl (sv rfl (Ai Aos rfl (.lp _ _ _ rfl) (Nbl rfl)) (son rfl rfl rfl ?_))))
  obtain ⟨v2,hv2,h⟩ := Ag h
  refine Av rfl Ayy (Ab rfl Af) (Ao rfl) (Sg hv2) (rm 2 rfl (Bf 11 rfl (fun hc => ?_) (fun hc => ?_)))
  ·replace h := Br hc h
   clear hc
   refine son rfl rfl rfl (sv rfl (Aa Ur rfl) (son rfl rfl rfl (sv rfl (Aa Aak rfl) (son rfl rfl rfl (sv rfl (Ae ti3 rfl (.lp _ _ _ rfl) rfl) (son rfl rfl rfl (sv rfl (Dr rfl rfl) (rm 2 rfl (Bf 17 rfl (fun hc => ?_) (fun hc => ?_))))))))))
   ·replace h := Br hc h
    clear hc
    refine son rfl rfl rfl (sv rfl (Aa Afp rfl) (son rfl rfl rfl (sv rfl (Ae ti3 rfl (.lp _ _ _ rfl) rfl) (son rfl rfl rfl ?_))))
    obtain ⟨v3,hv3,h⟩ := Ag h
    refine Av rfl Ah4 (Ab rfl (Ab rfl (Ab rfl Af))) (Ao rfl) (Co hv3) (rm 2 rfl (Bf 22 rfl (fun hc => ?_) (fun hc => ?_)))
    ·replace h := Br hc h
     clear hc
     refine son rfl rfl rfl (sv rfl (Aa Aiq rfl) (son rfl rfl rfl (sv rfl (Ae ti3 rfl (.lp _ _ _ rfl) rfl) (son rfl rfl rfl ?_))))
     obtain ⟨v4,hv4,h⟩ := Ag h
     refine Av rfl Ah4 (Ab rfl (Ab rfl (Ab rfl Af))) (Ao rfl) (Co hv4) (rm 2 rfl (Al (Bg ?_)))
     cases SJ h
     exact dnT rfl rfl rfl rfl
    ·replace h := Bq hc h
     clear hc
     refine rm 5 rfl (Al (Bg ?_))
     cases SJ h
     exact dnT rfl rfl rfl rfl
   ·replace h := Bq hc h
    clear hc
    refine rm 10 rfl (Al (Bg ?_))
    cases SJ h
    exact dnT rfl rfl rfl rfl
  ·replace h := Bq hc h
   clear hc
   refine rm 16 rfl (Al (Bg ?_))
   cases SJ h
   exact dnT rfl rfl rfl rfl
 ·replace h := Bq hc h
  clear hc
  refine rm 21 rfl (Al (Bg ?_))
  cases SJ h
  exact dnT rfl rfl rfl rfl
def Mj (a0 : Cx) : Option (Ad × Int) :=
 (Hl a0).bind fun v1 => if (!v1) then (some (C4,1)) else (some ((Ad.mk a0 ([] : List Am) 1 1 0 0 0 0 0 false G4 Pl (A0.mk ([] : List UInt8) 0) ([] : List UInt8) ([] : List A8) ([] : List A9)),0))
theorem Tu {a0 : Cx} {r : Ad × Int} (h : Mj a0 = some r) : Bl Tryz.prog 9 [.agg (el a0)] (· = .tup [.agg (el r.1),.one (Ii6 r.2)]) := by
 unfold Mj at h
 refine Au Tryz.func9 rfl (nt := 10) rfl (Nbl rfl) ?_
 intro w0 S0
 refine csr (Ih rfl rfl (Bw rfl O1 (rm 1 rfl (Al (Bp (csr (sv rfl (Ai Atu rfl (.lp _ _ _ rfl) (Nbl rfl)) ?_)))))))
 obtain ⟨v1,hv1,h⟩ := Ag h
 refine Av rfl Ayc (Ab rfl Af) (Ao rfl) (N2 hv1) (sv rfl (B5 rfl) (Al (ccI h rfl (fun h => ?_) (fun h => ?_))))
 ·refine csr (sv rfl (Be O1 Agj Ay (.nil _)) (An E2 rfl rfl rfl rfl (Nbl rfl) (Bs [.box (el a0),.box Zba] rfl (rm 1 rfl (Al (Bg (Ak ?_)))))))
  cases SJ h
  refine ⟨Or.inr rfl,_,_,_,(Aj (Cu.agg _ _ _ _ _ B6 rfl (.lp _ _ _ rfl) (Nbl rfl)) (Aj (Cu.tmp _ _ rfl) As)),(O4 rfl),?_⟩
  rfl
 ·refine Bi (Ac (csr (sv rfl (Ai Atu rfl (.lp _ _ _ rfl) (Nbl rfl)) (sv rfl (Be O1 Agj (Ah rfl (Ah rfl (Ah rfl Ay))) (.cons _ _ _ _ _ _ _ rfl rfl (Nbl rfl) (.cons _ _ _ _ _ _ _ rfl rfl (Nbl rfl) (.cons _ _ _ _ _ _ _ rfl rfl (Nbl rfl) (.nil _))))) (An E2 rfl rfl rfl rfl (Nbl rfl) (Bs [.box (el a0),.box [Ii6 a0.Who,Ii6 a0.Plan.Wait,Ii6 a0.Plan.Most,Ii6 a0.Plan.Tries,Ii6 a0.Attempts,Ii6 a0.Budget,Znl,Ii6 1,Ii6 1,Ii6 0,Ii6 0,Ii6 0,Ii6 0,Ii6 0,.b false,Ii6 0,Ii6 0,Ii6 0,Ii6 0,Ii6 0,Ii6 0,Ii6 0,Ii6 0,Ii6 0,.b false,Ii6 0,Ii6 0,Ii6 0,Ii6 0,.b false,Znl,Znl,Znl,Znl,.b false,Znl,Ii6 0,Znl,Znl,Znl]] rfl (rm 1 rfl (Al (Bg ?_)))))))))
  cases SJ h
  refine ⟨Or.inr rfl,_,_,_,(Aj (Cu.agg _ _ _ _ _ B6 rfl (.lp _ _ _ rfl) (Nbl rfl)) (Aj (Cu.tmp _ _ rfl) As)),(O4 rfl),?_⟩
  rfl
def Gw (a0 : Ad) : Option Bool :=
 (B1 a0.Phase 0 11).bind fun v1 => if v1 then ((B1 a0.Epoch 1 65535).bind fun v2 => if v2 then ((B1 a0.Seq 0 4294967296).bind fun v3 => if v3 then ((B1 a0.Attempt 0 a0.Cfg.Attempts).bind fun v4 => if v4 then (if (decide (0 ≤ a0.Sent)) then (if (decide (0 ≤ a0.Left)) then ((B1 a0.Resets 0 1001).bind fun v5 => some v5) else (some false)) else (some false)) else (some false)) else (some false)) else (some false)) else (some false)
theorem Rf {a0 : Ad} {r : Bool} (h : Gw a0 = some r) : Bl Tryz.prog 29 [.agg (el a0)] (· = .s (.one (.b r))) := by
 unfold Gw at h
 refine Au Tryz.func29 rfl (nt := 39) rfl (Nbl rfl) ?_
 intro w0 S0
 refine csr (Ih rfl rfl (rm 1 rfl (Al (csr (sv rfl (Aa G8 rfl) (sv rfl (Ae ti3 rfl (.lp _ _ _ rfl) rfl) ?_))))))
 obtain ⟨v1,hv1,h⟩ := Ag h
 refine Av rfl Ah4 (Ab rfl (Ab rfl (Ab rfl Af))) (Ao rfl) (Co hv1) (rm 1 rfl (Bf 6 rfl (fun hc => ?_) (fun hc => ?_)))
 ·replace h := Br hc h
  clear hc
  refine son rfl rfl rfl (sv rfl (Aa Aar rfl) (son rfl rfl rfl (sv rfl (Ae ti3 rfl (.lp _ _ _ rfl) rfl) (son rfl rfl rfl ?_))))
  obtain ⟨v2,hv2,h⟩ := Ag h
  refine Av rfl Ah4 (Ab rfl (Ab rfl (Ab rfl Af))) (Ao rfl) (Co hv2) (rm 2 rfl (Bf 11 rfl (fun hc => ?_) (fun hc => ?_)))
  ·replace h := Br hc h
   clear hc
   refine son rfl rfl rfl (sv rfl (Aa Yw rfl) (son rfl rfl rfl (sv rfl (Ae ti3 rfl (.lp _ _ _ rfl) rfl) (son rfl rfl rfl ?_))))
   obtain ⟨v3,hv3,h⟩ := Ag h
   refine Av rfl Ah4 (Ab rfl (Ab rfl (Ab rfl Af))) (Ao rfl) (Co hv3) (rm 2 rfl (Bf 16 rfl (fun hc => ?_) (fun hc => ?_)))
   ·replace h := Br hc h
    clear hc
    refine son rfl rfl rfl (sv rfl (Aa Pd rfl) (son rfl rfl rfl (sv rfl (Ae ti3 rfl (.lp _ _ _ rfl) rfl) (son rfl rfl rfl (sv rfl (Aa Sd rfl) (son rfl rfl rfl (sv rfl (Aa Afp rfl) (son rfl rfl rfl (sv rfl (Ae ti3 rfl (.lp _ _ _ rfl) rfl) (son rfl rfl rfl ?_))))))))))
    obtain ⟨v4,hv4,h⟩ := Ag h
    refine Av rfl Ah4 (Ab rfl (Ab rfl (Ab rfl Af))) (Ao rfl) (Co hv4) (rm 2 rfl (Bf 24 rfl (fun hc => ?_) (fun hc => ?_)))
    ·replace h := Br hc h
     clear hc
     refine son rfl rfl rfl (sv rfl (Aa Aay rfl) (son rfl rfl rfl (sv rfl (Ae ti3 rfl (.lp _ _ _ rfl) rfl) (son rfl rfl rfl (sv rfl (Nc rfl rfl) (rm 2 rfl (Bf 29 rfl (fun hc => ?_) (fun hc => ?_))))))))
     ·replace h := Br hc h
      clear hc
      refine son rfl rfl rfl (sv rfl (Aa Sf rfl) (son rfl rfl rfl (sv rfl (Ae ti3 rfl (.lp _ _ _ rfl) rfl) (son rfl rfl rfl (sv rfl (Nc rfl rfl) (rm 2 rfl (Bf 34 rfl (fun hc => ?_) (fun hc => ?_))))))))
      ·replace h := Br hc h
       clear hc
       refine son rfl rfl rfl (sv rfl (Aa Acv rfl) (son rfl rfl rfl (sv rfl (Ae ti3 rfl (.lp _ _ _ rfl) rfl) (son rfl rfl rfl ?_))))
       obtain ⟨v5,hv5,h⟩ := Ag h
       refine Av rfl Ah4 (Ab rfl (Ab rfl (Ab rfl Af))) (Ao rfl) (Co hv5) (rm 2 rfl (Al (Bg ?_)))
       cases SJ h
       exact dnT rfl rfl rfl rfl
      ·replace h := Bq hc h
       clear hc
       refine rm 5 rfl (Al (Bg ?_))
       cases SJ h
       exact dnT rfl rfl rfl rfl
     ·replace h := Bq hc h
      clear hc
      refine rm 10 rfl (Al (Bg ?_))
      cases SJ h
      exact dnT rfl rfl rfl rfl
    ·replace h := Bq hc h
     clear hc
     refine rm 15 rfl (Al (Bg ?_))
     cases SJ h
     exact dnT rfl rfl rfl rfl
   ·replace h := Bq hc h
    clear hc
    refine rm 23 rfl (Al (Bg ?_))
    cases SJ h
    exact dnT rfl rfl rfl rfl
  ·replace h := Bq hc h
   clear hc
   refine rm 28 rfl (Al (Bg ?_))
   cases SJ h
   exact dnT rfl rfl rfl rfl
 ·replace h := Bq hc h
  clear hc
  refine rm 33 rfl (Al (Bg ?_))
  cases SJ h
  exact dnT rfl rfl rfl rfl
def Fh (a0 : Int) (a1 : Int) : Option Bool :=
 if (decide (0 ≤ a0)) then (some (decide (a0 ≤ a1))) else (some false)
theorem Jh {a0 : Int} {a1 : Int} {r : Bool} (h : Fh a0 a1 = some r) : Bl Tryz.prog 120 [.one (Ii6 a0),.one (Ii6 a1)] (· = .s (.one (.b r))) := by
 unfold Fh at h
 refine Au Tryz.func120 rfl (nt := 12) rfl (Nbl rfl) ?_
 intro w0 S0
 refine csr (rm 1 rfl (Al (csr (rm 1 rfl (sv rfl (Nc rfl rfl) (rm 1 rfl (Bf 7 rfl (fun hc => ?_) (fun hc => ?_))))))))
 ·replace h := Br hc h
  clear hc
  refine rm 2 rfl (son rfl rfl rfl (sv rfl (Gm rfl rfl) (rm 2 rfl (Al (Bg ?_)))))
  cases SJ h
  exact dnT rfl rfl rfl rfl
 ·replace h := Bq hc h
  clear hc
  refine rm 5 rfl (Al (Bg ?_))
  cases SJ h
  exact dnT rfl rfl rfl rfl
def Ht (a0 : Int) (b1 : Bool) : Option Mh :=
 if b1 then (some (Mh.mk true false true)) else (if (decide (a0 = 4)) then (some (Mh.mk false true false)) else (some (Mh.mk false false false)))
def G7 (a0 : Int) : Option Mh :=
 if (decide (a0 = 1)) then (some (Mh.mk true false false)) else (if (decide (a0 = 2)) then (Ht a0 (decide (a0 = 2))) else (Ht a0 (decide (a0 = 3))))
theorem P7 {a0 : Int} {r : Mh} (h : G7 a0 = some r) : Bl Tryz.prog 121 [.one (Ii6 a0)] (· = .s (.agg (el r))) := by
 unfold G7 at h
 refine Au Tryz.func121 rfl (nt := 15) rfl (Nbl rfl) ?_
 intro w0 S0
 refine csr (Bw rfl Ado (Al (Bp (csr (rm 1 rfl (Al (B3 (csr (sv rfl (Bn rfl rfl) (rm 1 rfl (Al (ccI h rfl (fun h => ?_) (fun h => ?_)))))))))))))
 ·refine csr (sv rfl (Hp Ado Aez (Ah rfl (Ah rfl (Ah rfl Ay))) (.cons _ _ _ _ _ _ _ rfl rfl (Nbl rfl) (.cons _ _ _ _ _ _ _ rfl rfl (Nbl rfl) (.cons _ _ _ _ _ _ _ rfl rfl (Nbl rfl) (.nil _))))) (An Aka rfl rfl rfl rfl (Nbl rfl) (Bs [.box [.b true,.b false,.b false]] rfl (Al (Bg (A2 (Ak ?_)))))))
  cases SJ h
  exact dnA rfl Ala rfl (.lp _ _ _ rfl) (Nbl rfl) rfl rfl
 ·refine Bp (csr (sv rfl (Bn rfl rfl) (rm 1 rfl (Al (Gg (Bool) (fun b1 => [(2,.s (.one (.lp 0 0))),(3,.s (.one (Ii6 a0))),(7,.s (.one (.b b1)))]) (fun b1 => [.box [.b false,.b false,.b false]]) (fun b1 => Ht a0 b1 = some r) (fun _ _ => A6 rfl) (fun _ _ => Ar rfl) (fun _ _ => Nbl rfl) (fun b1 h => ?_) ?_)))))
  ·unfold Ht at h
   refine ccI h rfl (fun h => ?_) (fun h => ?_)
   ·refine csr (sv rfl (Hp Ado Aez (Ah rfl (Ah rfl (Ah rfl Ay))) (.cons _ _ _ _ _ _ _ rfl rfl (Nbl rfl) (.cons _ _ _ _ _ _ _ rfl rfl (Nbl rfl) (.cons _ _ _ _ _ _ _ rfl rfl (Nbl rfl) (.nil _))))) (An Aka rfl rfl rfl rfl (Nbl rfl) (Bs [.box [.b true,.b false,.b true]] rfl (Al (Bg (A2 (Ak ?_)))))))
    cases SJ h
    exact dnA rfl Ala rfl (.lp _ _ _ rfl) (Nbl rfl) rfl rfl
   ·refine csr (sv rfl (Bn rfl rfl) (rm 1 rfl (Al (ccI h rfl (fun h => ?_) (fun h => ?_)))))
    ·refine csr (sv rfl (Hp Ado Aez (Ah rfl (Ah rfl (Ah rfl Ay))) (.cons _ _ _ _ _ _ _ rfl rfl (Nbl rfl) (.cons _ _ _ _ _ _ _ rfl rfl (Nbl rfl) (.cons _ _ _ _ _ _ _ rfl rfl (Nbl rfl) (.nil _))))) (An Aka rfl rfl rfl rfl (Nbl rfl) (Bs [.box [.b false,.b true,.b false]] rfl (Al (Bg (A2 (Ak ?_)))))))
     cases SJ h
     exact dnA rfl Ala rfl (.lp _ _ _ rfl) (Nbl rfl) rfl rfl
    ·refine Bi (Aw (Ac (csr (sv rfl (Hp Ado Aez Ay (.nil _)) (An Aka rfl rfl rfl rfl (Nbl rfl) (Bs [.box [.b false,.b false,.b false]] rfl (Al (Bg ?_))))))))
     cases SJ h
     exact dnA rfl Ala rfl (.lp _ _ _ rfl) (Nbl rfl) rfl rfl
  ·skip
   refine ccI h rfl (fun h => ?_) (fun h => ?_)
   ·refine Bi (Ac ?_)
    exact ⟨(decide (a0 = 2)),_,h,⟨rfl,rfl,rfl,trivial⟩,rfl⟩
   ·refine Az (sv rfl (Bn rfl rfl) (rm 1 rfl (Al ?_)))
    exact ⟨(decide (a0 = 3)),_,h,⟨rfl,rfl,rfl,trivial⟩,rfl⟩
def Jd (a0 : B2) : Option Bool :=
 if (decide (0 < (a0.Lo.length : Int))) then (some true) else (if (decide (0 < (a0.Hi.length : Int))) then (some true) else (some a0.Open))
theorem Ui {a0 : B2} {r : Bool} (h : Jd a0 = some r) : Bl Tryz.prog 122 [.agg (el a0)] (· = .s (.one (.b r))) := by
 unfold Jd at h
 refine Au Tryz.func122 rfl (nt := 17) rfl (Nbl rfl) ?_
 intro w0 S0
 refine csr (Ih rfl rfl (rm 1 rfl (Al (csr (fl Rk I9 rfl rfl rfl rfl rfl rfl (sv rfl (Aq Mi rfl) (sv rfl (Dr rfl rfl) (rm 1 rfl (Bf 7 rfl (fun hc => ?_) (fun hc => ?_))))))))))
 ·replace h := Br hc h
  clear hc
  refine rm 10 rfl (Al (Bg ?_))
  cases SJ h
  exact dnT rfl rfl rfl rfl
 ·replace h := Bq hc h
  clear hc
  refine son rfl rfl rfl (sv rfl (Aa Pw rfl) (son rfl rfl rfl (sv rfl (Ae I9 rfl (.lp _ _ _ rfl) rfl) (son rfl rfl rfl (sv rfl (Aq Mi rfl) (son rfl rfl rfl (sv rfl (Dr rfl rfl) (rm 2 rfl (Bf 13 rfl (fun hc => ?_) (fun hc => ?_))))))))))
  ·replace h := Br hc h
   clear hc
   refine rm 4 rfl (Al (Bg ?_))
   cases SJ h
   exact dnT rfl rfl rfl rfl
  ·replace h := Bq hc h
   clear hc
   refine son rfl rfl rfl (sv rfl (Aa Uk rfl) (son rfl rfl rfl (sv rfl (Ae ti4 rfl (.lp _ _ _ rfl) rfl) (rm 2 rfl (Al (Bg ?_))))))
   cases SJ h
   exact dnT rfl rfl rfl rfl
def La (a0 : List UInt8) : Option Bool :=
 if (decide (1 ≤ (a0.length : Int))) then (some (decide ((a0.length : Int) ≤ 16))) else (some false)
theorem Xn {a0 : List UInt8} {r : Bool} (h : La a0 = some r) : Bl Tryz.prog 123 [.one (.sl a0.length (a0.flatMap eU8))] (· = .s (.one (.b r))) := by
 unfold La at h
 refine Au Tryz.func123 rfl (nt := 11) rfl (Nbl rfl) ?_
 intro w0 S0
 refine csr (rm 1 rfl (Al (csr (rm 1 rfl (sv rfl (Aq Mi rfl) (sv rfl (Nc rfl rfl) (rm 1 rfl (Bf 6 rfl (fun hc => ?_) (fun hc => ?_)))))))))
 ·replace h := Br hc h
  clear hc
  refine rm 1 rfl (son rfl rfl rfl (sv rfl (Aq Mi rfl) (son rfl rfl rfl (sv rfl (Gm rfl rfl) (rm 2 rfl (Al (Bg ?_)))))))
  cases SJ h
  exact dnT rfl rfl rfl rfl
 ·replace h := Bq hc h
  clear hc
  refine rm 5 rfl (Al (Bg ?_))
  cases SJ h
  exact dnT rfl rfl rfl rfl
def G2 (a0 : B2) : Option Bool :=
 if (decide ((a0.Lo.length : Int) ≤ 17)) then (if (decide ((a0.Hi.length : Int) ≤ 17)) then (if a0.Open then (some (!(decide (0 < (a0.Hi.length : Int))))) else (some true)) else (some false)) else (some false)
theorem To {a0 : B2} {r : Bool} (h : G2 a0 = some r) : Bl Tryz.prog 133 [.agg (el a0)] (· = .s (.one (.b r))) := by
 unfold G2 at h
 refine Au Tryz.func133 rfl (nt := 24) rfl (Nbl rfl) ?_
 intro w0 S0
 refine csr (Ih rfl rfl (rm 1 rfl (Al (csr (fl Rk I9 rfl rfl rfl rfl rfl rfl (sv rfl (Aq Mi rfl) (sv rfl (Gm rfl rfl) (rm 1 rfl (Bf 7 rfl (fun hc => ?_) (fun hc => ?_))))))))))
 ·replace h := Br hc h
  clear hc
  refine son rfl rfl rfl (sv rfl (Aa Pw rfl) (son rfl rfl rfl (sv rfl (Ae I9 rfl (.lp _ _ _ rfl) rfl) (son rfl rfl rfl (sv rfl (Aq Mi rfl) (son rfl rfl rfl (sv rfl (Gm rfl rfl) (rm 2 rfl (Bf 13 rfl (fun hc => ?_) (fun hc => ?_))))))))))
  ·replace h := Br hc h
   clear hc
   refine son rfl rfl rfl (sv rfl (Aa Uk rfl) (son rfl rfl rfl (sv rfl (Ae ti4 rfl (.lp _ _ _ rfl) rfl) (rm 1 rfl (Bf 16 rfl (fun hc => ?_) (fun hc => ?_))))))
   ·replace h := Br hc h
    clear hc
    refine son rfl rfl rfl (sv rfl (Aa Pw rfl) (son rfl rfl rfl (sv rfl (Ae I9 rfl (.lp _ _ _ rfl) rfl) (son rfl rfl rfl (sv rfl (Aq Mi rfl) (son rfl rfl rfl (sv rfl (Dr rfl rfl) (rm 1 rfl (son rfl rfl rfl (sv rfl (B5 rfl) (rm 2 rfl (Al (Bg ?_)))))))))))))
    cases SJ h
    exact dnT rfl rfl rfl rfl
   ·replace h := Bq hc h
    clear hc
    refine rm 5 rfl (son rfl rfl rfl (sv rfl (B5 rfl) (rm 2 rfl (Al (Bg ?_)))))
    cases SJ h
    exact dnT rfl rfl rfl rfl
  ·replace h := Bq hc h
   clear hc
   refine rm 3 rfl (Lp rfl rfl rfl (Lp rfl rfl rfl (Lp rfl rfl rfl (Lp rfl rfl rfl (rm 4 rfl (Al (Bg ?_)))))))
   cases SJ h
   exact dnT rfl rfl rfl rfl
 ·replace h := Bq hc h
  clear hc
  refine rm 9 rfl (Lp rfl rfl rfl (Lp rfl rfl rfl (Lp rfl rfl rfl (Lp rfl rfl rfl (rm 4 rfl (Al (Bg ?_)))))))
  cases SJ h
  exact dnT rfl rfl rfl rfl
def Nu (a0 : List UInt8) (a1 : List UInt8) : Option Int :=
 some (Ah6 a0 a1)
theorem Ug {a0 : List UInt8} {a1 : List UInt8} {r : Int} (h : Nu a0 a1 = some r) : Bl Tryz.prog 141 [.one (.sl a0.length (a0.flatMap eU8)),.one (.sl a1.length (a1.flatMap eU8))] (· = .s (.one (Ii6 r))) := by
 unfold Nu at h
 refine Au Tryz.func141 rfl (nt := 8) rfl (Nbl rfl) ?_
 intro w0 S0
 refine csr (rm 1 rfl (Al (csr (rm 2 rfl (sv rfl (Anq (a := a0) (b := a1) Axn rfl rfl rfl rfl rfl rfl) (rm 1 rfl (Al (Bg ?_))))))))
 cases SJ h
 exact dnT rfl rfl rfl rfl
def Rv (a0 : List UInt8) (a1 : List UInt8) : Option Int :=
 (Nu a0 a1).bind fun v1 => some v1
theorem Zj {a0 : List UInt8} {a1 : List UInt8} {r : Int} (h : Rv a0 a1 = some r) : Bl Tryz.prog 139 [.one (.sl a0.length (a0.flatMap eU8)),.one (.sl a1.length (a1.flatMap eU8))] (· = .s (.one (Ii6 r))) := by
 unfold Rv at h
 refine Au Tryz.func139 rfl (nt := 8) rfl (Nbl rfl) ?_
 intro w0 S0
 refine csr (rm 1 rfl (Al (csr (rm 1 rfl (sv rfl (Bc rfl) ?_)))))
 obtain ⟨v1,hv1,h⟩ := Ag h
 refine Av rfl Axo (Ab rfl (Ab rfl Af)) (Ao rfl) (Ug hv1) (rm 1 rfl (Al (Bg ?_)))
 cases SJ h
 exact dnT rfl rfl rfl rfl
def Ga (a0 : B2) (b1 : Bool) : Option Bool :=
 if b1 then (some true) else ((Rv a0.Hi a0.Lo).bind fun v2 => some (decide (v2 ≤ 0)))
def L2 (a0 : B2) : Option Bool :=
 if a0.Open then (some false) else (if (decide ((a0.Lo.length : Int) = 0)) then (if (decide ((a0.Hi.length : Int) = 1)) then ((idx a0.Hi 0).bind fun u3 => Ga a0 (decide ((u3.toBitVec.toNat : Int) = (0 : Int)))) else (Ga a0 false)) else (Ga a0 false))
theorem W0 {a0 : B2} {r : Bool} (h : L2 a0 = some r) : Bl Tryz.prog 134 [.agg (el a0)] (· = .s (.one (.b r))) := by
 unfold L2 at h
 refine Au Tryz.func134 rfl (nt := 32) rfl (Nbl rfl) ?_
 intro w0 S0
 refine csr (Ih rfl rfl (rm 1 rfl (Al (Bp (csr (fl Uk ti4 rfl rfl rfl rfl rfl rfl (Al (ccI h rfl (fun h => ?_) (fun h => ?_)))))))))
 ·refine csr (rm 1 rfl (Al (Bg (Ak ?_))))
  cases SJ h
  exact dnT rfl rfl rfl rfl
 ·refine Bi (Ac (Bp (Gg (Bool) (fun b1 => [(1,.s (.one (.lp 0 0))),(3,.s (.one (.b b1)))]) (fun b1 => [.box (el a0)]) (fun b1 => Ga a0 b1 = some r) (fun _ _ => A6 rfl) (fun _ _ => Ar rfl) (fun _ _ => Nbl rfl) (fun b1 h => ?_) ?_)))
  ·unfold Ga at h
   refine csr (rm 2 rfl (Bf 24 rfl (fun hc => ?_) (fun hc => ?_)))
   ·replace h := Br hc h
    clear hc
    refine rm 8 rfl (Al (Bg ?_))
    cases SJ h
    exact dnT rfl rfl rfl rfl
   ·replace h := Bq hc h
    clear hc
    refine son rfl rfl rfl (sv rfl (Aa Pw rfl) (son rfl rfl rfl (sv rfl (Ae I9 rfl (.lp _ _ _ rfl) rfl) (son rfl rfl rfl (sv rfl (Aa Rk rfl) (son rfl rfl rfl (sv rfl (Ae I9 rfl (.lp _ _ _ rfl) rfl) (son rfl rfl rfl ?_))))))))
    obtain ⟨v2,hv2,h⟩ := Ag h
    refine Av rfl Av1 (Ab rfl (Ab rfl Af)) (Ao rfl) (Zj hv2) (son rfl rfl rfl (sv rfl (Gm rfl rfl) (rm 2 rfl (Al (Bg ?_)))))
    cases SJ h
    exact dnT rfl rfl rfl rfl
  ·skip
   refine Az (fl Rk I9 rfl rfl rfl rfl rfl rfl (sv rfl (Aq Mi rfl) (sv rfl (Bn rfl rfl) (rm 1 rfl (Bf 10 rfl (fun hc => ?_) (fun hc => ?_))))))
   ·replace h := Br hc h
    clear hc
    refine son rfl rfl rfl (sv rfl (Aa Pw rfl) (son rfl rfl rfl (sv rfl (Ae I9 rfl (.lp _ _ _ rfl) rfl) (son rfl rfl rfl (sv rfl (Aq Mi rfl) (son rfl rfl rfl (sv rfl (Bn rfl rfl) (rm 2 rfl (Bf 16 rfl (fun hc => ?_) (fun hc => ?_))))))))))
    ·replace h := Br hc h
     clear hc
     refine son rfl rfl rfl (sv rfl (Aa Pw rfl) (son rfl rfl rfl (sv rfl (Ae I9 rfl (.lp _ _ _ rfl) rfl) (son rfl rfl rfl ?_))))
     obtain ⟨u3,hu3,h⟩ := Ag h
     refine sv rfl (Db (f := eU8) Mi (fun _ => rfl) rfl rfl rfl rfl hu3) ?_
     refine son rfl rfl rfl (sv rfl (Ae ti5 rfl (.cp _) rfl) (son rfl rfl rfl (sv rfl (Bn rfl rfl) (rm 2 rfl (Al ?_)))))
     exact ⟨(decide ((u3.toBitVec.toNat : Int) = (0 : Int))),_,h,⟨rfl,rfl,trivial⟩,rfl⟩
    ·replace h := Bq hc h
     clear hc
     refine rm 7 rfl (Al ?_)
     exact ⟨false,_,h,⟨rfl,rfl,trivial⟩,rfl⟩
   ·replace h := Bq hc h
    clear hc
    refine rm 13 rfl (Al ?_)
    exact ⟨false,_,h,⟨rfl,rfl,trivial⟩,rfl⟩
def Eh (a0 : B2) : Option Bool :=
 (G2 a0).bind fun v1 => if v1 then (if (decide ((a0.Lo.length : Int) ≤ 16)) then (if (decide ((a0.Hi.length : Int) ≤ 16)) then ((L2 a0).bind fun v2 => some (!v2)) else (some false)) else (some false)) else (some false)
theorem S8 {a0 : B2} {r : Bool} (h : Eh a0 = some r) : Bl Tryz.prog 124 [.agg (el a0)] (· = .s (.one (.b r))) := by
 unfold Eh at h
 refine Au Tryz.func124 rfl (nt := 22) rfl (Nbl rfl) ?_
 intro w0 S0
 refine csr (Ih rfl rfl (rm 1 rfl (Al (csr (sv rfl (Ai Ahk rfl (.lp _ _ _ rfl) (Nbl rfl)) ?_)))))
 obtain ⟨v1,hv1,h⟩ := Ag h
 refine Av rfl Awm (Ab rfl Af) (Ao rfl) (To hv1) (rm 1 rfl (Bf 5 rfl (fun hc => ?_) (fun hc => ?_)))
 ·replace h := Br hc h
  clear hc
  refine son rfl rfl rfl (sv rfl (Aa Rk rfl) (son rfl rfl rfl (sv rfl (Ae I9 rfl (.lp _ _ _ rfl) rfl) (son rfl rfl rfl (sv rfl (Aq Mi rfl) (son rfl rfl rfl (sv rfl (Gm rfl rfl) (rm 2 rfl (Bf 11 rfl (fun hc => ?_) (fun hc => ?_))))))))))
  ·replace h := Br hc h
   clear hc
   refine son rfl rfl rfl (sv rfl (Aa Pw rfl) (son rfl rfl rfl (sv rfl (Ae I9 rfl (.lp _ _ _ rfl) rfl) (son rfl rfl rfl (sv rfl (Aq Mi rfl) (son rfl rfl rfl (sv rfl (Gm rfl rfl) (rm 2 rfl (Bf 17 rfl (fun hc => ?_) (fun hc => ?_))))))))))
   ·replace h := Br hc h
    clear hc
    refine son rfl rfl rfl (sv rfl (Ai Ahk rfl (.lp _ _ _ rfl) (Nbl rfl)) (son rfl rfl rfl ?_))
    obtain ⟨v2,hv2,h⟩ := Ag h
    refine Av rfl Axk (Ab rfl Af) (Ao rfl) (W0 hv2) (son rfl rfl rfl (sv rfl (B5 rfl) (rm 2 rfl (Al (Bg ?_)))))
    cases SJ h
    exact dnT rfl rfl rfl rfl
   ·replace h := Bq hc h
    clear hc
    refine rm 5 rfl (Al (Bg ?_))
    cases SJ h
    exact dnT rfl rfl rfl rfl
  ·replace h := Bq hc h
   clear hc
   refine rm 11 rfl (Al (Bg ?_))
   cases SJ h
   exact dnT rfl rfl rfl rfl
 ·replace h := Bq hc h
  clear hc
  refine rm 17 rfl (Al (Bg ?_))
  cases SJ h
  exact dnT rfl rfl rfl rfl
def C8 (a0 : B9) (b4 : Bool) : Option Bool :=
 if b4 then ((La a0.Key).bind fun v5 => some v5) else (if (decide (a0.What = 4)) then ((Eh a0.Rng).bind fun v6 => some v6) else (if (decide (a0.What = 7)) then (some (decide (a0.N ≤ 24))) else (some true)))
def C6 (a0 : B9) (b3 : Unit) : Option Bool :=
 if (decide (a0.What = 1)) then (C8 a0 (decide (a0.What = 1))) else (if (decide (a0.What = 2)) then (C8 a0 (decide (a0.What = 2))) else (C8 a0 (decide (a0.What = 3))))
def Fl (a0 : B9) (a1 : Bool) (b1 : Unit) : Option Bool :=
 (G7 a0.What).bind fun v2 => (Jd a0.Rng).bind fun v7 => if (!(((decide (0 < (a0.Key.length : Int))) == v2.R0) && ((v7 == v2.R1) && ((v2.R2 == v2.R2) && true)))) then (some false) else (if a1 then (if v2.R2 then (some false) else (C6 a0 ())) else (C6 a0 ()))
def Cn (a0 : B9) (a1 : Bool) : Option Bool :=
 (Fh (wI (a0.What - 1)) 7).bind fun v8 => if (!v8) then (some false) else ((Fh a0.A 7).bind fun v9 => if (!v9) then (some false) else ((Fh a0.B 7).bind fun v10 => if (!v10) then (some false) else ((Fh a0.N 4294967295).bind fun v11 => if (!v11) then (some false) else (Fl a0 a1 ()))))
theorem Vs {a0 : B9} {a1 : Bool} {r : Bool} (h : Cn a0 a1 = some r) : Bl Tryz.prog 107 [.agg (el a0),.one (.b a1)] (· = .s (.one (.b r))) := by
 unfold Cn at h
 refine Au Tryz.func107 rfl (nt := 71) rfl (Nbl rfl) ?_
 intro w0 S0
 refine csr (Ih rfl rfl (rm 1 rfl (Al (Bp (Bp (Jk (Unit) (fun b1 => [(1,.s (.one (.b a1))),(2,.s (.one (.lp 0 0)))]) (fun b1 => [.box (el a0)]) (fun b1 => Fl a0 a1 b1 = some r) (fun _ _ => A6 rfl) (fun _ _ => Ar rfl) (fun _ _ => Nbl rfl) (fun b1 h => ?_) ?_))))))
 ·unfold Fl at h
  refine csr (sv rfl (Aa Xg rfl) (sv rfl (Ae ti3 rfl (.lp _ _ _ rfl) rfl) ?_))
  obtain ⟨v2,hv2,h⟩ := Ag h
  refine Av rfl As6 (Ab rfl Af) (Ao rfl) (P7 hv2) (Bw rfl Ado (An Aka rfl rfl rfl rfl (Nbl rfl) (Bs [.box (el a0),.box (el v2)] rfl (Al (Bp (Az ?_))))))
  refine sv rfl (Qr (o := 2) Aez rfl rfl (by decide)) ?_
  refine sv rfl (Ae ti4 rfl (.lp _ _ _ rfl) rfl) (rm 1 rfl (Al (Bp (Bp (Jk (Unit) (fun b3 => [(2,.s (.one (.lp 0 0)))]) (fun b3 => [.box (el a0),.box (el v2)]) (fun b3 => C6 a0 b3 = some r) (fun _ _ => A6 rfl) (fun _ _ => Ar rfl) (fun _ _ => Nbl rfl) (fun b3 h => ?_) ?_)))))
  ·unfold C6 at h
   refine Bp (csr (fl Xg ti3 rfl rfl rfl rfl rfl rfl (Al (B3 (Bp (csr (sv rfl (Bn rfl rfl) (rm 1 rfl (Al (Gg (Bool) (fun b4 => [(2,.s (.one (.lp 0 0))),(53,.s (.one (Ii6 a0.What))),(54,.s (.one (.b b4)))]) (fun b4 => [.box (el a0),.box (el v2)]) (fun b4 => C8 a0 b4 = some r) (fun _ _ => A6 rfl) (fun _ _ => Ar rfl) (fun _ _ => Nbl rfl) (fun b4 h => ?_) ?_))))))))))
   ·unfold C8 at h
    refine ccI h rfl (fun h => ?_) (fun h => ?_)
    ·refine csr (sv rfl (Aa Aab rfl) (sv rfl (Ae I9 rfl (.lp _ _ _ rfl) rfl) ?_))
     obtain ⟨v5,hv5,h⟩ := Ag h
     refine Av rfl Awy (Ab rfl Af) (Ao rfl) (Xn hv5) (rm 1 rfl (Al (Bg (A2 (Ak ?_)))))
     cases SJ h
     exact dnT rfl rfl rfl rfl
    ·refine csr (sv rfl (Bn rfl rfl) (rm 1 rfl (Al (ccI h rfl (fun h => ?_) (fun h => ?_)))))
     ·refine csr (sv rfl (Aa Agp rfl) (sv rfl (Ai Ahk rfl (.lp _ _ _ rfl) (Nbl rfl)) ?_))
      obtain ⟨v6,hv6,h⟩ := Ag h
      refine Av rfl Ax9 (Ab rfl Af) (Ao rfl) (S8 hv6) (rm 1 rfl (Al (Bg (A2 (Ak ?_)))))
      cases SJ h
      exact dnT rfl rfl rfl rfl
     ·refine csr (sv rfl (Bn rfl rfl) (rm 1 rfl (Al (ccI h rfl (fun h => ?_) (fun h => ?_)))))
      ·refine csr (fl Aag ti3 rfl rfl rfl rfl rfl rfl (sv rfl (Gm rfl rfl) (rm 1 rfl (Al (Bg (A2 (Ak ?_)))))))
       cases SJ h
       exact dnT rfl rfl rfl rfl
      ·refine Bi (Aw (Ac (csr (rm 1 rfl (Al (Bg ?_))))))
       cases SJ h
       exact dnT rfl rfl rfl rfl
   ·skip
    refine ccI h rfl (fun h => ?_) (fun h => ?_)
    ·refine Bi (Ac ?_)
     exact ⟨(decide (a0.What = 1)),_,h,⟨rfl,rfl,rfl,trivial⟩,rfl⟩
    ·refine csr (sv rfl (Bn rfl rfl) (rm 1 rfl (Al (ccI h rfl (fun h => ?_) (fun h => ?_)))))
     ·refine Bi (Ac ?_)
      exact ⟨(decide (a0.What = 2)),_,h,⟨rfl,rfl,rfl,trivial⟩,rfl⟩
     ·refine Az (sv rfl (Bn rfl rfl) (rm 1 rfl (Al ?_)))
      exact ⟨(decide (a0.What = 3)),_,h,⟨rfl,rfl,rfl,trivial⟩,rfl⟩
  ·skip
   refine Yf Kd (by kernel_rfl) ?_
   refine dv rfl (Aa Aab rfl) (dv rfl (Ae I9 rfl (.lp _ _ _ rfl) rfl) (dv rfl (Aq Mi rfl) (dv rfl (Dr rfl rfl) (dv rfl (Aa Agp rfl) (dv rfl (Ai Ahk rfl (.lp _ _ _ rfl) (Nbl rfl)) ?_)))))
   obtain ⟨v7,hv7,h⟩ := Ag h
   refine dd rfl (Cm Av8 (Ab rfl Af) rfl (Ui hv7)) (dv rfl (Bc rfl) (dv rfl (Hp Ado Aez (Ah rfl (Ah rfl (Ah rfl Ay))) (.cons _ _ _ _ _ _ _ rfl rfl (Nbl rfl) (.cons _ _ _ _ _ _ _ rfl rfl (Nbl rfl) (.cons _ _ _ _ _ _ _ rfl rfl (Nbl rfl) (.nil _))))) (dv rfl (Ai Ala rfl (.lp _ _ _ rfl) (Nbl rfl)) (dv rfl (T3 Asm rfl rfl rfl rfl rfl) (dv rfl (Bc rfl) (Aa0 46 rfl (fun hc => ?_) (fun hc => ?_)))))))
   ·replace h := Br hc h
    clear hc
    refine Uc rfl rfl rfl rfl (Uc rfl rfl rfl rfl (Awq rfl rfl rfl (Uc rfl rfl rfl rfl (dv rfl (Oc rfl rfl) (Zy (Ac (Ei rfl (fun _ => ?_) (fun hx => Bool.noConfusion hx))))))))
    refine csr (rm 1 rfl (Al (Bg (Ak ?_))))
    cases SJ h
    exact dnT rfl rfl rfl rfl
   ·replace h := Bq hc h
    clear hc
    refine dvg rfl rfl rfl (Bc rfl) (dvg rfl rfl rfl (Bc rfl) (Aa0 48 rfl (fun hc => ?_) (fun hc => ?_)))
    ·replace h := Br hc h
     clear hc
     refine dvg rfl rfl rfl (Bc rfl) (dvg rfl rfl rfl (Oc rfl rfl) (dv rfl (Nh rfl rfl) (Zy (Ac (ccI h rfl (fun h => ?_) (fun h => ?_))))))
     ·refine csr (rm 1 rfl (Al (Bg (Ak ?_))))
      cases SJ h
      exact dnT rfl rfl rfl rfl
     ·refine Bi (Ac ?_)
      exact ⟨(),_,h,⟨rfl,trivial⟩,rfl⟩
    ·replace h := Bq hc h
     clear hc
     refine Uc rfl rfl rfl rfl (dvg rfl rfl rfl (Nh rfl rfl) (dv rfl (Nh rfl rfl) (Zy (Ac (Ei rfl (fun hx => Bool.noConfusion hx) (fun _ => ?_))))))
     refine Bi (Ac ?_)
     exact ⟨(),_,h,⟨rfl,trivial⟩,rfl⟩
 ·skip
  refine Az (fl Xg ti3 rfl rfl rfl rfl rfl rfl (sv rfl (Om rfl rfl) ?_))
  obtain ⟨v8,hv8,h⟩ := Ag h
  refine Av rfl Aj1 (Ab rfl (Ab rfl Af)) (Ao rfl) (Jh hv8) (sv rfl (B5 rfl) (rm 1 rfl (Bf 12 rfl (fun hc => ?_) (fun hc => ?_))))
  ·replace h := Br hc h
   clear hc
   refine rm 17 rfl (Al (Ei rfl (fun _ => ?_) (fun hx => Bool.noConfusion hx)))
   refine csr (rm 1 rfl (Al (Bg (Ak ?_))))
   cases SJ h
   exact dnT rfl rfl rfl rfl
  ·replace h := Bq hc h
   clear hc
   refine son rfl rfl rfl (sv rfl (Aa Vz rfl) (son rfl rfl rfl (sv rfl (Ae ti3 rfl (.lp _ _ _ rfl) rfl) (son rfl rfl rfl ?_))))
   obtain ⟨v9,hv9,h⟩ := Ag h
   refine Av rfl Aj1 (Ab rfl (Ab rfl Af)) (Ao rfl) (Jh hv9) (son rfl rfl rfl (sv rfl (B5 rfl) (rm 2 rfl (Bf 18 rfl (fun hc => ?_) (fun hc => ?_)))))
   ·replace h := Br hc h
    clear hc
    refine rm 11 rfl (Al (Ei rfl (fun _ => ?_) (fun hx => Bool.noConfusion hx)))
    refine csr (rm 1 rfl (Al (Bg (Ak ?_))))
    cases SJ h
    exact dnT rfl rfl rfl rfl
   ·replace h := Bq hc h
    clear hc
    refine son rfl rfl rfl (sv rfl (Aa Zh rfl) (son rfl rfl rfl (sv rfl (Ae ti3 rfl (.lp _ _ _ rfl) rfl) (son rfl rfl rfl ?_))))
    obtain ⟨v10,hv10,h⟩ := Ag h
    refine Av rfl Aj1 (Ab rfl (Ab rfl Af)) (Ao rfl) (Jh hv10) (son rfl rfl rfl (sv rfl (B5 rfl) (rm 2 rfl (Bf 24 rfl (fun hc => ?_) (fun hc => ?_)))))
    ·replace h := Br hc h
     clear hc
     refine rm 5 rfl (Al (Ei rfl (fun _ => ?_) (fun hx => Bool.noConfusion hx)))
     refine csr (rm 1 rfl (Al (Bg (Ak ?_))))
     cases SJ h
     exact dnT rfl rfl rfl rfl
    ·replace h := Bq hc h
     clear hc
     refine son rfl rfl rfl (sv rfl (Aa Aag rfl) (son rfl rfl rfl (sv rfl (Ae ti3 rfl (.lp _ _ _ rfl) rfl) (son rfl rfl rfl ?_))))
     obtain ⟨v11,hv11,h⟩ := Ag h
     refine Av rfl Aj1 (Ab rfl (Ab rfl Af)) (Ao rfl) (Jh hv11) (son rfl rfl rfl (sv rfl (B5 rfl) (rm 1 rfl (Al (ccI h rfl (fun h => ?_) (fun h => ?_))))))
     ·refine csr (rm 1 rfl (Al (Bg (Ak ?_))))
      cases SJ h
      exact dnT rfl rfl rfl rfl
     ·refine Bi (Ac ?_)
      exact ⟨(),_,h,⟨rfl,rfl,trivial⟩,rfl⟩
def O6 (a0 : Cv) (b1 : Unit) : Option Bool :=
 some (decide ((a0.Ops.length : Int) ≤ 24))
def Fi (a0 : Cv) (s2 : Int) : Option (LR (Int) (Unit) (Bool)) :=
 if (decide (s2 < (a0.Ops.length : Int))) then ((idx a0.Ops s2).bind fun u3 => (Cn u3 a0.RO).bind fun v4 => if (!v4) then (some (.ret false)) else (some (.cont (wI (s2 + 1))))) else (some (.brk ()))
def D9 (a0 : Cv) : Option Bool :=
 (Qx (Fi a0) fuel 0).bind fun x => match x with | .inl r => some r | .inr e5 => O6 a0 e5
theorem Po {a0 : Cv} {r : Bool} (h : D9 a0 = some r) : Bl Tryz.prog 82 [.agg (el a0)] (· = .s (.one (.b r))) := by
 unfold D9 at h
 refine Au Tryz.func82 rfl (nt := 22) rfl (Nbl rfl) ?_
 intro w0 S0
 refine csr (Ih rfl rfl (rm 1 rfl (Al (Bp (csr (fl Si Ald rfl rfl rfl rfl rfl rfl (sv rfl (Aq Aki rfl) (rm 1 rfl (Al (Gg (Unit) (fun b1 => [(1,.s (.one (.lp 0 0)))]) (fun b1 => [.box (el a0)]) (fun b1 => O6 a0 b1 = some r) (fun _ _ => A6 rfl) (fun _ _ => Ar rfl) (fun _ _ => Nbl rfl) (fun b1 h => ?_) ?_))))))))))
 ·unfold O6 at h
  refine csr (fl Si Ald rfl rfl rfl rfl rfl rfl (sv rfl (Aq Aki rfl) (sv rfl (Gm rfl rfl) (rm 1 rfl (Al (Bg ?_))))))
  cases SJ h
  exact dnT rfl rfl rfl rfl
 ·skip
  refine B3 ?_
  obtain ⟨x2,hx2,ho2⟩ := Ag h
  refine Ct (G := Nat × (Int)) (fun g => [(1,.s (.one (.lp 0 0))),(6,.s (.one (.sl a0.Ops.length (a0.Ops.flatMap Ce)))),(7,.s (.one (Ii6 (a0.Ops.length : Int)))),(8,.s (.one (Ii6 g.2)))]) (fun g => [.box (el a0)]) (fun g => Qx (Fi a0) g.1 g.2 = some x2) (fun g => g.1) (fuel,0) hx2 ⟨rfl,rfl,rfl,rfl,trivial⟩ [] rfl (fun _ _ => A6 rfl) (fun _ _ => Ar rfl) (fun _ _ => Nbl rfl) ?_
  clear hx2 h
  rintro ⟨n2,s2⟩ h
  obtain ⟨n2,y2,rfl,h,hk2⟩ := Oa h
  unfold Fi at h
  refine csr (sv rfl (Ci rfl rfl) (Al (Bp (ccI h rfl (fun h => ?_) (fun h => ?_)))))
  ·refine Bi (Ac (Bp (B3 (Bp (Az ?_)))))
   obtain ⟨u3,hu3,h⟩ := Ag h
   refine sv rfl (Db (f := Ce) Aki (fun _ => rfl) rfl rfl rfl rfl hu3) ?_
   refine sv rfl (Cb (ys := [Ii6 u3.What,Ii6 u3.A,Ii6 u3.B,Ii6 u3.N,.sl u3.Key.length (u3.Key.flatMap eU8),.sl u3.Rng.Lo.length (u3.Rng.Lo.flatMap eU8),.sl u3.Rng.Hi.length (u3.Rng.Hi.flatMap eU8),.b u3.Rng.Open]) Ame rfl (.cp _) rfl rfl) (Bw rfl Ar0 (An Au1 rfl rfl rfl rfl (Nbl rfl) (Bs [.box (el a0),.box (el u3)] rfl (Al (csr (sv rfl (Ai Ame rfl (.lp _ _ _ rfl) (Nbl rfl)) (sv rfl (Aa Ajg rfl) (sv rfl (Ae ti4 rfl (.lp _ _ _ rfl) rfl) ?_))))))))
   obtain ⟨v4,hv4,h⟩ := Ag h
   refine Av rfl Awp (Ab rfl (Ab rfl Af)) (Ao rfl) (Vs hv4) (sv rfl (B5 rfl) (Al (ccI h rfl (fun h => ?_) (fun h => ?_))))
   ·refine csr (rm 1 rfl (Al (Bg (A2 (Ak (Ak (A2 (Ak ?_))))))))
    cases SJ h
    obtain rfl : Sum.inl _ = x2 := hk2
    replace ho2 : some _ = some _ := ho2
    obtain rfl := Option.some.inj ho2
    exact dnT rfl rfl rfl rfl
   ·refine Bi (Aw (Ac (Az (sv rfl (B4 rfl rfl) (rm 1 rfl (Al ?_))))))
    cases SJ h
    exact ⟨(n2,(wI (s2 + 1))),_,hk2,⟨rfl,rfl,rfl,rfl,trivial⟩,rfl,Nat.lt_succ_self _⟩
  ·refine Kk (Bd (Bd (B8 (Ac ?_))))
   cases SJ h
   obtain rfl : _ = x2 := hk2
   exact ⟨(),_,ho2,⟨rfl,trivial⟩,rfl⟩
def Dq (a0 : Am) : Option Bool :=
 (B1 a0.Token 0 1099511627776).bind fun v1 => if v1 then ((D9 a0.Prog).bind fun v2 => some v2) else (some false)
theorem Oz {a0 : Am} {r : Bool} (h : Dq a0 = some r) : Bl Tryz.prog 53 [.agg (el a0)] (· = .s (.one (.b r))) := by
 unfold Dq at h
 refine Au Tryz.func53 rfl (nt := 11) rfl (Nbl rfl) ?_
 intro w0 S0
 refine csr (Ih rfl rfl (rm 1 rfl (Al (csr (sv rfl (Aa Sx rfl) (sv rfl (Ae ti3 rfl (.lp _ _ _ rfl) rfl) ?_))))))
 obtain ⟨v1,hv1,h⟩ := Ag h
 refine Av rfl Ah4 (Ab rfl (Ab rfl (Ab rfl Af))) (Ao rfl) (Co hv1) (rm 1 rfl (Bf 6 rfl (fun hc => ?_) (fun hc => ?_)))
 ·replace h := Br hc h
  clear hc
  refine son rfl rfl rfl (sv rfl (Aa Y0 rfl) (son rfl rfl rfl (sv rfl (Ai Ara rfl (.lp _ _ _ rfl) (Nbl rfl)) (son rfl rfl rfl ?_))))
  obtain ⟨v2,hv2,h⟩ := Ag h
  refine Av rfl Avy (Ab rfl Af) (Ao rfl) (Po hv2) (rm 2 rfl (Al (Bg ?_)))
  cases SJ h
  exact dnT rfl rfl rfl rfl
 ·replace h := Bq hc h
  clear hc
  refine rm 5 rfl (Al (Bg ?_))
  cases SJ h
  exact dnT rfl rfl rfl rfl
def Mx (b1 : Unit) : Option Int :=
 some (-1)
def Hw (a0 : List Am) (a1 : Int) (s2 : Int) : Option (LR (Int) (Unit) (Int)) :=
 if (decide (s2 < (a0.length : Int))) then ((idx a0 s2).bind fun u3 => if (decide (u3.Token = a1)) then (some (.ret s2)) else (some (.cont (wI (s2 + 1))))) else (some (.brk ()))
def F0 (a0 : List Am) (a1 : Int) : Option Int :=
 (Qx (Hw a0 a1) fuel 0).bind fun x => match x with | .inl r => some r | .inr e4 => Mx e4
theorem Qb {a0 : List Am} {a1 : Int} {r : Int} (h : F0 a0 a1 = some r) : Bl Tryz.prog 54 [.one (.sl a0.length (a0.flatMap Ap)),.one (Ii6 a1)] (· = .s (.one (Ii6 r))) := by
 unfold F0 at h
 refine Au Tryz.func54 rfl (nt := 20) rfl (Nbl rfl) ?_
 intro w0 S0
 refine csr (rm 1 rfl (Al (Bp (csr (rm 1 rfl (sv rfl (Aq Vl rfl) (rm 1 rfl (Al (Gg (Unit) (fun b1 => []) (fun b1 => []) (fun b1 => Mx b1 = some r) (fun _ _ => A6 rfl) (fun _ _ => Ar rfl) (fun _ _ => Nbl rfl) (fun b1 h => ?_) ?_)))))))))
 ·unfold Mx at h
  refine csr (rm 1 rfl (Al (Bg ?_)))
  cases SJ h
  exact dnT rfl rfl rfl rfl
 ·skip
  refine B3 ?_
  obtain ⟨x2,hx2,ho2⟩ := Ag h
  refine Ct (G := Nat × (Int)) (fun g => [(1,.s (.one (Ii6 a1))),(7,.s (.one (.sl a0.length (a0.flatMap Ap)))),(8,.s (.one (Ii6 (a0.length : Int)))),(9,.s (.one (Ii6 g.2)))]) (fun g => []) (fun g => Qx (Hw a0 a1) g.1 g.2 = some x2) (fun g => g.1) (fuel,0) hx2 ⟨rfl,rfl,rfl,rfl,trivial⟩ [] rfl (fun _ _ => A6 rfl) (fun _ _ => Ar rfl) (fun _ _ => Nbl rfl) ?_
  clear hx2 h
  rintro ⟨n2,s2⟩ h
  obtain ⟨n2,y2,rfl,h,hk2⟩ := Oa h
  unfold Hw at h
  refine csr (sv rfl (Ci rfl rfl) (Al (Bp (ccI h rfl (fun h => ?_) (fun h => ?_)))))
  ·refine Bi (Ac (Bp (B3 (csr (sv rfl (Bc rfl) ?_)))))
   obtain ⟨u3,hu3,h⟩ := Ag h
   refine sv rfl (Db (f := Ap) Vl (fun _ => rfl) rfl rfl rfl rfl hu3) ?_
   refine sv rfl (Cb (ys := [Ii6 u3.Token,.b u3.Prog.RO,.sl u3.Prog.Ops.length (u3.Prog.Ops.flatMap Ce)]) Aqr rfl (.cp _) rfl rfl) (Bw rfl Asb (rm 1 rfl (An Au2 rfl rfl rfl rfl (Nbl rfl) (Bs [.box (el u3)] rfl (Al (csr (fl Sx ti3 rfl rfl rfl rfl rfl rfl (rm 1 rfl (sv rfl (Bn rfl rfl) (Al (ccI h rfl (fun h => ?_) (fun h => ?_))))))))))))
   ·refine csr (rm 2 rfl (Al (Bg (A2 (Ak (Ak (A2 (Ak ?_))))))))
    cases SJ h
    obtain rfl : Sum.inl _ = x2 := hk2
    replace ho2 : some _ = some _ := ho2
    obtain rfl := Option.some.inj ho2
    exact dnT rfl rfl rfl rfl
   ·refine Bi (Aw (Ac (Az (sv rfl (B4 rfl rfl) (rm 1 rfl (Al ?_))))))
    cases SJ h
    exact ⟨(n2,(wI (s2 + 1))),_,hk2,⟨rfl,rfl,rfl,rfl,trivial⟩,rfl,Nat.lt_succ_self _⟩
  ·refine Kk (Bd (Bd (B8 (Ac ?_))))
   cases SJ h
   obtain rfl : _ = x2 := hk2
   exact ⟨(),_,ho2,trivial,rfl⟩
def Kt (a0 : List Am) (b1 : Unit) : Option Bool :=
 some (decide ((a0.length : Int) ≤ 8))
def F8 (a0 : List Am) (s2 : Int) : Option (LR (Int) (Unit) (Bool)) :=
 if (decide (s2 < (a0.length : Int))) then ((idx a0 s2).bind fun u3 => (Dq u3).bind fun v4 => if (!v4) then (some (.ret false)) else ((F0 a0 u3.Token).bind fun v5 => if (!decide (v5 = s2)) then (some (.ret false)) else (some (.cont (wI (s2 + 1)))))) else (some (.brk ()))
def Hv (a0 : List Am) : Option Bool :=
 (Qx (F8 a0) fuel 0).bind fun x => match x with | .inl r => some r | .inr e6 => Kt a0 e6
theorem Ss {a0 : List Am} {r : Bool} (h : Hv a0 = some r) : Bl Tryz.prog 30 [.one (.sl a0.length (a0.flatMap Ap))] (· = .s (.one (.b r))) := by
 unfold Hv at h
 refine Au Tryz.func30 rfl (nt := 27) rfl (Nbl rfl) ?_
 intro w0 S0
 refine csr (rm 1 rfl (Al (Bp (csr (rm 1 rfl (sv rfl (Aq Vl rfl) (rm 1 rfl (Al (Gg (Unit) (fun b1 => [(0,.s (.one (.sl a0.length (a0.flatMap Ap))))]) (fun b1 => []) (fun b1 => Kt a0 b1 = some r) (fun _ _ => A6 rfl) (fun _ _ => Ar rfl) (fun _ _ => Nbl rfl) (fun b1 h => ?_) ?_)))))))))
 ·unfold Kt at h
  refine csr (rm 1 rfl (sv rfl (Aq Vl rfl) (sv rfl (Gm rfl rfl) (rm 1 rfl (Al (Bg ?_))))))
  cases SJ h
  exact dnT rfl rfl rfl rfl
 ·skip
  refine B3 ?_
  obtain ⟨x2,hx2,ho2⟩ := Ag h
  refine Ct (G := Nat × (Int)) (fun g => [(0,.s (.one (.sl a0.length (a0.flatMap Ap)))),(5,.s (.one (.sl a0.length (a0.flatMap Ap)))),(6,.s (.one (Ii6 (a0.length : Int)))),(7,.s (.one (Ii6 g.2)))]) (fun g => []) (fun g => Qx (F8 a0) g.1 g.2 = some x2) (fun g => g.1) (fuel,0) hx2 ⟨rfl,rfl,rfl,rfl,trivial⟩ [] rfl (fun _ _ => A6 rfl) (fun _ _ => Ar rfl) (fun _ _ => Nbl rfl) ?_
  clear hx2 h
  rintro ⟨n2,s2⟩ h
  obtain ⟨n2,y2,rfl,h,hk2⟩ := Oa h
  unfold F8 at h
  refine csr (sv rfl (Ci rfl rfl) (Al (Bp (ccI h rfl (fun h => ?_) (fun h => ?_)))))
  ·refine Bi (Ac (Bp (B3 (csr (sv rfl (Bc rfl) ?_)))))
   obtain ⟨u3,hu3,h⟩ := Ag h
   refine sv rfl (Db (f := Ap) Vl (fun _ => rfl) rfl rfl rfl rfl hu3) ?_
   refine sv rfl (Cb (ys := [Ii6 u3.Token,.b u3.Prog.RO,.sl u3.Prog.Ops.length (u3.Prog.Ops.flatMap Ce)]) Aqr rfl (.cp _) rfl rfl) (Bw rfl Asb (rm 1 rfl (An Au2 rfl rfl rfl rfl (Nbl rfl) (Bs [.box (el u3)] rfl (Al (csr (sv rfl (Ai Aqr rfl (.lp _ _ _ rfl) (Nbl rfl)) ?_)))))))
   obtain ⟨v4,hv4,h⟩ := Ag h
   refine Av rfl Ay4 (Ab rfl Af) (Ao rfl) (Oz hv4) (sv rfl (B5 rfl) (rm 1 rfl (Bf 15 rfl (fun hc => ?_) (fun hc => ?_))))
   ·replace h := Br hc h
    clear hc
    refine rm 7 rfl (Al (Ei rfl (fun _ => ?_) (fun hx => Bool.noConfusion hx)))
    refine csr (rm 1 rfl (Al (Bg (A2 (Ak (Ak (A2 (Ak ?_))))))))
    cases SJ h
    obtain rfl : Sum.inl _ = x2 := hk2
    replace ho2 : some _ = some _ := ho2
    obtain rfl := Option.some.inj ho2
    exact dnT rfl rfl rfl rfl
   ·replace h := Bq hc h
    clear hc
    refine rm 1 rfl (son rfl rfl rfl (sv rfl (Aa Sx rfl) (son rfl rfl rfl (sv rfl (Ae ti3 rfl (.lp _ _ _ rfl) rfl) (son rfl rfl rfl ?_)))))
    obtain ⟨v5,hv5,h⟩ := Ag h
    refine Av rfl Aze (Ab rfl (Ab rfl Af)) (Ao rfl) (Qb hv5) (rm 1 rfl (son rfl rfl rfl (sv rfl (Bt rfl rfl) (rm 1 rfl (Al (ccI h rfl (fun h => ?_) (fun h => ?_)))))))
    ·refine csr (rm 1 rfl (Al (Bg (A2 (Ak (Ak (A2 (Ak ?_))))))))
     cases SJ h
     obtain rfl : Sum.inl _ = x2 := hk2
     replace ho2 : some _ = some _ := ho2
     obtain rfl := Option.some.inj ho2
     exact dnT rfl rfl rfl rfl
    ·refine Bi (Aw (Ac (Az (sv rfl (B4 rfl rfl) (rm 1 rfl (Al ?_))))))
     cases SJ h
     exact ⟨(n2,(wI (s2 + 1))),_,hk2,⟨rfl,rfl,rfl,rfl,trivial⟩,rfl,Nat.lt_succ_self _⟩
  ·refine Kk (Bd (Bd (B8 (Ac ?_))))
   cases SJ h
   obtain rfl : _ = x2 := hk2
   exact ⟨(),_,ho2,⟨rfl,trivial⟩,rfl⟩
def Im (a0 : Ad) : Option Bool :=
 (B1 a0.Phase 3 10).bind fun v1 => if v1 then (if (decide (0 < (a0.Tasks.length : Int))) then (some (decide (0 < a0.Attempt))) else (some false)) else (if (decide ((a0.Tasks.length : Int) = 0)) then (some true) else (if (!decide (a0.Phase = 0)) then (some (!decide (a0.Phase = 11))) else (some false)))
theorem Sy {a0 : Ad} {r : Bool} (h : Im a0 = some r) : Bl Tryz.prog 31 [.agg (el a0)] (· = .s (.one (.b r))) := by
 unfold Im at h
 refine Au Tryz.func31 rfl (nt := 29) rfl (Nbl rfl) ?_
 intro w0 S0
 refine csr (Ih rfl rfl (rm 1 rfl (Al (Bp (csr (sv rfl (Aa G8 rfl) (sv rfl (Ae ti3 rfl (.lp _ _ _ rfl) rfl) ?_)))))))
 obtain ⟨v1,hv1,h⟩ := Ag h
 refine Av rfl Ah4 (Ab rfl (Ab rfl (Ab rfl Af))) (Ao rfl) (Co hv1) (Al (ccI h rfl (fun h => ?_) (fun h => ?_)))
 ·refine csr (fl Lw Zp rfl rfl rfl rfl rfl rfl (sv rfl (Aq Vl rfl) (sv rfl (Dr rfl rfl) (rm 1 rfl (Bf 10 rfl (fun hc => ?_) (fun hc => ?_))))))
  ·replace h := Br hc h
   clear hc
   refine son rfl rfl rfl (sv rfl (Aa Pd rfl) (son rfl rfl rfl (sv rfl (Ae ti3 rfl (.lp _ _ _ rfl) rfl) (son rfl rfl rfl (sv rfl (Dr rfl rfl) (rm 2 rfl (Al (Bg (Ak ?_)))))))))
   cases SJ h
   exact dnT rfl rfl rfl rfl
  ·replace h := Bq hc h
   clear hc
   refine rm 5 rfl (Al (Bg (Ak ?_)))
   cases SJ h
   exact dnT rfl rfl rfl rfl
 ·refine Bi (Ac (csr (fl Lw Zp rfl rfl rfl rfl rfl rfl (sv rfl (Aq Vl rfl) (sv rfl (Bn rfl rfl) (rm 1 rfl (Bf 19 rfl (fun hc => ?_) (fun hc => ?_))))))))
  ·replace h := Br hc h
   clear hc
   refine rm 4 rfl (Lp rfl rfl rfl (Lp rfl rfl rfl (Lp rfl rfl rfl (rm 3 rfl (Al (Bg ?_))))))
   cases SJ h
   exact dnT rfl rfl rfl rfl
  ·replace h := Bq hc h
   clear hc
   refine son rfl rfl rfl (sv rfl (Aa G8 rfl) (son rfl rfl rfl (sv rfl (Ae ti3 rfl (.lp _ _ _ rfl) rfl) (son rfl rfl rfl (sv rfl (Bt rfl rfl) (rm 1 rfl (Bf 23 rfl (fun hc => ?_) (fun hc => ?_))))))))
   ·replace h := Br hc h
    clear hc
    refine son rfl rfl rfl (sv rfl (Aa G8 rfl) (son rfl rfl rfl (sv rfl (Ae ti3 rfl (.lp _ _ _ rfl) rfl) (son rfl rfl rfl (sv rfl (Bt rfl rfl) (rm 3 rfl (Al (Bg ?_))))))))
    cases SJ h
    exact dnT rfl rfl rfl rfl
   ·replace h := Bq hc h
    clear hc
    refine rm 6 rfl (Al (Bg ?_))
    cases SJ h
    exact dnT rfl rfl rfl rfl
def Cs (a0 : Int) : Option Bool :=
 (B1 a0 2 7).bind fun v1 => if v1 then (some true) else (some (decide (a0 = 9)))
theorem Eb {a0 : Int} {r : Bool} (h : Cs a0 = some r) : Bl Tryz.prog 32 [.one (Ii6 a0)] (· = .s (.one (.b r))) := by
 unfold Cs at h
 refine Au Tryz.func32 rfl (nt := 9) rfl (Nbl rfl) ?_
 intro w0 S0
 refine csr (rm 1 rfl (Al (csr (sv rfl (Bc rfl) ?_))))
 obtain ⟨v1,hv1,h⟩ := Ag h
 refine Av rfl Ah4 (Ab rfl (Ab rfl (Ab rfl Af))) (Ao rfl) (Co hv1) (rm 1 rfl (Bf 5 rfl (fun hc => ?_) (fun hc => ?_)))
 ·replace h := Br hc h
  clear hc
  refine rm 4 rfl (Al (Bg ?_))
  cases SJ h
  exact dnT rfl rfl rfl rfl
 ·replace h := Bq hc h
  clear hc
  refine rm 1 rfl (son rfl rfl rfl (sv rfl (Bn rfl rfl) (rm 2 rfl (Al (Bg ?_)))))
  cases SJ h
  exact dnT rfl rfl rfl rfl
def H7 (a0 : Int) : Option Bool :=
 if (decide (a0 = 4)) then (some true) else (some (decide (a0 = 5)))
theorem P6 {a0 : Int} {r : Bool} (h : H7 a0 = some r) : Bl Tryz.prog 65 [.one (Ii6 a0)] (· = .s (.one (.b r))) := by
 unfold H7 at h
 refine Au Tryz.func65 rfl (nt := 9) rfl (Nbl rfl) ?_
 intro w0 S0
 refine csr (rm 1 rfl (Al (csr (rm 1 rfl (sv rfl (Bn rfl rfl) (rm 1 rfl (Bf 5 rfl (fun hc => ?_) (fun hc => ?_))))))))
 ·replace h := Br hc h
  clear hc
  refine rm 4 rfl (Al (Bg ?_))
  cases SJ h
  exact dnT rfl rfl rfl rfl
 ·replace h := Bq hc h
  clear hc
  refine rm 1 rfl (son rfl rfl rfl (sv rfl (Bn rfl rfl) (rm 2 rfl (Al (Bg ?_)))))
  cases SJ h
  exact dnT rfl rfl rfl rfl
def Ki (a0 : List UInt8) : Option (Int × Int × (List UInt8)) :=
 some (0,0,a0)
theorem Qw {a0 : List UInt8} {r : Int × Int × (List UInt8)} (h : Ki a0 = some r) : Hm Tryz.prog 92 [] [.one (.sl a0.length (a0.flatMap eU8))] (fun y m' => y = .s (.one (.lp 0 0)) ∧ m' = [.box [.fn 112 [] [.lp 1 0,.lp 2 0],Ii6 r.1],.box [Ii6 r.2.1],.box [.sl r.2.2.length (r.2.2.flatMap eU8)]]) := by
 unfold Ki at h
 refine C3 Tryz.func92 rfl (nt := 7) rfl (Nbl rfl) ?_
 intro w0 S0 X0 H0
 refine csr (Ih rfl rfl (rm 1 rfl (Al (csr (Bw rfl zi3 (An sz3 rfl rfl rfl rfl (Nbl rfl) (Bs [.box [.sl a0.length (a0.flatMap eU8)],.box [Ii6 0]] rfl (Al (csr (sv rfl (Xi Tw (Uy rfl rfl (Uy rfl rfl Tw))) (sv rfl (Be Awu Avl (Ah rfl Ay) (.cons _ _ _ _ _ _ _ rfl rfl (Nbl rfl) (.nil _))) (Ih rfl rfl (rm 1 rfl (Al (Bg ?_)))))))))))))))
 cases SJ h
 exact ⟨Or.inr rfl,_,[2,1,0],[.one (.lp 0 0)],[.box [.fn 112 [] [.lp 1 0,.lp 2 0],Ii6 0],.box [Ii6 0],.box [.sl a0.length (a0.flatMap eU8)]],(Aj (Cu.tmp _ _ rfl) As),rfl,rfl,⟨by decide,rfl⟩,rfl,rfl,⟨rfl,rfl⟩⟩
def Bo (a0 : Int) (a1 : Int) (a2 : List UInt8) : Option Int :=
 some a0
theorem Ix {a0 : Int} {a1 : Int} {a2 : List UInt8} {r : Int} (h : Bo a0 a1 a2 = some r) : Hm Tryz.prog 108 [.box [.fn 112 [] [.lp 1 0,.lp 2 0],Ii6 a0],.box [Ii6 a1],.box [.sl a2.length (a2.flatMap eU8)]] [.one (.lp 0 0)] (fun y m' => y = .s (.one (Ii6 r)) ∧ m' = [.box [.fn 112 [] [.lp 1 0,.lp 2 0],Ii6 a0],.box [Ii6 a1],.box [.sl a2.length (a2.flatMap eU8)]]) := by
 unfold Bo at h
 refine C3 Tryz.func108 rfl (nt := 9) rfl (Nbl rfl) ?_
 intro w0 S0 X0 H0
 refine csr (rm 1 rfl (Al (Bp (csr (rm 1 rfl (sv rfl (W8 Tryz.underlying176 rfl) (Al (Ei rfl (fun hx => Bool.noConfusion hx) (fun _ => ?_)))))))))
 refine Bi (Ac (csr (sv rfl (Bc rfl) ?_)))
 refine sv rfl (Nm rfl rfl (fun _ _ _ h => by cases h)) ?_
 refine fl Aeq Aah rfl rfl rfl rfl rfl rfl (rm 1 rfl (Al (Bg ?_)))
 cases SJ h
 exact ⟨Or.inr rfl,_,[0,1,2],[.one (Ii6 a0)],[.box [.fn 112 [] [.lp 1 0,.lp 2 0],Ii6 a0],.box [Ii6 a1],.box [.sl a2.length (a2.flatMap eU8)]],(Aj (Cu.tmp _ _ rfl) As),rfl,rfl,⟨by decide,rfl⟩,rfl,rfl,⟨rfl,rfl⟩⟩
def B0 (a0 : Int) (a1 : Int) (a2 : Int) (a3 : List UInt8) : Option Int :=
 if (decide (a1 = 0)) then (some a0) else (some a1)
theorem D6 {a0 : Int} {a1 : Int} {a2 : Int} {a3 : List UInt8} {r : Int} (h : B0 a0 a1 a2 a3 = some r) : Hm Tryz.prog 94 [.box [.fn 112 [] [.lp 1 0,.lp 2 0],Ii6 a1],.box [Ii6 a2],.box [.sl a3.length (a3.flatMap eU8)]] [.one (.lp 0 0),.one (Ii6 a0)] (fun y m' => y = .tup [] ∧ m' = [.box [.fn 112 [] [.lp 1 0,.lp 2 0],Ii6 r],.box [Ii6 a2],.box [.sl a3.length (a3.flatMap eU8)]]) := by
 unfold B0 at h
 refine C3 Tryz.func94 rfl (nt := 17) rfl (Nbl rfl) ?_
 intro w0 S0 X0 H0
 refine csr (rm 1 rfl (sv rfl (Aca Tryz.underlying176 rfl) (rm 2 rfl (son rfl rfl rfl ?_))))
 refine sv rfl (Nm rfl rfl (fun _ _ _ h => by cases h)) ?_
 refine son rfl rfl rfl (sv rfl (Aa Aeq rfl) (son rfl rfl rfl (sv rfl (Ae Aah rfl (.lp _ _ _ rfl) rfl) (son rfl rfl rfl (sv rfl (Bn rfl rfl) (rm 1 rfl (Al (ccI h rfl (fun h => ?_) (fun h => ?_)))))))))
 ·refine Az (rm 1 rfl (sv rfl (Bc rfl) ?_))
  refine sv rfl (Nm rfl rfl (fun _ _ _ h => by cases h)) ?_
  refine sv rfl (Aa Aeq rfl) (An Ayw rfl rfl rfl rfl (Nbl rfl) (Bs [.box [.fn 112 [] [.lp 1 0,.lp 2 0],Ii6 a0],.box [Ii6 a2],.box [.sl a3.length (a3.flatMap eU8)]] rfl (Mp ?_)))
  cases SJ h
  exact ⟨Or.inl rfl,_,[0,1,2],[],[.box [.fn 112 [] [.lp 1 0,.lp 2 0],Ii6 a0],.box [Ii6 a2],.box [.sl a3.length (a3.flatMap eU8)]],As,rfl,rfl,⟨by decide,rfl⟩,rfl,rfl,⟨rfl,rfl⟩⟩
 ·refine Bi ?_
  cases SJ h
  exact ⟨Or.inl rfl,_,[0,1,2],[],[.box [.fn 112 [] [.lp 1 0,.lp 2 0],Ii6 a1],.box [Ii6 a2],.box [.sl a3.length (a3.flatMap eU8)]],As,rfl,rfl,⟨by decide,rfl⟩,rfl,rfl,⟨rfl,rfl⟩⟩
def F9 (a0 : Int) (a1 : Int) (a2 : List UInt8) : Option (Int × (List UInt8) × Int) :=
 (cut a2 (wI (a1 + a0)) (a2.length : Int)).bind fun c1 => some ((wI (a1 + a0)),c1,(wI (a1 + a0)))
theorem Rh {a0 : Int} {a1 : Int} {a2 : List UInt8} {r : Int × (List UInt8) × Int} (h : F9 a0 a1 a2 = some r) : Hm Tryz.prog 112 [.box [Ii6 a1],.box [.sl a2.length (a2.flatMap eU8)]] [.one (Ii6 a0),.one (.lp 0 0),.one (.lp 1 0)] (fun y m' => y = .tup [.one (Ii6 r.1),.one (.sl r.2.1.length (r.2.1.flatMap eU8))] ∧ m' = [.box [Ii6 r.2.2],.box [.sl a2.length (a2.flatMap eU8)]]) := by
 unfold F9 at h
 refine C3 Tryz.func112 rfl (nt := 13) rfl (Nbl rfl) ?_
 intro w0 S0 X0 H0
 refine csr (rm 2 rfl (Al (csr (sv rfl (Ae ti3 rfl (.lp _ _ _ rfl) rfl) (rm 1 rfl (sv rfl (B4 rfl rfl) (An sz3 rfl rfl rfl rfl (Nbl rfl) (Bs [.box [Ii6 (wI (a1 + a0))],.box [.sl a2.length (a2.flatMap eU8)]] rfl (Al (Bp ?_))))))))))
 refine Yf Kd (by kernel_rfl) ?_
 refine dv rfl (Ae ti3 rfl (.lp _ _ _ rfl) rfl) (dv rfl (Ae I9 rfl (.lp _ _ _ rfl) rfl) (dv rfl (Ae ti3 rfl (.lp _ _ _ rfl) rfl) ?_))
 obtain ⟨c1,hc1,h⟩ := Ag h
 refine dv rfl (Ut (f := eU8) (lo := (wI (a1 + a0))) (hi := (a2.length : Int)) Mi (fun _ => rfl) rfl rfl rfl (H8 rfl (L9 hc1).1.1) (by exact rfl) hc1) ?_
 refine dv rfl (K5 rfl) (dv rfl (K5 rfl) (Zy (Ac (Bg ?_))))
 cases SJ h
 exact ⟨Or.inr rfl,_,[0,1],[.one (Ii6 (wI (a1 + a0))),.one (.sl c1.length (c1.flatMap eU8))],[.box [Ii6 (wI (a1 + a0))],.box [.sl a2.length (a2.flatMap eU8)]],(Aj (Cu.tmp _ _ rfl) (Aj (Cu.tmp _ _ rfl) As)),rfl,rfl,⟨by decide,rfl⟩,rfl,rfl,⟨rfl,rfl⟩⟩
def Fa (a1 : Int) (a2 : List UInt8) (b1 : Unit) : Option (Int × (List UInt8) × Int) :=
 (F9 0 a1 a2).bind fun v2 => some (v2.1,v2.2.1,v2.2.2)
def D7 (a0 : Int) (a1 : Int) (a2 : List UInt8) : Option (Int × (List UInt8) × Int) :=
 Fa a1 a2 ()
theorem Nn {a0 : Int} {a1 : Int} {a2 : List UInt8} {r : Int × (List UInt8) × Int} (h : D7 a0 a1 a2 = some r) : Hm Tryz.prog 114 [.box [.fn 112 [] [.lp 1 0,.lp 2 0],Ii6 a0],.box [Ii6 a1],.box [.sl a2.length (a2.flatMap eU8)]] [.one (.lp 0 0)] (fun y m' => y = .tup [.one (Ii6 r.1),.one (.sl r.2.1.length (r.2.1.flatMap eU8))] ∧ m' = [.box [.fn 112 [] [.lp 1 0,.lp 2 0],Ii6 a0],.box [Ii6 r.2.2],.box [.sl a2.length (a2.flatMap eU8)]]) := by
 unfold D7 at h
 refine C3 Tryz.func114 rfl (nt := 20) rfl (Nbl rfl) ?_
 intro w0 S0 X0 H0
 refine csr (rm 2 rfl (Al (Bp (Bp (Jk (Unit) (fun b1 => [(0,.s (.one (.lp 0 0)))]) (fun b1 => [.box [.fn 112 [] [.lp 1 0,.lp 2 0],Ii6 a0],.box [Ii6 a1],.box [.sl a2.length (a2.flatMap eU8)]]) (fun b1 => Fa a1 a2 b1 = some r) (fun _ _ => A6 rfl) (fun _ _ => Ar rfl) (fun _ _ => Nbl rfl) (fun b1 h => ?_) ?_)))))
 ·unfold Fa at h
  refine csr (sv rfl (Bc rfl) ?_)
  refine sv rfl (Nm rfl rfl (fun _ _ _ h => by cases h)) ?_
  refine sv rfl (Aa Aee rfl) (sv rfl (Ae Aq8 rfl (.lp _ _ _ rfl) rfl) ?_)
  obtain ⟨v2,hv2,h⟩ := Ag h
  refine Da (x' := .tup [.one (Ii6 v2.1),.one (.sl v2.2.1.length (v2.2.1.flatMap eU8))]) (M' := [.box [.fn 112 [] [.lp 1 0,.lp 2 0],Ii6 a0],.box [Ii6 v2.2.2],.box [.sl a2.length (a2.flatMap eU8)]]) [1,2] rfl Ath (.fn _ _ _ _ rfl) (Ab rfl Af) (Rh hv2) rfl rfl (by decide) rfl rfl rfl ?_
  refine sv rfl (A4 rfl rfl) (sv rfl (A4 rfl rfl) (rm 2 rfl (Al (Bg ?_))))
  cases SJ h
  exact ⟨Or.inr rfl,_,[0,1,2],[.one (Ii6 v2.1),.one (.sl v2.2.1.length (v2.2.1.flatMap eU8))],[.box [.fn 112 [] [.lp 1 0,.lp 2 0],Ii6 a0],.box [Ii6 v2.2.2],.box [.sl a2.length (a2.flatMap eU8)]],(Aj (Cu.tmp _ _ rfl) (Aj (Cu.tmp _ _ rfl) As)),rfl,rfl,⟨by decide,rfl⟩,rfl,rfl,⟨rfl,rfl⟩⟩
 ·skip
  refine Az (rm 1 rfl (sv rfl (W8 Tryz.underlying176 rfl) (rm 2 rfl (son rfl rfl rfl ?_))))
  refine sv rfl (Nm rfl rfl (fun _ _ _ h => by cases h)) ?_
  refine son rfl rfl rfl (sv rfl (Aa Aee rfl) (son rfl rfl rfl (sv rfl (Ae Aq8 rfl (.lp _ _ _ rfl) rfl) (son rfl rfl rfl (sv rfl (Adt Tryz.underlying191 rfl rfl) (rm 1 rfl (Al (Ei rfl (fun hx => Bool.noConfusion hx) (fun _ => ?_)))))))))
  refine Bi (Ac ?_)
  exact ⟨(),_,h,⟨rfl,trivial⟩,rfl⟩
def Dj (a0 : Int) (a1 : Int) (v1 : Int × (List UInt8) × Int) (b3 : Int) : Option ((List UInt8) × Int × Int) :=
 (cut v1.2.1 0 a0).bind fun c4 => some (c4,a1,b3)
def Cr (a0 : Int) (a1 : Int) (a2 : Int) (a3 : List UInt8) : Option ((List UInt8) × Int × Int) :=
 (D7 a1 a2 a3).bind fun v1 => if (decide ((v1.2.1.length : Int) < a0)) then ((B0 2 a1 v1.2.2 a3).bind fun v2 => some (([] : List UInt8),v2,v1.2.2)) else (if (decide (0 < a0)) then ((F9 a0 v1.2.2 a3).bind fun v5 => Dj a0 a1 v1 v5.2.2) else (Dj a0 a1 v1 v1.2.2))
theorem N4 {a0 : Int} {a1 : Int} {a2 : Int} {a3 : List UInt8} {r : (List UInt8) × Int × Int} (h : Cr a0 a1 a2 a3 = some r) : Hm Tryz.prog 113 [.box [.fn 112 [] [.lp 1 0,.lp 2 0],Ii6 a1],.box [Ii6 a2],.box [.sl a3.length (a3.flatMap eU8)]] [.one (.lp 0 0),.one (Ii6 a0)] (fun y m' => y = .s (.one (.sl r.1.length (r.1.flatMap eU8))) ∧ m' = [.box [.fn 112 [] [.lp 1 0,.lp 2 0],Ii6 r.2.1],.box [Ii6 r.2.2],.box [.sl a3.length (a3.flatMap eU8)]]) := by
 unfold Cr at h
 refine C3 Tryz.func113 rfl (nt := 29) rfl (Nbl rfl) ?_
 intro w0 S0 X0 H0
 refine csr (rm 1 rfl (Al (csr (sv rfl (Bc rfl) ?_))))
 obtain ⟨v1,hv1,h⟩ := Ag h
 refine Da (x' := .tup [.one (Ii6 v1.1),.one (.sl v1.2.1.length (v1.2.1.flatMap eU8))]) (M' := [.box [.fn 112 [] [.lp 1 0,.lp 2 0],Ii6 a1],.box [Ii6 v1.2.2],.box [.sl a3.length (a3.flatMap eU8)]]) [0,1,2] rfl Asv (.func _) (Ab rfl Af) (Nn hv1) rfl rfl (by decide) rfl rfl rfl ?_
 refine sv rfl (Gc rfl) (sv rfl (A4 rfl rfl) (sv rfl (A4 rfl rfl) (rm 2 rfl (Al (Bp (csr (rm 1 rfl (sv rfl (Aq Mi rfl) (rm 1 rfl (sv rfl (Ci rfl rfl) (Al (ccI h rfl (fun h => ?_) (fun h => ?_)))))))))))))
 ·refine csr (sv rfl (Bc rfl) ?_)
  obtain ⟨v2,hv2,h⟩ := Ag h
  refine Da (x' := .tup []) (M' := [.box [.fn 112 [] [.lp 1 0,.lp 2 0],Ii6 v2],.box [Ii6 v1.2.2],.box [.sl a3.length (a3.flatMap eU8)]]) [0,1,2] rfl Aqa (.func _) (Ab rfl (Ab rfl Af)) (D6 hv2) rfl rfl (by decide) rfl rfl rfl ?_
  refine Al (csr (rm 1 rfl (Al ?_)))
  refine Ar9 4 rfl (by (repeat' first | exact Kf.nil _ | apply Kf.cons | apply Ke.one | apply Ke.agg | exact Em.nil | exact Em.id _ rfl | exact Dv.nil _ | apply Dv.cons)) ?_
  refine Bg (Ak ?_)
  cases SJ h
  exact ⟨Or.inr rfl,_,[0,1,2],[.one (.sl ([] : List UInt8).length (([] : List UInt8).flatMap eU8))],[.box [.fn 112 [] [.lp 1 0,.lp 2 0],Ii6 v2],.box [Ii6 v1.2.2],.box [.sl a3.length (a3.flatMap eU8)]],(Aj (Cu.tmp _ _ rfl) As),rfl,rfl,⟨by decide,rfl⟩,rfl,rfl,⟨rfl,rfl⟩⟩
 ·refine Bi (Ac (Bp (csr (rm 1 rfl (sv rfl (Dr rfl rfl) (Al (Gg (Int) (fun b3 => [(1,.s (.one (Ii6 a0))),(6,.s (.one (.sl v1.2.1.length (v1.2.1.flatMap eU8))))]) (fun b3 => [.box [.fn 112 [] [.lp 1 0,.lp 2 0],Ii6 a1],.box [Ii6 b3],.box [.sl a3.length (a3.flatMap eU8)]]) (fun b3 => Dj a0 a1 v1 b3 = some r) (fun _ _ => A6 rfl) (fun _ _ => Ar rfl) (fun _ _ => Nbl rfl) (fun b3 h => ?_) ?_)))))))
  ·unfold Dj at h
   refine csr (rm 1 rfl (sv rfl (Bc rfl) ?_))
   obtain ⟨c4,hc4,h⟩ := Ag h
   refine sv rfl (Ut (f := eU8) (lo := 0) (hi := a0) Mi (fun _ => rfl) rfl rfl rfl T1 (H8 rfl (Int.le_trans (L9 hc4).1.1 (L9 hc4).1.2.1)) hc4) ?_
   refine rm 1 rfl (Al (Bg ?_))
   cases SJ h
   exact ⟨Or.inr rfl,_,[0,1,2],[.one (.sl c4.length (c4.flatMap eU8))],[.box [.fn 112 [] [.lp 1 0,.lp 2 0],Ii6 a1],.box [Ii6 b3],.box [.sl a3.length (a3.flatMap eU8)]],(Aj (Cu.tmp _ _ rfl) As),rfl,rfl,⟨by decide,rfl⟩,rfl,rfl,⟨rfl,rfl⟩⟩
  ·skip
   refine ccI h rfl (fun h => ?_) (fun h => ?_)
   ·refine Az (sv rfl (Bc rfl) ?_)
    refine sv rfl (Nm rfl rfl (fun _ _ _ h => by cases h)) ?_
    refine fl Aee Aq8 rfl rfl rfl rfl rfl rfl (sv rfl (Bc rfl) ?_)
    obtain ⟨v5,hv5,h⟩ := Ag h
    refine Da (x' := .tup [.one (Ii6 v5.1),.one (.sl v5.2.1.length (v5.2.1.flatMap eU8))]) (M' := [.box [.fn 112 [] [.lp 1 0,.lp 2 0],Ii6 a1],.box [Ii6 v5.2.2],.box [.sl a3.length (a3.flatMap eU8)]]) [1,2] rfl Ath (.fn _ _ _ _ rfl) (Ab rfl Af) (Rh hv5) rfl rfl (by decide) rfl rfl rfl ?_
    refine Al ?_
    exact ⟨v5.2.2,_,h,⟨rfl,rfl,trivial⟩,rfl⟩
   ·refine Bi (Ac ?_)
    exact ⟨v1.2.2,_,h,⟨rfl,rfl,trivial⟩,rfl⟩
def Mz (v3 : (List UInt8) × Int × Int) (b4 : (BitVec 64)) : Option ((BitVec 64) × Int × Int) :=
 some (b4,v3.2.1,v3.2.2)
def Ex (v3 : (List UInt8) × Int × Int) (s5 : (BitVec 64) × Int) : Option (LB ((BitVec 64) × Int) ((BitVec 64))) :=
 if (decide (s5.2 < (v3.1.length : Int))) then ((idx v3.1 s5.2).bind fun u6 => if 0 ≤ (wI (8 * s5.2)) then (some (.cont ((s5.1 ||| ((u6.toBitVec.setWidth 64) <<< (wI (8 * s5.2)).toNat)),(wI (s5.2 + 1))))) else none) else (some (.brk s5.1))
def D4 (a0 : Int) (a1 : Int) (a2 : Int) (a3 : List UInt8) (b2 : Unit) : Option ((BitVec 64) × Int × Int) :=
 (Cr a0 a1 a2 a3).bind fun v3 => (Ec (Ex v3) fuel (0#64,0)).bind fun e8 => Mz v3 e8
def Ax (a0 : Int) (a1 : Int) (a2 : Int) (a3 : List UInt8) : Option ((BitVec 64) × Int × Int) :=
 (Bo a1 a2 a3).bind fun v1 => if (!decide (v1 = 0)) then (some (0#64,a1,a2)) else (if (decide (a0 < 1)) then ((B0 1 a1 a2 a3).bind fun v9 => some (0#64,v9,a2)) else (if (decide (8 < a0)) then ((B0 1 a1 a2 a3).bind fun v10 => some (0#64,v10,a2)) else (D4 a0 a1 a2 a3 ())))
theorem C5 {a0 : Int} {a1 : Int} {a2 : Int} {a3 : List UInt8} {r : (BitVec 64) × Int × Int} (h : Ax a0 a1 a2 a3 = some r) : Hm Tryz.prog 93 [.box [.fn 112 [] [.lp 1 0,.lp 2 0],Ii6 a1],.box [Ii6 a2],.box [.sl a3.length (a3.flatMap eU8)]] [.one (.lp 0 0),.one (Ii6 a0)] (fun y m' => y = .s (.one (.i .u64 (r.1.toNat : Int))) ∧ m' = [.box [.fn 112 [] [.lp 1 0,.lp 2 0],Ii6 r.2.1],.box [Ii6 r.2.2],.box [.sl a3.length (a3.flatMap eU8)]]) := by
 unfold Ax at h
 refine C3 Tryz.func93 rfl (nt := 37) rfl (Nbl rfl) ?_
 intro w0 S0 X0 H0
 refine csr (rm 1 rfl (Al (Bp (csr (sv rfl (Bc rfl) ?_)))))
 obtain ⟨v1,hv1,h⟩ := Ag h
 refine Da (x' := .s (.one (Ii6 v1))) (M' := [.box [.fn 112 [] [.lp 1 0,.lp 2 0],Ii6 a1],.box [Ii6 a2],.box [.sl a3.length (a3.flatMap eU8)]]) [0,1,2] rfl Amg (.func _) (Ab rfl Af) (Ix hv1) rfl rfl (by decide) rfl rfl rfl ?_
 refine sv rfl (Bt rfl rfl) (Al (ccI h rfl (fun h => ?_) (fun h => ?_)))
 ·refine csr (rm 1 rfl (Al (Bg (Ak ?_))))
  cases SJ h
  exact ⟨Or.inr rfl,_,[0,1,2],[.one (.i .u64 ((0#64).toNat : Int))],[.box [.fn 112 [] [.lp 1 0,.lp 2 0],Ii6 a1],.box [Ii6 a2],.box [.sl a3.length (a3.flatMap eU8)]],(Aj (Cu.tmp _ _ rfl) As),rfl,rfl,⟨by decide,rfl⟩,rfl,rfl,⟨rfl,rfl⟩⟩
 ·refine Bi (Ac (Bp (Bp (Jk (Unit) (fun b2 => [(0,.s (.one (.lp 0 0))),(1,.s (.one (Ii6 a0)))]) (fun b2 => [.box [.fn 112 [] [.lp 1 0,.lp 2 0],Ii6 a1],.box [Ii6 a2],.box [.sl a3.length (a3.flatMap eU8)]]) (fun b2 => D4 a0 a1 a2 a3 b2 = some r) (fun _ _ => A6 rfl) (fun _ _ => Ar rfl) (fun _ _ => Nbl rfl) (fun b2 h => ?_) ?_))))
  ·unfold D4 at h
   refine csr (rm 1 rfl (Al (Bp (csr (rm 1 rfl (sv rfl (Bc rfl) ?_))))))
   obtain ⟨v3,hv3,h⟩ := Ag h
   refine Da (x' := .s (.one (.sl v3.1.length (v3.1.flatMap eU8)))) (M' := [.box [.fn 112 [] [.lp 1 0,.lp 2 0],Ii6 v3.2.1],.box [Ii6 v3.2.2],.box [.sl a3.length (a3.flatMap eU8)]]) [0,1,2] rfl Atn (.func _) (Ab rfl (Ab rfl Af)) (N4 hv3) rfl rfl (by decide) rfl rfl rfl ?_
   refine sv rfl (Aq Mi rfl) (rm 1 rfl (Al (Gg ((BitVec 64)) (fun b4 => [(5,.s (.one (.i .u64 (b4.toNat : Int))))]) (fun b4 => [.box [.fn 112 [] [.lp 1 0,.lp 2 0],Ii6 v3.2.1],.box [Ii6 v3.2.2],.box [.sl a3.length (a3.flatMap eU8)]]) (fun b4 => Mz v3 b4 = some r) (fun _ _ => A6 rfl) (fun _ _ => Ar rfl) (fun _ _ => Nbl rfl) (fun b4 h => ?_) ?_)))
   ·unfold Mz at h
    refine csr (rm 2 rfl (Al (Bg ?_)))
    cases SJ h
    exact ⟨Or.inr rfl,_,[0,1,2],[.one (.i .u64 (b4.toNat : Int))],[.box [.fn 112 [] [.lp 1 0,.lp 2 0],Ii6 v3.2.1],.box [Ii6 v3.2.2],.box [.sl a3.length (a3.flatMap eU8)]],(Aj (Cu.tmp _ _ rfl) As),rfl,rfl,⟨by decide,rfl⟩,rfl,rfl,⟨rfl,rfl⟩⟩
   ·skip
    refine B3 ?_
    obtain ⟨x5,hx5,ho5⟩ := Ag h
    refine Ct (G := Nat × ((BitVec 64) × Int)) (fun g => [(5,.s (.one (.i .u64 (g.2.1.toNat : Int)))),(21,.s (.one (.sl v3.1.length (v3.1.flatMap eU8)))),(22,.s (.one (Ii6 (v3.1.length : Int)))),(23,.s (.one (Ii6 g.2.2)))]) (fun g => [.box [.fn 112 [] [.lp 1 0,.lp 2 0],Ii6 v3.2.1],.box [Ii6 v3.2.2],.box [.sl a3.length (a3.flatMap eU8)]]) (fun g => Ec (Ex v3) g.1 g.2 = some x5) (fun g => g.1) (fuel,(0#64,0)) hx5 ⟨rfl,rfl,rfl,rfl,trivial⟩ [] rfl (fun _ _ => A6 rfl) (fun _ _ => Ar rfl) (fun _ _ => Nbl rfl) ?_
    clear hx5 h
    rintro ⟨n5,s5⟩ h
    obtain ⟨n5,y5,rfl,h,hk5⟩ := Fj h
    unfold Ex at h
    refine csr (sv rfl (Ci rfl rfl) (Al (Bp (ccI h rfl (fun h => ?_) (fun h => ?_)))))
    ·refine Bi (Ac (Bp (B3 (csr (sv rfl (Bc rfl) ?_)))))
     obtain ⟨u6,hu6,h⟩ := Ag h
     refine sv rfl (Db (f := eU8) Mi (fun _ => rfl) rfl rfl rfl rfl hu6) ?_
     refine sv rfl (Ae ti5 rfl (.cp _) rfl) (rm 2 rfl (Al (Az (rm 2 rfl (sv rfl (Pz (k := .u8) (a := u6.toBitVec) rfl Tryz.underlying5 Tryz.underlying112 rfl rfl) (rm 1 rfl (sv rfl (Abf rfl rfl) ?_)))))))
     obtain ⟨hz7,h⟩ := Dx h
     refine sv rfl (Ae7 (a := (u6.toBitVec.setWidth 64)) rfl rfl rfl hz7) (sv rfl (Ag7 (a := s5.1) (b := ((u6.toBitVec.setWidth 64) <<< (wI (8 * s5.2)).toNat)) rfl rfl rfl rfl) (rm 1 rfl (Mp (Aw (Ac (Az (sv rfl (B4 rfl rfl) (rm 1 rfl (Al ?_)))))))))
     cases SJ h
     exact ⟨(n5,((s5.1 ||| ((u6.toBitVec.setWidth 64) <<< (wI (8 * s5.2)).toNat)),(wI (s5.2 + 1)))),_,hk5,⟨rfl,rfl,rfl,rfl,trivial⟩,rfl,Nat.lt_succ_self _⟩
    ·refine Kk (Bd (Bd (B8 (Ac ?_))))
     cases SJ h
     obtain rfl : _ = x5 := hk5
     exact ⟨s5.1,_,ho5,⟨rfl,trivial⟩,rfl⟩
  ·skip
   refine Az (rm 1 rfl (sv rfl (Ci rfl rfl) (rm 1 rfl (Bf 13 rfl (fun hc => ?_) (fun hc => ?_)))))
   ·replace h := Br hc h
    clear hc
    refine rm 3 rfl (Al (Ei rfl (fun _ => ?_) (fun hx => Bool.noConfusion hx)))
    refine csr (sv rfl (Bc rfl) ?_)
    obtain ⟨v9,hv9,h⟩ := Ag h
    refine Da (x' := .tup []) (M' := [.box [.fn 112 [] [.lp 1 0,.lp 2 0],Ii6 v9],.box [Ii6 a2],.box [.sl a3.length (a3.flatMap eU8)]]) [0,1,2] rfl Aqa (.func _) (Ab rfl (Ab rfl Af)) (D6 hv9) rfl rfl (by decide) rfl rfl rfl ?_
    refine Al (csr (rm 1 rfl (Al (Bg (Ak ?_)))))
    cases SJ h
    exact ⟨Or.inr rfl,_,[0,1,2],[.one (.i .u64 ((0#64).toNat : Int))],[.box [.fn 112 [] [.lp 1 0,.lp 2 0],Ii6 v9],.box [Ii6 a2],.box [.sl a3.length (a3.flatMap eU8)]],(Aj (Cu.tmp _ _ rfl) As),rfl,rfl,⟨by decide,rfl⟩,rfl,rfl,⟨rfl,rfl⟩⟩
   ·replace h := Bq hc h
    clear hc
    refine rm 1 rfl (son rfl rfl rfl (sv rfl (Dr rfl rfl) (rm 1 rfl (Al (ccI h rfl (fun h => ?_) (fun h => ?_))))))
    ·refine csr (sv rfl (Bc rfl) ?_)
     obtain ⟨v10,hv10,h⟩ := Ag h
     refine Da (x' := .tup []) (M' := [.box [.fn 112 [] [.lp 1 0,.lp 2 0],Ii6 v10],.box [Ii6 a2],.box [.sl a3.length (a3.flatMap eU8)]]) [0,1,2] rfl Aqa (.func _) (Ab rfl (Ab rfl Af)) (D6 hv10) rfl rfl (by decide) rfl rfl rfl ?_
     refine Al (csr (rm 1 rfl (Al (Bg (Ak ?_)))))
     cases SJ h
     exact ⟨Or.inr rfl,_,[0,1,2],[.one (.i .u64 ((0#64).toNat : Int))],[.box [.fn 112 [] [.lp 1 0,.lp 2 0],Ii6 v10],.box [Ii6 a2],.box [.sl a3.length (a3.flatMap eU8)]],(Aj (Cu.tmp _ _ rfl) As),rfl,rfl,⟨by decide,rfl⟩,rfl,rfl,⟨rfl,rfl⟩⟩
    ·refine Bi (Ac ?_)
     exact ⟨(),_,h,⟨rfl,rfl,trivial⟩,rfl⟩
def Kr (a0 : Int) (b1 : Unit) : Option (List UInt8) :=
 if (decide (0 < (wI (a0 - (wI (0 - 0)))))) then (if 0 < (wI (a0 - (wI (0 - 0)))) ∧ (wI (a0 - (wI (0 - 0)))) * ((1 : Nat) : Int) ≤ 281474976710656 then (if (0 : Int) ≤ 0 ∧ 0 ≤ ((List.replicate (wI (a0 - (wI (0 - 0)))).toNat (0 : UInt8)).length : Int) then (some ((List.replicate (wI (a0 - (wI (0 - 0)))).toNat (0 : UInt8)).take (0 : Int).toNat)) else none) else none) else (some ([] : List UInt8))
def K0 (a0 : Int) : Option (List UInt8) :=
 if (decide (a0 < 0)) then none else (Kr a0 ())
theorem Vo {a0 : Int} {r : (List UInt8)} (h : K0 a0 = some r) : Hm Tryz.prog 75 [] [.one (Znl),.one (Ii6 a0)] (fun y m' => y = .s (.one (.ls 0 r.length)) ∧ m' = [.arr 5 1 0 (r.flatMap eU8)]) := by
 unfold K0 at h
 refine C3 Tryz.func75 rfl (nt := 27) rfl (Nbl rfl) ?_
 intro w0 S0 X0 H0
 refine csr (rm 1 rfl (Al (Bp (csr (rm 1 rfl (sv rfl (Ci rfl rfl) (Al (Gg (Unit) (fun b1 => [(0,.s (.one (Znl))),(1,.s (.one (Ii6 a0)))]) (fun b1 => []) (fun b1 => Kr a0 b1 = some r) (fun _ _ => A6 rfl) (fun _ _ => Ar rfl) (fun _ _ => Nbl rfl) (fun b1 h => ?_) ?_))))))))
 ·unfold Kr at h
  refine Bp (csr (rm 2 rfl (sv rfl (L8 Mi rfl) (rm 1 rfl (sv rfl (Lq Mi rfl) (sv rfl (Om rfl rfl) (sv rfl (Om rfl rfl) (rm 1 rfl (Al (csr (rm 1 rfl (sv rfl (Dr rfl rfl) (Al (ccI h rfl (fun h => ?_) (fun h => ?_)))))))))))))))
  ·refine Az (rm 2 rfl (sv rfl (L8 Mi rfl) (sv rfl (Pg Mi rfl rfl) (sv rfl (Bc rfl) ?_))))
   obtain ⟨hm2,h⟩ := Dx h
   refine Arb (f := eU8) (z := (0 : UInt8)) rfl Tryz.underlying33 ei5 Tryz.underlying3 (fun _ => rfl) rfl rfl rfl hm2 (by decide) ?_
   refine rm 1 rfl (sv rfl (Lq Mi rfl) ?_)
   obtain ⟨hs3,h⟩ := Dx h
   refine Agy (f := eU8) rfl Mi (fun _ => rfl) rfl rfl rfl rfl rfl hs3 ?_
   refine rm 1 rfl (Al (csr (rm 2 rfl (Al (Bg ?_)))))
   cases SJ h
   exact ⟨Or.inr rfl,_,[1],[.one (.ls 0 ((List.replicate (wI (a0 - (wI (0 - 0)))).toNat (0 : UInt8)).take (0 : Int).toNat).length)],[.arr 5 1 0 (((List.replicate (wI (a0 - (wI (0 - 0)))).toNat (0 : UInt8)).take (0 : Int).toNat).flatMap eU8)],(Aj (Cu.tmp _ _ rfl) As),rfl,rfl,⟨by decide,rfl⟩,rfl,rfl,⟨rfl,rfl⟩⟩
  ·refine Bi (Ac (csr (rm 2 rfl (Al ?_))))
   refine Qq 5 1 4 (by decide) rfl ?_
   refine Bg ?_
   cases SJ h
   exact ⟨Or.inr rfl,_,[0],[.one (.ls 0 ([] : List UInt8).length)],[.arr 5 1 0 (([] : List UInt8).flatMap eU8)],(Aj (Cu.tmp _ _ rfl) As),rfl,rfl,⟨by decide,rfl⟩,rfl,rfl,⟨rfl,rfl⟩⟩
 ·skip
  refine ccI h rfl (fun h => ?_) (fun h => ?_)
  ·cases h
  ·refine Bi (Ac ?_)
   exact ⟨(),_,h,⟨rfl,rfl,trivial⟩,rfl⟩
def Lx (b3 : (List UInt8)) : Option (List UInt8) :=
 some b3
def F1 (a0 : List (List UInt8)) (s4 : Int × (List UInt8)) : Option (LB (Int × (List UInt8)) ((List UInt8))) :=
 if (decide (s4.1 < (a0.length : Int))) then ((idx a0 s4.1).bind fun u5 => if (s4.2.length + u5.length) * 1 ≤ 140737488355328 then (some (.cont ((wI (s4.1 + 1)),(s4.2 ++ u5)))) else none) else (some (.brk s4.2))
def Ja (a0 : List (List UInt8)) (b1 : Int) : Option (List UInt8) :=
 (K0 b1).bind fun v2 => (Ec (F1 a0) fuel (0,v2)).bind fun e7 => Lx e7
def Fw (a0 : List (List UInt8)) (s8 : Int × Int) : Option (LB (Int × Int) (Int)) :=
 if (decide (s8.2 < (a0.length : Int))) then ((idx a0 s8.2).bind fun u9 => if (decide ((wI (s8.1 + (u9.length : Int))) < 0)) then none else (some (.cont ((wI (s8.1 + (u9.length : Int))),(wI (s8.2 + 1)))))) else (some (.brk s8.1))
def E1 (a0 : List (List UInt8)) : Option (List UInt8) :=
 (Ec (Fw a0) fuel (0,0)).bind fun e10 => Ja a0 e10
theorem Jn {a0 : List (List UInt8)} {r : (List UInt8)} (h : E1 a0 = some r) : Hm Tryz.prog 44 [] [.one (.sl a0.length (a0.flatMap (eL eU8)))] (fun y m' => y = .s (.one (.ls 0 r.length)) ∧ m' = [.arr 5 1 0 (r.flatMap eU8)]) := by
 unfold E1 at h
 refine C3 Tryz.func44 rfl (nt := 36) rfl (Nbl rfl) ?_
 intro w0 S0 X0 H0
 refine csr (rm 1 rfl (Al (csr (rm 1 rfl (Al (Bp (csr (rm 1 rfl (sv rfl (Aq Aht rfl) (rm 1 rfl (Al (Gg (Int) (fun b1 => [(0,.s (.one (.sl a0.length (a0.flatMap (eL eU8))))),(3,.s (.one (Ii6 b1)))]) (fun b1 => []) (fun b1 => Ja a0 b1 = some r) (fun _ _ => A6 rfl) (fun _ _ => Ar rfl) (fun _ _ => Nbl rfl) (fun b1 h => ?_) ?_))))))))))))
 ·unfold Ja at h
  refine csr (sv rfl (Bc rfl) ?_)
  obtain ⟨v2,hv2,h⟩ := Ag h
  refine Da (x' := .s (.one (.ls 0 v2.length))) (M' := [.arr 5 1 0 (v2.flatMap eU8)]) [] rfl A0c (.func _) (Ab rfl (Ab rfl Af)) (Vo hv2) rfl rfl (by decide) rfl rfl rfl ?_
  refine rm 1 rfl (Al (Bp (csr (rm 1 rfl (sv rfl (Aq Aht rfl) (rm 1 rfl (Al (Gg ((List UInt8)) (fun b3 => [(6,.s (.one (.ls 0 b3.length)))]) (fun b3 => [.arr 5 1 0 (b3.flatMap eU8)]) (fun b3 => Lx b3 = some r) (fun _ _ => A6 rfl) (fun _ _ => Ar rfl) (fun _ _ => Nbl rfl) (fun b3 h => ?_) ?_))))))))
  ·unfold Lx at h
   refine csr (rm 2 rfl (Al (Bg ?_)))
   obtain rfl := SJ h
   exact ⟨Or.inr rfl,_,[0],[.one (.ls 0 b3.length)],[.arr 5 1 0 (b3.flatMap eU8)],(Aj (Cu.tmp _ _ rfl) As),rfl,rfl,⟨by decide,rfl⟩,rfl,rfl,⟨rfl,rfl⟩⟩
  ·skip
   refine B3 ?_
   obtain ⟨x4,hx4,ho4⟩ := Ag h
   refine Ct (G := Nat × (Int × (List UInt8))) (fun g => [(6,.s (.one (.ls 0 g.2.2.length))),(25,.s (.one (.sl a0.length (a0.flatMap (eL eU8))))),(26,.s (.one (Ii6 (a0.length : Int)))),(27,.s (.one (Ii6 g.2.1)))]) (fun g => [.arr 5 1 0 (g.2.2.flatMap eU8)]) (fun g => Ec (F1 a0) g.1 g.2 = some x4) (fun g => g.1) (fuel,(0,v2)) hx4 ⟨rfl,rfl,rfl,rfl,trivial⟩ [] rfl (fun _ _ => A6 rfl) (fun _ _ => Ar rfl) (fun _ _ => Nbl rfl) ?_
   clear hx4 h
   rintro ⟨n4,s4⟩ h
   obtain ⟨n4,y4,rfl,h,hk4⟩ := Fj h
   unfold F1 at h
   refine csr (sv rfl (Ci rfl rfl) (Al (Bp (ccI h rfl (fun h => ?_) (fun h => ?_)))))
   ·refine Bi (Ac (Bp (B3 (Bp (Az ?_)))))
    obtain ⟨u5,hu5,h⟩ := Ag h
    refine sv rfl (Db (f := (eL eU8)) Aht (fun _ => rfl) rfl rfl rfl rfl hu5) ?_
    refine sv rfl (Ae I9 rfl (.cp _) rfl) (rm 1 rfl (Al (Az (rm 1 rfl (sv rfl (Bc rfl) ?_)))))
    obtain ⟨hb6,h⟩ := Dx h
    refine Af4 (f := eU8) (xs := s4.2) (us := u5) rfl Tryz.underlying33 ei5 Avw (fun _ => rfl) rfl rfl (.one _ _ _ _ (.id _ rfl)) rfl rfl rfl (.sl _ _ _ (A7 (f := eU8) (fun _ => rfl) _)) rfl rfl hb6 (by decide) ?_
    refine rm 1 rfl (Mp (Aw (Ac (Az (sv rfl (B4 rfl rfl) (rm 1 rfl (Al ?_)))))))
    cases SJ h
    exact ⟨(n4,((wI (s4.1 + 1)),(s4.2 ++ u5))),_,hk4,⟨rfl,rfl,rfl,rfl,trivial⟩,rfl,Nat.lt_succ_self _⟩
   ·refine Kk (Bd (Bd (B8 (Ac ?_))))
    cases SJ h
    obtain rfl : _ = x4 := hk4
    exact ⟨s4.2,_,ho4,⟨rfl,trivial⟩,rfl⟩
 ·skip
  refine B3 ?_
  obtain ⟨x8,hx8,ho8⟩ := Ag h
  refine Ct (G := Nat × (Int × Int)) (fun g => [(0,.s (.one (.sl a0.length (a0.flatMap (eL eU8))))),(3,.s (.one (Ii6 g.2.1))),(9,.s (.one (.sl a0.length (a0.flatMap (eL eU8))))),(10,.s (.one (Ii6 (a0.length : Int)))),(11,.s (.one (Ii6 g.2.2)))]) (fun g => []) (fun g => Ec (Fw a0) g.1 g.2 = some x8) (fun g => g.1) (fuel,(0,0)) hx8 ⟨rfl,rfl,rfl,rfl,rfl,trivial⟩ [] rfl (fun _ _ => A6 rfl) (fun _ _ => Ar rfl) (fun _ _ => Nbl rfl) ?_
  clear hx8 h
  rintro ⟨n8,s8⟩ h
  obtain ⟨n8,y8,rfl,h,hk8⟩ := Fj h
  unfold Fw at h
  refine csr (sv rfl (Ci rfl rfl) (Al (Bp (ccI h rfl (fun h => ?_) (fun h => ?_)))))
  ·refine Bi (Ac (Bp (B3 (Bp (Az ?_)))))
   obtain ⟨u9,hu9,h⟩ := Ag h
   refine sv rfl (Db (f := (eL eU8)) Aht (fun _ => rfl) rfl rfl rfl rfl hu9) ?_
   refine sv rfl (Ae I9 rfl (.cp _) rfl) (rm 1 rfl (Al (csr (rm 2 rfl (sv rfl (Aq Mi rfl) (sv rfl (B4 rfl rfl) (rm 1 rfl (Al (csr (rm 1 rfl (sv rfl (Ci rfl rfl) (Al (ccI h rfl (fun h => ?_) (fun h => ?_))))))))))))))
   ·cases h
   ·refine Bi (Aw (Ac (Az (sv rfl (B4 rfl rfl) (rm 1 rfl (Al ?_))))))
    cases SJ h
    exact ⟨(n8,((wI (s8.1 + (u9.length : Int))),(wI (s8.2 + 1)))),_,hk8,⟨rfl,rfl,rfl,rfl,rfl,trivial⟩,rfl,Nat.lt_succ_self _⟩
  ·refine Kk (Bd (Bd (B8 (Ac ?_))))
   cases SJ h
   obtain rfl : _ = x8 := hk8
   exact ⟨s8.1,_,ho8,⟨rfl,rfl,trivial⟩,rfl⟩
def Qp (a0 : List UInt8) (b2 : (List UInt8)) : Option (List UInt8) :=
 (E1 [a0,b2]).bind fun v3 => some v3
def Ow (a1 : BitVec 64) (a2 : Int) (s4 : Int × (List UInt8)) : Option (LB (Int × (List UInt8)) ((List UInt8))) :=
 if (decide (s4.1 < ((List.replicate (if (if 8 < a2 then 8 else a2) > 0 then (if 8 < a2 then 8 else a2) else 0).toNat (0 : UInt8)).length : Int))) then (if 0 ≤ (wI (8 * s4.1)) then ((idx s4.2 s4.1).bind fun u6 => some (.cont ((wI (s4.1 + 1)),(s4.2.set s4.1.toNat (UInt8.ofBitVec ((a1 >>> (wI (8 * s4.1)).toNat).setWidth 8)))))) else none) else (some (.brk s4.2))
def Et (a0 : List UInt8) (a1 : BitVec 64) (a2 : Int) : Option (List UInt8) :=
 if (0 : Int) ≤ (if (if 8 < a2 then 8 else a2) > 0 then (if 8 < a2 then 8 else a2) else 0) ∧ (if (if 8 < a2 then 8 else a2) > 0 then (if 8 < a2 then 8 else a2) else 0) ≤ (if (if 8 < a2 then 8 else a2) > 0 then (if 8 < a2 then 8 else a2) else 0) ∧ ((1 : Nat) : Int) * (if (if 8 < a2 then 8 else a2) > 0 then (if 8 < a2 then 8 else a2) else 0) ≤ 281474976710656 then ((Ec (Ow a1 a2) fuel (0,(List.replicate (if (if 8 < a2 then 8 else a2) > 0 then (if 8 < a2 then 8 else a2) else 0).toNat (0 : UInt8)))).bind fun e7 => Qp a0 e7) else none
theorem Ez {a0 : List UInt8} {a1 : BitVec 64} {a2 : Int} {r : (List UInt8)} (h : Et a0 a1 a2 = some r) : Bl Tryz.prog 40 [.one (.sl a0.length (a0.flatMap eU8)),.one (.i .u64 (a1.toNat : Int)),.one (Ii6 a2)] (· = .s (.one (.sl r.length (r.flatMap eU8)))) := by
 unfold Et at h
 refine Au Tryz.func40 rfl (nt := 32) rfl (Nbl rfl) ?_
 intro w0 S0
 refine csr (rm 1 rfl (Al (csr (rm 1 rfl (sv rfl (Vf rfl rfl) (sv rfl (Ale rfl rfl) (rm 1 rfl (Al (csr (sv rfl (Bc rfl) ?_))))))))))
 obtain ⟨hm1,h⟩ := Dx h
 refine smk (f := eU8) (z := (0 : UInt8)) rfl Tryz.underlying33 ei5 (fun _ => rfl) rfl rfl rfl hm1 (by decide) ?_
 refine rm 1 rfl (Al (Bp (csr (rm 1 rfl (sv rfl (Ahi Mi rfl rfl (A7 (f := eU8) (fun _ => rfl) _).symm) ?_)))))
 refine rm 1 rfl (Al (Gg ((List UInt8)) (fun b2 => [(0,.s (.one (.sl a0.length (a0.flatMap eU8)))),(7,.s (.one (.ls 0 b2.length)))]) (fun b2 => [.arr 5 1 0 (b2.flatMap eU8)]) (fun b2 => Qp a0 b2 = some r) (fun _ _ => A6 rfl) (fun _ _ => Ar rfl) (fun _ _ => Nbl rfl) (fun b2 h => ?_) ?_))
 ·unfold Qp at h
  refine csr (rm 1 rfl (sv rfl (Bc rfl) ?_))
  refine Ab7 29 rfl (by (repeat' first | exact Kf.nil _ | apply Kf.cons | apply Ke.one | apply Ke.agg | exact Em.nil | exact Em.ls _ _ _ _ _ _ rfl (A7 (f := eU8) (fun _ => rfl) _).symm | exact Em.id _ rfl | exact Dv.nil _ | apply Dv.cons)) ?_
  refine Vi (out := ([a0,b2] : List (List UInt8)).flatMap (eL eU8)) rfl Tryz.underlying124 Ar8 (Ah rfl (Ah rfl Ay)) (.cons _ _ _ _ _ _ _ rfl rfl (Nbl rfl) (.cons _ _ _ _ _ _ _ rfl rfl (Nbl rfl) (.nil _))) rfl (by decide) ?_
  refine Ab7 30 rfl (by (repeat' first | exact Kf.nil _ | apply Kf.cons | apply Ke.one | apply Ke.agg | exact Em.nil | exact Em.ls _ _ _ _ _ _ rfl (A7 (f := (eL eU8)) (fun _ => rfl) ([a0,b2] : List (List UInt8))).symm | exact Em.ls _ _ _ _ _ _ rfl (A7 (f := (eL eU8)) (fun _ => rfl) _).symm | exact Em.ls _ _ _ _ _ _ rfl (A7 (f := eU8) (fun _ => rfl) _).symm | exact Em.id _ rfl | exact Dv.nil _ | apply Dv.cons)) ?_
  obtain ⟨v3,hv3,h⟩ := Ag h
  refine Da (x' := .s (.one (.ls 2 v3.length))) (M' := [.arr 5 1 (b2.flatMap eU8).length (b2.flatMap eU8),.arr 33 1 ([a0,b2].flatMap (eL eU8)).length ([a0,b2].flatMap (eL eU8)),.arr 5 1 0 (v3.flatMap eU8)]) [] rfl Au9 (.func _) (Ab rfl Af) (Jn hv3) rfl rfl (by decide) rfl rfl rfl ?_
  refine rm 1 rfl (Al (Bg ?_))
  cases SJ h
  refine ⟨Or.inr rfl,_,_,_,(Aj (Cu.tmp _ _ rfl) As),(by (repeat' first | exact Kf.nil _ | apply Kf.cons | apply Ke.one | apply Ke.agg | exact Em.nil | exact Em.ls _ _ _ _ _ _ rfl (A7 (f := (eL eU8)) (fun _ => rfl) _).symm | exact Em.ls _ _ _ _ _ _ rfl (A7 (f := eU8) (fun _ => rfl) _).symm | exact Em.id _ rfl | exact Dv.nil _ | apply Dv.cons)),?_⟩
  rfl
 ·skip
  refine B3 ?_
  obtain ⟨x4,hx4,ho4⟩ := Ag h
  refine Ct (G := Nat × (Int × (List UInt8))) (fun g => [(0,.s (.one (.sl a0.length (a0.flatMap eU8)))),(1,.s (.one (.i .u64 (a1.toNat : Int)))),(7,.s (.one (.ls 0 g.2.2.length))),(15,.s (.one (Ii6 ((List.replicate (if (if 8 < a2 then 8 else a2) > 0 then (if 8 < a2 then 8 else a2) else 0).toNat (0 : UInt8)).length : Int)))),(16,.s (.one (Ii6 g.2.1)))]) (fun g => [.arr 5 1 0 (g.2.2.flatMap eU8)]) (fun g => Ec (Ow a1 a2) g.1 g.2 = some x4) (fun g => g.1) (fuel,(0,(List.replicate (if (if 8 < a2 then 8 else a2) > 0 then (if 8 < a2 then 8 else a2) else 0).toNat (0 : UInt8)))) hx4 ⟨rfl,rfl,rfl,rfl,rfl,trivial⟩ [] rfl (fun _ _ => A6 rfl) (fun _ _ => Ar rfl) (fun _ _ => Nbl rfl) ?_
  clear hx4 h
  rintro ⟨n4,s4⟩ h
  obtain ⟨n4,y4,rfl,h,hk4⟩ := Fj h
  unfold Ow at h
  refine csr (sv rfl (Ci rfl rfl) (Al (Bp (ccI h rfl (fun h => ?_) (fun h => ?_)))))
  ·refine Bi (Ac (Bp (B3 (csr (rm 2 rfl (Al (Az (rm 4 rfl (sv rfl (Abf rfl rfl) ?_)))))))))
   obtain ⟨hz5,h⟩ := Dx h
   refine sv rfl (Ym (a := a1) rfl rfl rfl hz5) (sv rfl (Pz (k := .u64) (a := (a1 >>> (wI (8 * s4.1)).toNat)) rfl Tryz.underlying112 Tryz.underlying5 rfl rfl) ?_)
   obtain ⟨u6,hu6,h⟩ := Ag h
   refine sv rfl (Aqn (f := eU8) Mi (fun _ => rfl) rfl rfl rfl rfl rfl hu6) ?_
   refine Awt (f := eU8) (u' := (UInt8.ofBitVec ((a1 >>> (wI (8 * s4.1)).toNat).setWidth 8))) (sz := 1) 0 sz5 (fun _ => rfl) rfl rfl rfl rfl rfl rfl rfl (List.all_eq_true.1 rfl) (Vy hu6).2 (Nbl rfl) rfl ?_
   refine Xw 7 (y := .s (.one (.ls 0 s4.2.length))) (.s (.one (.ls 0 (s4.2.set s4.1.toNat (UInt8.ofBitVec ((a1 >>> (wI (8 * s4.1)).toNat).setWidth 8))).length))) rfl (congrArg (fun n => AV.s (.one (.ls 0 n))) List.length_set.symm) ?_
   refine Xw 19 (y := .s (.one (.ls 0 s4.2.length))) (.s (.one (.ls 0 (s4.2.set s4.1.toNat (UInt8.ofBitVec ((a1 >>> (wI (8 * s4.1)).toNat).setWidth 8))).length))) rfl (congrArg (fun n => AV.s (.one (.ls 0 n))) List.length_set.symm) ?_
   refine Mp (Aw (Ac (Az (sv rfl (B4 rfl rfl) (rm 1 rfl (Al ?_))))))
   cases SJ h
   exact ⟨(n4,((wI (s4.1 + 1)),(s4.2.set s4.1.toNat (UInt8.ofBitVec ((a1 >>> (wI (8 * s4.1)).toNat).setWidth 8))))),_,hk4,⟨rfl,rfl,rfl,rfl,rfl,trivial⟩,rfl,Nat.lt_succ_self _⟩
  ·refine Kk (Bd (Bd (B8 (Ac ?_))))
   cases SJ h
   obtain rfl : _ = x4 := hk4
   exact ⟨s4.2,_,ho4,⟨rfl,rfl,trivial⟩,rfl⟩
def R9 (a0 : BitVec 32) : Option (BitVec 32) :=
 if (decide (((a0 &&& (1#32)).toNat : Int) = (1 : Int))) then (some ((a0 >>> (1 : Int).toNat) ^^^ (3988292384#32))) else (some (a0 >>> (1 : Int).toNat))
theorem Za {a0 : BitVec 32} {r : (BitVec 32)} (h : R9 a0 = some r) : Bl Tryz.prog 126 [.one (.i .u32 (a0.toNat : Int))] (· = .s (.one (.i .u32 (r.toNat : Int)))) := by
 unfold R9 at h
 refine Au Tryz.func126 rfl (nt := 11) rfl (Nbl rfl) ?_
 intro w0 S0
 refine csr (rm 1 rfl (Al (Bp (csr (rm 1 rfl (sv rfl (Afa (a := a0) (b := 1#32) rfl rfl rfl rfl) (sv rfl (Bn rfl rfl) (Al (ccI h rfl (fun h => ?_) (fun h => ?_))))))))))
 ·refine csr (sv rfl (Bc rfl) ?_)
  refine sv rfl (Uz (a := a0) rfl rfl rfl (by decide)) ?_
  refine sv rfl (Y7 (a := (a0 >>> (1 : Int).toNat)) (b := 3988292384#32) rfl rfl rfl rfl) (rm 1 rfl (Al (Bg (Ak ?_))))
  cases SJ h
  exact dnT rfl rfl rfl rfl
 ·refine Bi (Ac (csr (sv rfl (Bc rfl) ?_)))
  refine sv rfl (Uz (a := a0) rfl rfl rfl (by decide)) ?_
  refine rm 1 rfl (Al (Bg ?_))
  cases SJ h
  exact dnT rfl rfl rfl rfl
def Od (b1 : (List (BitVec 32))) : Option (List (BitVec 32)) :=
 if b1.length = 256 then (if (List.replicate 256 0#32).length = 256 then (if b1.length = 256 then (if b1.length = 256 then (some b1) else none) else none) else none) else none
def Oi (s5 : Int × (List (BitVec 32))) (b6 : (BitVec 32)) : Option (LB (Int × (List (BitVec 32))) ((List (BitVec 32)))) :=
 if 0 ≤ s5.1 ∧ s5.1 < ((256 : Nat) : Int) then ((idx s5.2 s5.1).bind fun u8 => some (.cont ((wI (s5.1 + 1)),(s5.2.set s5.1.toNat b6)))) else none
def N8 (s9 : (BitVec 32) × Int) : Option (LB ((BitVec 32) × Int) ((BitVec 32))) :=
 if (decide (s9.2 < 8)) then ((R9 s9.1).bind fun v10 => some (.cont (v10,(wI (s9.2 + 1))))) else (some (.brk s9.1))
def Ol (s5 : Int × (List (BitVec 32))) : Option (LB (Int × (List (BitVec 32))) ((List (BitVec 32)))) :=
 if (decide (s5.1 < 256)) then ((Ec N8 fuel ((BitVec.ofInt 32 s5.1),0)).bind fun e11 => Oi s5 e11) else (some (.brk s5.2))
def Oq  : Option (List (BitVec 32)) :=
 (Ec Ol fuel (0,(List.replicate 256 0#32))).bind fun e12 => Od e12
theorem Xz  {r : (List (BitVec 32))} (h : Oq = some r) : Bl Tryz.prog 111 [] (· = .s (.agg (r.flatMap Wk))) := by
 unfold Oq at h
 refine Au Tryz.func111 rfl (nt := 19) rfl (Nbl rfl) ?_
 intro w0 S0
 refine csr (Bw rfl Ap9 (Al (csr (Bw rfl Ap9 (Al (Bp (csr (rm 1 rfl (Al ?_)))))))))
 refine Gg ((List (BitVec 32))) (fun b1 => [(0,.s (.one (.lp 0 0))),(1,.s (.one (.lp 1 0)))]) (fun b1 => [.box ((List.replicate 256 0#32).flatMap Wk),.box (b1.flatMap Wk)]) (fun b1 => Od b1 = some r) (fun _ _ => A6 rfl) (fun _ _ => Ar (by simp only [List.all_cons,List.all_nil,Blk.inbB,Lf.inbB,Lf.inb0,Bool.and_true,Bool.and_self,Bool.true_and,T5 (f := Wk) (fun _ _ => rfl)] <;> rfl)) (fun _ _ => Nbl rfl) (fun b1 h => ?_) ?_
 ·unfold Od at h
  refine Bp (Az ?_)
  obtain ⟨hl2,h⟩ := Dx h
  refine sv rfl (Ai4 (f := Wk) (n := 256) Aul (fun _ => rfl) rfl rfl rfl hl2) ?_
  obtain ⟨hl3,h⟩ := Dx h
  obtain ⟨hl4,h⟩ := Dx h
  refine Apg (f := Wk) (n := 256) Atf (fun _ => rfl) rfl rfl rfl rfl hl3 hl4 ?_
  refine Bs [.box (b1.flatMap Wk),.box (b1.flatMap Wk)] rfl (Al (Bg ?_))
  obtain ⟨hlr,h⟩ := Dx h
  cases SJ h
  refine ⟨Or.inr rfl,_,_,_,(Aj (Ana (f := Wk) (n := 256) (fun _ => rfl) Aul rfl rfl rfl hlr) As),(Ao (by simp [List.all_cons,Ap1 (f := Wk) (fun _ => rfl),SV.cells])),?_⟩
  rfl
 ·skip
  refine B3 ?_
  obtain ⟨x5,hx5,ho5⟩ := Ag h
  refine Ct (G := Nat × (Int × (List (BitVec 32)))) (fun g => [(0,.s (.one (.lp 0 0))),(1,.s (.one (.lp 1 0))),(4,.s (.one (Ii6 g.2.1)))]) (fun g => [.box ((List.replicate 256 0#32).flatMap Wk),.box (g.2.2.flatMap Wk)]) (fun g => Ec Ol g.1 g.2 = some x5) (fun g => g.1) (fuel,(0,(List.replicate 256 0#32))) hx5 ⟨rfl,rfl,rfl,trivial⟩ [] rfl (fun _ _ => A6 rfl) (fun _ _ => Ar (by simp only [List.all_cons,List.all_nil,Blk.inbB,Lf.inbB,Lf.inb0,Bool.and_true,Bool.and_self,Bool.true_and,T5 (f := Wk) (fun _ _ => rfl)] <;> rfl)) (fun _ _ => Nbl rfl) ?_
  clear hx5 h
  rintro ⟨n5,s5⟩ h
  obtain ⟨n5,y5,rfl,h,hk5⟩ := Fj h
  unfold Ol at h
  refine csr (sv rfl (Ci rfl rfl) (Al (Bp (ccI h rfl (fun h => ?_) (fun h => ?_)))))
  ·refine Bi (Ac (Bp (B3 (csr (rm 2 rfl (Al (csr (rm 1 rfl (sv rfl (Dc rfl Tryz.underlying3 Tryz.underlying117 rfl) (rm 1 rfl (Al (Bp (csr (rm 1 rfl (Al ?_)))))))))))))))
   refine Gg ((BitVec 32)) (fun b6 => [(0,.s (.one (.lp 0 0))),(1,.s (.one (.lp 1 0))),(2,.s (.one (Ii6 s5.1))),(3,.s (.one (.i .u32 (b6.toNat : Int)))),(4,.s (.one (Ii6 s5.1)))]) (fun b6 => [.box ((List.replicate 256 0#32).flatMap Wk),.box (s5.2.flatMap Wk)]) (fun b6 => Oi s5 b6 = some y5) (fun _ _ => A6 rfl) (fun _ _ => Ar (by simp only [List.all_cons,List.all_nil,Blk.inbB,Lf.inbB,Lf.inb0,Bool.and_true,Bool.and_self,Bool.true_and,T5 (f := Wk) (fun _ _ => rfl)] <;> rfl)) (fun _ _ => Nbl rfl) (fun b6 h => ?_) ?_
   ·unfold Oi at h
    refine Az (rm 1 rfl (sv rfl (Bc rfl) ?_))
    obtain ⟨hj7,h⟩ := Dx h
    obtain ⟨u8,hu8,h⟩ := Ag h
    refine sv rfl (Afz Aty rfl rfl hj7) (Awh (f := Wk) (u' := b6) 0 Atx (fun _ => rfl) rfl rfl rfl rfl rfl (Vy hu8).2 (Nbl rfl) rfl ?_)
    refine Bs [.box ((List.replicate 256 0#32).flatMap Wk),.box ((s5.2.set s5.1.toNat b6).flatMap Wk)] rfl (Mp (Aw (Ac (Az (sv rfl (B4 rfl rfl) (rm 1 rfl (Al ?_)))))))
    cases SJ h
    exact ⟨(n5,((wI (s5.1 + 1)),(s5.2.set s5.1.toNat b6))),_,hk5,⟨rfl,rfl,rfl,trivial⟩,rfl,Nat.lt_succ_self _⟩
   ·skip
    refine B3 ?_
    obtain ⟨x9,hx9,ho9⟩ := Ag h
    refine Ct (G := Nat × ((BitVec 32) × Int)) (fun g => [(0,.s (.one (.lp 0 0))),(1,.s (.one (.lp 1 0))),(2,.s (.one (Ii6 s5.1))),(3,.s (.one (.i .u32 (g.2.1.toNat : Int)))),(4,.s (.one (Ii6 s5.1))),(9,.s (.one (Ii6 g.2.2)))]) (fun g => [.box ((List.replicate 256 0#32).flatMap Wk),.box (s5.2.flatMap Wk)]) (fun g => Ec N8 g.1 g.2 = some x9) (fun g => g.1) (fuel,((BitVec.ofInt 32 s5.1),0)) hx9 ⟨rfl,rfl,rfl,rfl,rfl,rfl,trivial⟩ [] rfl (fun _ _ => A6 rfl) (fun _ _ => Ar (by simp only [List.all_cons,List.all_nil,Blk.inbB,Lf.inbB,Lf.inb0,Bool.and_true,Bool.and_self,Bool.true_and,T5 (f := Wk) (fun _ _ => rfl)] <;> rfl)) (fun _ _ => Nbl rfl) ?_
    clear hx9 h
    rintro ⟨n9,s9⟩ h
    obtain ⟨n9,y9,rfl,h,hk9⟩ := Fj h
    unfold N8 at h
    refine csr (sv rfl (Ci rfl rfl) (Al (Bp (ccI h rfl (fun h => ?_) (fun h => ?_)))))
    ·refine Bi (Ac (Bp (B3 (Az (sv rfl (Bc rfl) ?_)))))
     obtain ⟨v10,hv10,h⟩ := Ag h
     refine Av rfl Avj (Ab rfl Af) (Ao rfl) (Za hv10) (rm 1 rfl (Mp (Aw (Ac (Az (sv rfl (B4 rfl rfl) (rm 1 rfl (Al ?_))))))))
     cases SJ h
     exact ⟨(n9,(v10,(wI (s9.2 + 1)))),_,hk9,⟨rfl,rfl,rfl,rfl,rfl,rfl,trivial⟩,rfl,Nat.lt_succ_self _⟩
    ·refine Kk (Bd (Bd (B8 (Ac ?_))))
     cases SJ h
     obtain rfl : _ = x9 := hk9
     exact ⟨s9.1,_,ho9,⟨rfl,rfl,rfl,rfl,rfl,trivial⟩,rfl⟩
  ·refine Kk (Bd (Bd (B8 (Ac ?_))))
   cases SJ h
   obtain rfl : _ = x5 := hk5
   exact ⟨s5.2,_,ho5,⟨rfl,rfl,trivial⟩,rfl⟩
def P9 (b4 : (BitVec 32)) : Option (BitVec 32) :=
 some (~~~b4)
def J6 (a1 : List UInt8) (v1 : (List (BitVec 32))) (s5 : (BitVec 32) × Int) : Option (LB ((BitVec 32) × Int) ((BitVec 32))) :=
 if (decide (s5.2 < (a1.length : Int))) then ((idx a1 s5.2).bind fun u6 => if 0 ≤ (((s5.1.setWidth 8) ^^^ u6.toBitVec).toNat : Int) ∧ (((s5.1.setWidth 8) ^^^ u6.toBitVec).toNat : Int) < ((256 : Nat) : Int) then ((idx v1 (((s5.1.setWidth 8) ^^^ u6.toBitVec).toNat : Int)).bind fun u8 => some (.cont (((s5.1 >>> (8 : Int).toNat) ^^^ u8),(wI (s5.2 + 1))))) else none) else (some (.brk s5.1))
def Nl (a0 : BitVec 32) (a1 : List UInt8) : Option (BitVec 32) :=
 (Oq).bind fun v1 => if (List.replicate 256 0#32).length = 256 then (if v1.length = 256 then ((Ec (J6 a1 v1) fuel ((~~~a0),0)).bind fun e9 => P9 e9) else none) else none
theorem Us {a0 : BitVec 32} {a1 : List UInt8} {r : (BitVec 32)} (h : Nl a0 a1 = some r) : Bl Tryz.prog 90 [.one (.i .u32 (a0.toNat : Int)),.one (.sl a1.length (a1.flatMap eU8))] (· = .s (.one (.i .u32 (r.toNat : Int)))) := by
 unfold Nl at h
 refine Au Tryz.func90 rfl (nt := 29) rfl (Nbl rfl) ?_
 intro w0 S0
 refine csr (rm 1 rfl (Al (Bp (Az ?_))))
 obtain ⟨v1,hv1,h⟩ := Ag h
 refine Av rfl Av0 Af (Ao rfl) (Xz hv1) (Bw rfl Ap9 ?_)
 obtain ⟨hl2,h⟩ := Dx h
 obtain ⟨hl3,h⟩ := Dx h
 refine Apg (f := Wk) (n := 256) Atf (fun _ => rfl) rfl rfl rfl rfl hl2 hl3 ?_
 refine Bs [.box (v1.flatMap Wk)] rfl (Al (csr (rm 1 rfl (sv rfl (Wh (a := a0) rfl rfl) (rm 1 rfl (Al (Bp (csr (rm 1 rfl (sv rfl (Aq Mi rfl) (rm 1 rfl (Al ?_))))))))))))
 refine Gg ((BitVec 32)) (fun b4 => [(0,.s (.one (.i .u32 (b4.toNat : Int))))]) (fun b4 => [.box (v1.flatMap Wk)]) (fun b4 => P9 b4 = some r) (fun _ _ => A6 rfl) (fun _ _ => Ar (by simp only [List.all_cons,List.all_nil,Blk.inbB,Lf.inbB,Lf.inb0,Bool.and_true,Bool.and_self,Bool.true_and,T5 (f := Wk) (fun _ _ => rfl)] <;> rfl)) (fun _ _ => Nbl rfl) (fun b4 h => ?_) ?_
 ·unfold P9 at h
  refine csr (rm 1 rfl (sv rfl (Wh (a := b4) rfl rfl) (rm 1 rfl (Al (Bg ?_)))))
  cases SJ h
  exact dnT rfl rfl rfl rfl
 ·skip
  refine B3 ?_
  obtain ⟨x5,hx5,ho5⟩ := Ag h
  refine Ct (G := Nat × ((BitVec 32) × Int)) (fun g => [(0,.s (.one (.i .u32 (g.2.1.toNat : Int)))),(5,.s (.one (.lp 0 0))),(11,.s (.one (.sl a1.length (a1.flatMap eU8)))),(12,.s (.one (Ii6 (a1.length : Int)))),(13,.s (.one (Ii6 g.2.2)))]) (fun g => [.box (v1.flatMap Wk)]) (fun g => Ec (J6 a1 v1) g.1 g.2 = some x5) (fun g => g.1) (fuel,((~~~a0),0)) hx5 ⟨rfl,rfl,rfl,rfl,rfl,trivial⟩ [] rfl (fun _ _ => A6 rfl) (fun _ _ => Ar (by simp only [List.all_cons,List.all_nil,Blk.inbB,Lf.inbB,Lf.inb0,Bool.and_true,Bool.and_self,Bool.true_and,T5 (f := Wk) (fun _ _ => rfl)] <;> rfl)) (fun _ _ => Nbl rfl) ?_
  clear hx5 h
  rintro ⟨n5,s5⟩ h
  obtain ⟨n5,y5,rfl,h,hk5⟩ := Fj h
  unfold J6 at h
  refine csr (sv rfl (Ci rfl rfl) (Al (Bp (ccI h rfl (fun h => ?_) (fun h => ?_)))))
  ·refine Bi (Ac (Bp (B3 (Bp (Az ?_)))))
   obtain ⟨u6,hu6,h⟩ := Ag h
   refine sv rfl (Db (f := eU8) Mi (fun _ => rfl) rfl rfl rfl rfl hu6) ?_
   refine sv rfl (Ae ti5 rfl (.cp _) rfl) (rm 1 rfl (Al (Az (sv rfl (Bc rfl) ?_))))
   refine sv rfl (Uz (a := s5.1) rfl rfl rfl (by decide)) ?_
   refine rm 1 rfl (sv rfl (Pz (k := .u32) (a := s5.1) rfl Tryz.underlying117 Tryz.underlying5 rfl rfl) (rm 1 rfl (sv rfl (Ag9 (a := (s5.1.setWidth 8)) (b := u6.toBitVec) rfl rfl rfl rfl) ?_)))
   obtain ⟨hj7,h⟩ := Dx h
   obtain ⟨u8,hu8,h⟩ := Ag h
   refine sv rfl (Afz Aty rfl rfl hj7) (sv rfl (Anu (f := Wk) 0 Aqq (fun _ => rfl) rfl rfl rfl (Vy hu8).2 rfl) ?_)
   refine sv rfl (Y7 (a := (s5.1 >>> (8 : Int).toNat)) (b := u8) rfl rfl rfl rfl) (rm 1 rfl (Mp (Aw (Ac (Az (sv rfl (B4 rfl rfl) (rm 1 rfl (Al ?_))))))))
   cases SJ h
   exact ⟨(n5,(((s5.1 >>> (8 : Int).toNat) ^^^ u8),(wI (s5.2 + 1)))),_,hk5,⟨rfl,rfl,rfl,rfl,rfl,trivial⟩,rfl,Nat.lt_succ_self _⟩
  ·refine Kk (Bd (Bd (B8 (Ac ?_))))
   cases SJ h
   obtain rfl : _ = x5 := hk5
   exact ⟨s5.1,_,ho5,⟨rfl,trivial⟩,rfl⟩
def Re (a0 : List UInt8) : Option (BitVec 32) :=
 (Nl (0#32) a0).bind fun v1 => some v1
theorem Acb {a0 : List UInt8} {r : (BitVec 32)} (h : Re a0 = some r) : Bl Tryz.prog 91 [.one (.sl a0.length (a0.flatMap eU8))] (· = .s (.one (.i .u32 (r.toNat : Int)))) := by
 unfold Re at h
 refine Au Tryz.func91 rfl (nt := 5) rfl (Nbl rfl) ?_
 intro w0 S0
 refine csr (rm 1 rfl (Al (csr (sv rfl (Bc rfl) ?_))))
 obtain ⟨v1,hv1,h⟩ := Ag h
 refine Av rfl Ayr (Ab rfl (Ab rfl Af)) (Ao rfl) (Us hv1) (rm 1 rfl (Al (Bg ?_)))
 cases SJ h
 exact dnT rfl rfl rfl rfl
def J1 (a0 : List UInt8) : Option (BitVec 32) :=
 (Et ([] : List UInt8) (BitVec.ofInt 64 (a0.length : Int)) 2).bind fun v1 => (Re v1).bind fun v2 => (Nl v2 a0).bind fun v3 => some v3
theorem Q0 {a0 : List UInt8} {r : (BitVec 32)} (h : J1 a0 = some r) : Bl Tryz.prog 74 [.one (.sl a0.length (a0.flatMap eU8))] (· = .s (.one (.i .u32 (r.toNat : Int)))) := by
 unfold J1 at h
 refine Au Tryz.func74 rfl (nt := 12) rfl (Nbl rfl) ?_
 intro w0 S0
 refine csr (rm 1 rfl (Al (csr (rm 1 rfl (sv rfl (Aq Mi rfl) (sv rfl (Dc rfl Tryz.underlying3 Tryz.underlying112 rfl) ?_))))))
 obtain ⟨v1,hv1,h⟩ := Ag h
 refine Av rfl Adz (Ab rfl (Ab rfl (Ab rfl Af))) (O4 rfl) (Ez hv1) (rm 1 rfl (Al (csr (sv rfl (Bc rfl) ?_))))
 obtain ⟨v2,hv2,h⟩ := Ag h
 refine Av rfl A0j (Ab rfl Af) (Ao rfl) (Acb hv2) (sv rfl (Bc rfl) ?_)
 obtain ⟨v3,hv3,h⟩ := Ag h
 refine Av rfl Ayr (Ab rfl (Ab rfl Af)) (Ao rfl) (Us hv3) (rm 1 rfl (Al (Bg ?_)))
 cases SJ h
 exact dnT rfl rfl rfl rfl
def Mc (a0 : List UInt8) (v2 : (BitVec 64) × Int × Int) (v3 : (BitVec 64) × Int × Int) (b4 : Unit) : Option (G6 × Int) :=
 (cut a0 6 (wI (6 + (wI (v2.1.toNat : Int))))).bind fun c5 => (J1 c5).bind fun v6 => if (!decide (((v3.1.setWidth 32).toNat : Int) = (v6.toNat : Int))) then (some ((G6.mk (Ma.mk 0 (0#32)) ([] : List UInt8)),4)) else (some ((G6.mk (Ma.mk (wI (v2.1.toNat : Int)) (v3.1.setWidth 32)) c5),0))
def M0 (a0 : List UInt8) : Option (G6 × Int) :=
 (Ki a0).bind fun v1 => (Ax 2 v1.1 v1.2.1 v1.2.2).bind fun v2 => if (decide (512 < (wI (v2.1.toNat : Int)))) then (some ((G6.mk (Ma.mk 0 (0#32)) ([] : List UInt8)),5)) else ((Ax 4 v2.2.1 v2.2.2 v1.2.2).bind fun v3 => (Bo v3.2.1 v3.2.2 v1.2.2).bind fun v7 => if (!decide (v7 = 0)) then (some ((G6.mk (Ma.mk 0 (0#32)) ([] : List UInt8)),2)) else (if (decide ((a0.length : Int) < (wI (6 + (wI (v2.1.toNat : Int)))))) then (some ((G6.mk (Ma.mk 0 (0#32)) ([] : List UInt8)),2)) else (Mc a0 v2 v3 ())))
theorem Xk {a0 : List UInt8} {r : G6 × Int} (h : M0 a0 = some r) : Bl Tryz.prog 84 [.one (.sl a0.length (a0.flatMap eU8))] (· = .tup [.agg (el r.1),.one (Ii6 r.2)]) := by
 unfold M0 at h
 refine Au Tryz.func84 rfl (nt := 53) rfl (Nbl rfl) ?_
 intro w0 S0
 refine csr (Bw rfl Yk (rm 1 rfl (Al (csr (sv rfl (Bc rfl) ?_)))))
 obtain ⟨v1,hv1,h⟩ := Ag h
 refine Da (x' := .s (.one (.lp 1 0))) (M' := [.box [Ii6 0,.i .u32 ((0#32).toNat : Int),Znl],.box [.fn 112 [] [.lp 2 0,.lp 3 0],Ii6 v1.1],.box [Ii6 v1.2.1],.box [.sl v1.2.2.length (v1.2.2.flatMap eU8)]]) [] rfl Axz (.func _) (Ab rfl Af) (Qw hv1) rfl rfl (by decide) rfl rfl rfl ?_
 refine rm 1 rfl (Al (csr (sv rfl (Be Yk Ahb Ay (.nil _)) (Bw rfl Yk (An Abi rfl rfl rfl rfl (Nbl rfl) (Bs [.box [Ii6 0,.i .u32 ((0#32).toNat : Int),Znl],.box [.fn 112 [] [.lp 2 0,.lp 3 0],Ii6 v1.1],.box [Ii6 v1.2.1],.box [.sl v1.2.2.length (v1.2.2.flatMap eU8)],.box [Ii6 0,.i .u32 ((0#32).toNat : Int),Znl]] rfl (Al (csr (sv rfl (Bc rfl) ?_)))))))))
 obtain ⟨v2,hv2,h⟩ := Ag h
 refine Da (x' := .s (.one (.i .u64 (v2.1.toNat : Int)))) (M' := [.box [Ii6 0,.i .u32 ((0#32).toNat : Int),Znl],.box [.fn 112 [] [.lp 2 0,.lp 3 0],Ii6 v2.2.1],.box [Ii6 v2.2.2],.box [.sl v1.2.2.length (v1.2.2.flatMap eU8)],.box [Ii6 0,.i .u32 ((0#32).toNat : Int),Znl]]) [1,2,3] rfl Alu (.func _) (Ab rfl (Ab rfl Af)) (C5 hv2) rfl rfl (by decide) rfl rfl rfl ?_
 refine sv rfl (Gj Tryz.underlying112 Tryz.underlying3 rfl) (sv rfl (Aa Rz rfl) (sv rfl (Aa Wn rfl) (An sz3 rfl rfl rfl rfl (Nbl rfl) (Bs [.box [Ii6 0,.i .u32 ((0#32).toNat : Int),Znl],.box [.fn 112 [] [.lp 2 0,.lp 3 0],Ii6 v2.2.1],.box [Ii6 v2.2.2],.box [.sl v1.2.2.length (v1.2.2.flatMap eU8)],.box [Ii6 (wI (v2.1.toNat : Int)),.i .u32 ((0#32).toNat : Int),Znl]] rfl (Al (Bp (csr (sv rfl (Aa Rz rfl) (fl Wn ti3 rfl rfl rfl rfl rfl rfl (sv rfl (Dr rfl rfl) (Al (ccI h rfl (fun h => ?_) (fun h => ?_)))))))))))))
 ·refine csr (sv rfl (Be Yk Ahb Ay (.nil _)) (An Abi rfl rfl rfl rfl (Nbl rfl) (Bs [.box [Ii6 0,.i .u32 ((0#32).toNat : Int),Znl],.box [.fn 112 [] [.lp 2 0,.lp 3 0],Ii6 v2.2.1],.box [Ii6 v2.2.2],.box [.sl v1.2.2.length (v1.2.2.flatMap eU8)],.box [Ii6 (wI (v2.1.toNat : Int)),.i .u32 ((0#32).toNat : Int),Znl]] rfl (rm 1 rfl (Al (Bg (Ak ?_)))))))
  cases SJ h
  refine ⟨Or.inr rfl,_,_,_,(Aj (Cu.agg _ _ _ _ _ Aeh rfl (.lp _ _ _ rfl) (Nbl rfl)) (Aj (Cu.tmp _ _ rfl) As)),(O4 rfl),?_⟩
  rfl
 ·refine Bi (Ac (csr (sv rfl (Bc rfl) ?_)))
  obtain ⟨v3,hv3,h⟩ := Ag h
  refine Da (x' := .s (.one (.i .u64 (v3.1.toNat : Int)))) (M' := [.box [Ii6 0,.i .u32 ((0#32).toNat : Int),Znl],.box [.fn 112 [] [.lp 2 0,.lp 3 0],Ii6 v3.2.1],.box [Ii6 v3.2.2],.box [.sl v1.2.2.length (v1.2.2.flatMap eU8)],.box [Ii6 (wI (v2.1.toNat : Int)),.i .u32 ((0#32).toNat : Int),Znl]]) [1,2,3] rfl Alu (.func _) (Ab rfl (Ab rfl Af)) (C5 hv3) rfl rfl (by decide) rfl rfl rfl ?_
  refine sv rfl (Pz (k := .u64) (a := v3.1) rfl Tryz.underlying112 Tryz.underlying117 rfl rfl) (sv rfl (Aa Rz rfl) (sv rfl (Aa Ad6 rfl) (An Atx rfl rfl rfl rfl (Nbl rfl) (Bs [.box [Ii6 0,.i .u32 ((0#32).toNat : Int),Znl],.box [.fn 112 [] [.lp 2 0,.lp 3 0],Ii6 v3.2.1],.box [Ii6 v3.2.2],.box [.sl v1.2.2.length (v1.2.2.flatMap eU8)],.box [Ii6 (wI (v2.1.toNat : Int)),.i .u32 ((v3.1.setWidth 32).toNat : Int),Znl]] rfl (Al (Bp (Bp (Jk (Unit) (fun b4 => [(0,.s (.one (.sl a0.length (a0.flatMap eU8)))),(2,.s (.one (.lp 0 0))),(5,.s (.one (.lp 4 0)))]) (fun b4 => [.box [Ii6 0,.i .u32 ((0#32).toNat : Int),Znl],.box [.fn 112 [] [.lp 2 0,.lp 3 0],Ii6 v3.2.1],.box [Ii6 v3.2.2],.box [.sl v1.2.2.length (v1.2.2.flatMap eU8)],.box [Ii6 (wI (v2.1.toNat : Int)),.i .u32 ((v3.1.setWidth 32).toNat : Int),Znl]]) (fun b4 => Mc a0 v2 v3 b4 = some r) (fun _ _ => A6 rfl) (fun _ _ => Ar rfl) (fun _ _ => Nbl rfl) (fun b4 h => ?_) ?_))))))))
  ·unfold Mc at h
   refine csr (rm 1 rfl (sv rfl (Aa Rz rfl) (fl Wn ti3 rfl rfl rfl rfl rfl rfl (sv rfl (B4 rfl rfl) ?_))))
   obtain ⟨c5,hc5,h⟩ := Ag h
   refine sv rfl (Ut (f := eU8) (lo := 6) (hi := (wI (6 + (wI (v2.1.toNat : Int))))) Mi (fun _ => rfl) rfl rfl rfl (H8 rfl (L9 hc5).1.1) (H8 rfl (Int.le_trans (L9 hc5).1.1 (L9 hc5).1.2.1)) hc5) ?_
   refine sv rfl (Aa Aa5 rfl) (An Auy rfl rfl rfl rfl (Nbl rfl) (Bs [.box [Ii6 0,.i .u32 ((0#32).toNat : Int),Znl],.box [.fn 112 [] [.lp 2 0,.lp 3 0],Ii6 v3.2.1],.box [Ii6 v3.2.2],.box [.sl v1.2.2.length (v1.2.2.flatMap eU8)],.box [Ii6 (wI (v2.1.toNat : Int)),.i .u32 ((v3.1.setWidth 32).toNat : Int),.sl c5.length (c5.flatMap eU8)]] rfl (Al (Bp (Bp ?_)))))
   refine Yf Kd (by kernel_rfl) ?_
   refine dv rfl (Aa Rz rfl) (dv rfl (Aa Ad6 rfl) (dv rfl (Ae Aqq rfl (.lp _ _ _ rfl) rfl) (dv rfl (Aa Aa5 rfl) (dv rfl (Ae I9 rfl (.lp _ _ _ rfl) rfl) ?_))))
   obtain ⟨v6,hv6,h⟩ := Ag h
   refine dd rfl (Cm Azj (Ab rfl Af) rfl (Q0 hv6)) (dv rfl (Bt rfl rfl) (Zy (Ac (ccI h rfl (fun h => ?_) (fun h => ?_)))))
   ·refine csr (sv rfl (Be Yk Ahb Ay (.nil _)) (An Abi rfl rfl rfl rfl (Nbl rfl) (Bs [.box [Ii6 0,.i .u32 ((0#32).toNat : Int),Znl],.box [.fn 112 [] [.lp 2 0,.lp 3 0],Ii6 v3.2.1],.box [Ii6 v3.2.2],.box [.sl v1.2.2.length (v1.2.2.flatMap eU8)],.box [Ii6 (wI (v2.1.toNat : Int)),.i .u32 ((v3.1.setWidth 32).toNat : Int),.sl c5.length (c5.flatMap eU8)]] rfl (rm 1 rfl (Al (Bg (Ak ?_)))))))
    cases SJ h
    refine ⟨Or.inr rfl,_,_,_,(Aj (Cu.agg _ _ _ _ _ Aeh rfl (.lp _ _ _ rfl) (Nbl rfl)) (Aj (Cu.tmp _ _ rfl) As)),(O4 rfl),?_⟩
    rfl
   ·refine Bi (Ac (csr (sv rfl (Ai Aeh rfl (.lp _ _ _ rfl) (Nbl rfl)) (An Abi rfl rfl rfl rfl (Nbl rfl) (Bs [.box [Ii6 (wI (v2.1.toNat : Int)),.i .u32 ((v3.1.setWidth 32).toNat : Int),.sl c5.length (c5.flatMap eU8)],.box [.fn 112 [] [.lp 2 0,.lp 3 0],Ii6 v3.2.1],.box [Ii6 v3.2.2],.box [.sl v1.2.2.length (v1.2.2.flatMap eU8)],.box [Ii6 (wI (v2.1.toNat : Int)),.i .u32 ((v3.1.setWidth 32).toNat : Int),.sl c5.length (c5.flatMap eU8)]] rfl (rm 1 rfl (Al (Bg ?_))))))))
    cases SJ h
    refine ⟨Or.inr rfl,_,_,_,(Aj (Cu.agg _ _ _ _ _ Aeh rfl (.lp _ _ _ rfl) (Nbl rfl)) (Aj (Cu.tmp _ _ rfl) As)),(Ao rfl),?_⟩
    rfl
  ·skip
   refine Az (sv rfl (Bc rfl) ?_)
   obtain ⟨v7,hv7,h⟩ := Ag h
   refine Da (x' := .s (.one (Ii6 v7))) (M' := [.box [Ii6 0,.i .u32 ((0#32).toNat : Int),Znl],.box [.fn 112 [] [.lp 2 0,.lp 3 0],Ii6 v3.2.1],.box [Ii6 v3.2.2],.box [.sl v1.2.2.length (v1.2.2.flatMap eU8)],.box [Ii6 (wI (v2.1.toNat : Int)),.i .u32 ((v3.1.setWidth 32).toNat : Int),Znl]]) [1,2,3] rfl Amg (.func _) (Ab rfl Af) (Ix hv7) rfl rfl (by decide) rfl rfl rfl ?_
   refine sv rfl (Bt rfl rfl) (rm 1 rfl (Bf 27 rfl (fun hc => ?_) (fun hc => ?_)))
   ·replace h := Br hc h
    clear hc
    refine rm 8 rfl (Al (Ei rfl (fun _ => ?_) (fun hx => Bool.noConfusion hx)))
    refine csr (sv rfl (Be Yk Ahb Ay (.nil _)) (An Abi rfl rfl rfl rfl (Nbl rfl) (Bs [.box [Ii6 0,.i .u32 ((0#32).toNat : Int),Znl],.box [.fn 112 [] [.lp 2 0,.lp 3 0],Ii6 v3.2.1],.box [Ii6 v3.2.2],.box [.sl v1.2.2.length (v1.2.2.flatMap eU8)],.box [Ii6 (wI (v2.1.toNat : Int)),.i .u32 ((v3.1.setWidth 32).toNat : Int),Znl]] rfl (rm 1 rfl (Al (Bg (Ak ?_)))))))
    cases SJ h
    refine ⟨Or.inr rfl,_,_,_,(Aj (Cu.agg _ _ _ _ _ Aeh rfl (.lp _ _ _ rfl) (Nbl rfl)) (Aj (Cu.tmp _ _ rfl) As)),(O4 rfl),?_⟩
    rfl
   ·replace h := Bq hc h
    clear hc
    refine rm 1 rfl (son rfl rfl rfl (sv rfl (Aq Mi rfl) (son rfl rfl rfl (sv rfl (Aa Rz rfl) (son rfl rfl rfl (sv rfl (Aa Wn rfl) (son rfl rfl rfl (sv rfl (Ae ti3 rfl (.lp _ _ _ rfl) rfl) (son rfl rfl rfl (sv rfl (B4 rfl rfl) (son rfl rfl rfl (sv rfl (Ci rfl rfl) (rm 1 rfl (Al (ccI h rfl (fun h => ?_) (fun h => ?_))))))))))))))))
    ·refine csr (sv rfl (Be Yk Ahb Ay (.nil _)) (An Abi rfl rfl rfl rfl (Nbl rfl) (Bs [.box [Ii6 0,.i .u32 ((0#32).toNat : Int),Znl],.box [.fn 112 [] [.lp 2 0,.lp 3 0],Ii6 v3.2.1],.box [Ii6 v3.2.2],.box [.sl v1.2.2.length (v1.2.2.flatMap eU8)],.box [Ii6 (wI (v2.1.toNat : Int)),.i .u32 ((v3.1.setWidth 32).toNat : Int),Znl]] rfl (rm 1 rfl (Al (Bg (Ak ?_)))))))
     cases SJ h
     refine ⟨Or.inr rfl,_,_,_,(Aj (Cu.agg _ _ _ _ _ Aeh rfl (.lp _ _ _ rfl) (Nbl rfl)) (Aj (Cu.tmp _ _ rfl) As)),(O4 rfl),?_⟩
     rfl
    ·refine Bi (Ac ?_)
     exact ⟨(),_,h,⟨rfl,rfl,rfl,trivial⟩,rfl⟩
def Kz (a0 : List UInt8) : Option (List UInt8) :=
 if (([] : List UInt8).length + a0.length) * 1 ≤ 140737488355328 then (some (([] : List UInt8) ++ a0)) else none
theorem Wg {a0 : List UInt8} {r : (List UInt8)} (h : Kz a0 = some r) : Bl Tryz.prog 85 [.one (.sl a0.length (a0.flatMap eU8))] (· = .s (.one (.sl r.length (r.flatMap eU8)))) := by
 unfold Kz at h
 refine Au Tryz.func85 rfl (nt := 8) rfl (Nbl rfl) ?_
 intro w0 S0
 refine csr (rm 1 rfl (Al (Bp (csr (rm 1 rfl (Aqi rfl Tryz.underlying33 rfl (fun nq hnq => ?_)))))))
 cases nq
 ·skip
  refine Al (Ei rfl (fun hx => Bool.noConfusion hx) (fun _ => ?_))
  refine Bi (Ac (csr (Ad3 rfl Tryz.underlying33 ei5 (sv rfl (Bc rfl) ?_))))
  obtain ⟨hb1,h⟩ := Dx h
  refine Af4 (f := eU8) (xs := ([] : List UInt8)) (us := a0) rfl Tryz.underlying33 ei5 Avw (fun _ => rfl) rfl rfl (.one _ _ _ _ (.id _ rfl)) rfl rfl rfl (.sl _ _ _ (A7 (f := eU8) (fun _ => rfl) _)) rfl rfl hb1 (by decide) ?_
  refine rm 1 rfl (Al (Bg ?_))
  cases SJ h
  refine ⟨Or.inr rfl,_,_,_,(Aj (Cu.tmp _ _ rfl) As),(by (repeat' first | exact Kf.nil _ | apply Kf.cons | apply Ke.one | apply Ke.agg | exact Em.nil | exact Em.ls _ _ _ _ _ _ rfl (A7 (f := eU8) (fun _ => rfl) _).symm | exact Em.id _ rfl | exact Dv.nil _ | apply Dv.cons)),?_⟩
  rfl
 ·obtain rfl := List.eq_nil_of_length_eq_zero (hnq rfl)
  replace h : (some ([] : List UInt8)) = some r := by first | exact h | (rw [if_pos (by decide)] at h; exact h)
  refine Al (Ei rfl (fun _ => ?_) (fun hx => Bool.noConfusion hx))
  refine csr (rm 1 rfl (Al (Bg (Ak ?_))))
  cases SJ h
  refine ⟨Or.inr rfl,_,_,_,(Aj (Cu.tmp _ _ rfl) As),(O4 rfl),?_⟩
  rfl
def Mb (a0 : List UInt8) (a1 : Int) (b1 : Unit) : Option ((List UInt8) × Int × Int) :=
 (cut a0 a1 (a0.length : Int)).bind fun c2 => (M0 c2).bind fun v3 => if (!decide (v3.2 = 0)) then (some (([] : List UInt8),0,v3.2)) else ((Kz v3.1.payload_).bind fun v4 => some (v4,(wI ((wI (a1 + 6)) + v3.1.head_.size_)),0))
def K8 (a0 : List UInt8) (a1 : Int) : Option ((List UInt8) × Int × Int) :=
 if (decide (a1 < 0)) then (some (([] : List UInt8),0,1)) else (if (decide ((a0.length : Int) < a1)) then (some (([] : List UInt8),0,1)) else (Mb a0 a1 ()))
theorem Se {a0 : List UInt8} {a1 : Int} {r : (List UInt8) × Int × Int} (h : K8 a0 a1 = some r) : Bl Tryz.prog 66 [.one (.sl a0.length (a0.flatMap eU8)),.one (Ii6 a1)] (· = .tup [.one (.sl r.1.length (r.1.flatMap eU8)),.one (Ii6 r.2.1),.one (Ii6 r.2.2)]) := by
 unfold K8 at h
 refine Au Tryz.func66 rfl (nt := 36) rfl (Nbl rfl) ?_
 intro w0 S0
 refine csr (rm 3 rfl (Al (Bp (Bp (Jk (Unit) (fun b1 => [(0,.s (.one (.sl a0.length (a0.flatMap eU8)))),(1,.s (.one (Ii6 a1)))]) (fun b1 => []) (fun b1 => Mb a0 a1 b1 = some r) (fun _ _ => A6 rfl) (fun _ _ => Ar rfl) (fun _ _ => Nbl rfl) (fun b1 h => ?_) ?_)))))
 ·unfold Mb at h
  refine csr (rm 1 rfl (sv rfl (Bc rfl) ?_))
  obtain ⟨c2,hc2,h⟩ := Ag h
  refine sv rfl (Ut (f := eU8) (lo := a1) (hi := (a0.length : Int)) Mi (fun _ => rfl) rfl rfl rfl (H8 rfl (L9 hc2).1.1) (by exact rfl) hc2) ?_
  obtain ⟨v3,hv3,h⟩ := Ag h
  refine Av rfl A1a (Ab rfl Af) (Ao rfl) (Xk hv3) (sv rfl (Gc rfl) (sv rfl (A4 rfl rfl) (sv rfl (A4 rfl rfl) (Bw rfl Yk (An Abi rfl rfl rfl rfl (Nbl rfl) (Bs [.box (el v3.1)] rfl (rm 1 rfl (Al (Bp (csr (rm 1 rfl (sv rfl (Bt rfl rfl) (Al (ccI h rfl (fun h => ?_) (fun h => ?_)))))))))))))))
  ·refine csr (rm 4 rfl (Al (Bg (Ak ?_))))
   cases SJ h
   refine ⟨Or.inr rfl,_,_,_,(Aj (Cu.tmp _ _ rfl) (Aj (Cu.tmp _ _ rfl) (Aj (Cu.tmp _ _ rfl) As))),(O4 rfl),?_⟩
   rfl
  ·refine Bi (Ac (Bp ?_))
   obtain ⟨v4,hv4,h⟩ := Ag h
   refine Jj [] [0,1,3,0,8,0,32,96,248,7,1023,2047] [[.box (el v3.1)]] (by kernel_rfl) Kd (by kernel_rfl) (by decide) rfl rfl rfl rfl ?_
   refine ev (Bb 0 rfl rfl) rfl rfl (Aa Aa5 rfl) (ev (Bb 0 rfl rfl) rfl rfl (Ae I9 rfl (.lp _ _ _ rfl) rfl) (ed (Bb 0 rfl rfl) rfl rfl (Cm Azk (Ab rfl Af) rfl (Wg hv4)) (ev (Bb 0 rfl rfl) rfl rfl (Bc rfl) (ev (Bb 0 rfl rfl) rfl rfl (B4 rfl rfl) (ev (Bb 0 rfl rfl) rfl rfl (Aa Rz rfl) (ev (Bb 0 rfl rfl) rfl rfl (Aa Wn rfl) (ev (Bb 0 rfl rfl) rfl rfl (Ae ti3 rfl (.lp _ _ _ rfl) rfl) (ev (Bb 0 rfl rfl) rfl rfl (B4 rfl rfl) (ev (Bb 0 rfl rfl) rfl rfl (K5 rfl) (ev (Bb 0 rfl rfl) rfl rfl (K5 rfl) (ev (Bb 0 rfl rfl) rfl rfl (K5 rfl) (Z1 (Ac (Bg ?_))))))))))))))
   cases SJ h
   refine ⟨Or.inr rfl,_,_,_,(Aj (Cu.tmp _ _ rfl) (Aj (Cu.tmp _ _ rfl) (Aj (Cu.tmp _ _ rfl) As))),(Ao rfl),?_⟩
   rfl
 ·skip
  refine Az (rm 1 rfl (sv rfl (Ci rfl rfl) (rm 1 rfl (Bf 11 rfl (fun hc => ?_) (fun hc => ?_)))))
  ·replace h := Br hc h
   clear hc
   refine rm 5 rfl (Al (Ei rfl (fun _ => ?_) (fun hx => Bool.noConfusion hx)))
   refine csr (rm 3 rfl (Al (Bg (Ak ?_))))
   cases SJ h
   refine ⟨Or.inr rfl,_,_,_,(Aj (Cu.tmp _ _ rfl) (Aj (Cu.tmp _ _ rfl) (Aj (Cu.tmp _ _ rfl) As))),(O4 rfl),?_⟩
   rfl
  ·replace h := Bq hc h
   clear hc
   refine rm 2 rfl (son rfl rfl rfl (sv rfl (Aq Mi rfl) (son rfl rfl rfl (sv rfl (Dr rfl rfl) (rm 1 rfl (Al (ccI h rfl (fun h => ?_) (fun h => ?_))))))))
   ·refine csr (rm 3 rfl (Al (Bg (Ak ?_))))
    cases SJ h
    refine ⟨Or.inr rfl,_,_,_,(Aj (Cu.tmp _ _ rfl) (Aj (Cu.tmp _ _ rfl) (Aj (Cu.tmp _ _ rfl) As))),(O4 rfl),?_⟩
    rfl
   ·refine Bi (Ac ?_)
    exact ⟨(),_,h,⟨rfl,rfl,trivial⟩,rfl⟩
def Hj (a0 : A0) : Option Bool :=
 (H7 a0.Dead).bind fun v1 => if v1 then (some (decide ((a0.Buf.length : Int) = 0))) else (if (!decide (a0.Dead = 0)) then (some false) else ((K8 a0.Buf 0).bind fun v2 => if (decide ((a0.Buf.length : Int) = 0)) then (some true) else (some (decide (v2.2.2 = 2)))))
theorem Ob {a0 : A0} {r : Bool} (h : Hj a0 = some r) : Bl Tryz.prog 34 [.agg (el a0)] (· = .s (.one (.b r))) := by
 unfold Hj at h
 refine Au Tryz.func34 rfl (nt := 31) rfl (Nbl rfl) ?_
 intro w0 S0
 refine csr (Ih rfl rfl (rm 1 rfl (Al (Bp (csr (sv rfl (Aa Agl rfl) (sv rfl (Ae Aah rfl (.lp _ _ _ rfl) rfl) ?_)))))))
 obtain ⟨v1,hv1,h⟩ := Ag h
 refine Av rfl Azi (Ab rfl Af) (Ao rfl) (P6 hv1) (Al (ccI h rfl (fun h => ?_) (fun h => ?_)))
 ·refine csr (fl Aai I9 rfl rfl rfl rfl rfl rfl (sv rfl (Aq Mi rfl) (sv rfl (Bn rfl rfl) (rm 1 rfl (Al (Bg (Ak ?_)))))))
  cases SJ h
  exact dnT rfl rfl rfl rfl
 ·refine Bi (Ac (Bp (csr (fl Agl Aah rfl rfl rfl rfl rfl rfl (sv rfl (Bt rfl rfl) (Al (ccI h rfl (fun h => ?_) (fun h => ?_))))))))
  ·refine csr (rm 1 rfl (Al (Bg (Ak ?_))))
   cases SJ h
   exact dnT rfl rfl rfl rfl
  ·refine Bi (Ac (csr (sv rfl (Aa Aai rfl) (sv rfl (Ae I9 rfl (.lp _ _ _ rfl) rfl) ?_))))
   obtain ⟨v2,hv2,h⟩ := Ag h
   refine Av rfl Ayk (Ab rfl (Ab rfl Af)) (Ao rfl) (Se hv2) (sv rfl (Gc rfl) (sv rfl (A4 rfl rfl) (sv rfl (A4 rfl rfl) (sv rfl (A4 rfl rfl) (rm 3 rfl (Al (csr (fl Aai I9 rfl rfl rfl rfl rfl rfl (sv rfl (Aq Mi rfl) (sv rfl (Bn rfl rfl) (rm 1 rfl (Bf 27 rfl (fun hc => ?_) (fun hc => ?_)))))))))))))
   ·replace h := Br hc h
    clear hc
    refine rm 4 rfl (Al (Bg ?_))
    cases SJ h
    exact dnT rfl rfl rfl rfl
   ·replace h := Bq hc h
    clear hc
    refine rm 1 rfl (son rfl rfl rfl (sv rfl (Bn rfl rfl) (rm 2 rfl (Al (Bg ?_)))))
    cases SJ h
    exact dnT rfl rfl rfl rfl
def H6 (a0 : Int) : Option Bool :=
 if (decide (1 ≤ a0)) then (some (decide (a0 ≤ 11))) else (some false)
theorem M6 {a0 : Int} {r : Bool} (h : H6 a0 = some r) : Bl Tryz.prog 60 [.one (Ii6 a0)] (· = .s (.one (.b r))) := by
 unfold H6 at h
 refine Au Tryz.func60 rfl (nt := 9) rfl (Nbl rfl) ?_
 intro w0 S0
 refine csr (rm 1 rfl (Al (csr (rm 1 rfl (sv rfl (Nc rfl rfl) (rm 1 rfl (Bf 5 rfl (fun hc => ?_) (fun hc => ?_))))))))
 ·replace h := Br hc h
  clear hc
  refine rm 1 rfl (son rfl rfl rfl (sv rfl (Gm rfl rfl) (rm 2 rfl (Al (Bg ?_)))))
  cases SJ h
  exact dnT rfl rfl rfl rfl
 ·replace h := Bq hc h
  clear hc
  refine rm 4 rfl (Al (Bg ?_))
  cases SJ h
  exact dnT rfl rfl rfl rfl
def J7 (a0 : Int) : Option Hh :=
 (H6 a0).bind fun v1 => if (!v1) then (some (Hh.mk false false false false false false)) else ((idx Au5 a0).bind fun u2 => some u2)
theorem Rr {a0 : Int} {r : Hh} (h : J7 a0 = some r) : Bl Tryz.prog 59 [.one (Ii6 a0)] (· = .s (.agg (el r))) := by
 unfold J7 at h
 refine Au Tryz.func59 rfl (nt := 10) rfl (Nbl rfl) ?_
 intro w0 S0
 refine csr (Bw rfl Al8 (Al (Bp (csr (sv rfl (Bc rfl) ?_)))))
 obtain ⟨v1,hv1,h⟩ := Ag h
 refine Av rfl Au0 (Ab rfl Af) (Ao rfl) (M6 hv1) (sv rfl (B5 rfl) (Al (ccI h rfl (fun h => ?_) (fun h => ?_))))
 ·refine csr (sv rfl (Be Al8 Awb Ay (.nil _)) (An Amn rfl rfl rfl rfl (Nbl rfl) (Bs [.box [.b false,.b false,.b false,.b false,.b false,.b false]] rfl (Al (Bg (Ak ?_))))))
  cases SJ h
  exact dnA rfl Apy rfl (.lp _ _ _ rfl) (Nbl rfl) rfl rfl
 ·refine Bi (Ac (csr (sv rfl (Bc rfl) ?_)))
  obtain ⟨u2,hu2,h⟩ := Ag h
  refine sv rfl (Ark (f := W3) Avu (fun _ => rfl) Arh rfl rfl rfl hu2) ?_
  refine sv rfl (Cb (ys := [.b u2.token_,.b u2.attempt_,.b u2.ro_,.b u2.key_,.b u2.val_,.b u2.rng_]) Apy rfl (.cp _) rfl rfl) (An Amn rfl rfl rfl rfl (Nbl rfl) (Bs [.box (el u2)] rfl (Al (Bg ?_))))
  cases SJ h
  exact dnA rfl Apy rfl (.lp _ _ _ rfl) (Nbl rfl) rfl rfl
def El (a0 : Int) (a1 : Int) : Option Bool :=
 if (decide (0 ≤ a0)) then (some (decide (a0 ≤ a1))) else (some false)
theorem Gh {a0 : Int} {a1 : Int} {r : Bool} (h : El a0 a1 = some r) : Bl Tryz.prog 61 [.one (Ii6 a0),.one (Ii6 a1)] (· = .s (.one (.b r))) := by
 unfold El at h
 refine Au Tryz.func61 rfl (nt := 12) rfl (Nbl rfl) ?_
 intro w0 S0
 refine csr (rm 1 rfl (Al (csr (rm 1 rfl (sv rfl (Nc rfl rfl) (rm 1 rfl (Bf 7 rfl (fun hc => ?_) (fun hc => ?_))))))))
 ·replace h := Br hc h
  clear hc
  refine rm 2 rfl (son rfl rfl rfl (sv rfl (Gm rfl rfl) (rm 2 rfl (Al (Bg ?_)))))
  cases SJ h
  exact dnT rfl rfl rfl rfl
 ·replace h := Bq hc h
  clear hc
  refine rm 5 rfl (Al (Bg ?_))
  cases SJ h
  exact dnT rfl rfl rfl rfl
def J5 (a0 : Bool) (a1 : Int) (a2 : Int) : Option Bool :=
 if (!a0) then (some (decide (a1 = 0))) else ((El a1 a2).bind fun v1 => some v1)
theorem Q6 {a0 : Bool} {a1 : Int} {a2 : Int} {r : Bool} (h : J5 a0 a1 a2 = some r) : Bl Tryz.prog 62 [.one (.b a0),.one (Ii6 a1),.one (Ii6 a2)] (· = .s (.one (.b r))) := by
 unfold J5 at h
 refine Au Tryz.func62 rfl (nt := 14) rfl (Nbl rfl) ?_
 intro w0 S0
 refine csr (rm 1 rfl (Al (Bp (csr (rm 1 rfl (sv rfl (B5 rfl) (Al (ccI h rfl (fun h => ?_) (fun h => ?_)))))))))
 ·refine csr (rm 1 rfl (sv rfl (Bn rfl rfl) (rm 1 rfl (Al (Bg (Ak ?_))))))
  cases SJ h
  exact dnT rfl rfl rfl rfl
 ·refine Bi (Ac (csr (rm 1 rfl (sv rfl (Bc rfl) ?_))))
  obtain ⟨v1,hv1,h⟩ := Ag h
  refine Av rfl Api (Ab rfl (Ab rfl Af)) (Ao rfl) (Gh hv1) (rm 1 rfl (Al (Bg ?_)))
  cases SJ h
  exact dnT rfl rfl rfl rfl
def C1 (a0 : Bool) (a1 : List UInt8) (a2 : Int) (a3 : Int) : Option Bool :=
 if (!a0) then (some (decide ((a1.length : Int) = 0))) else (if (decide (a2 ≤ (a1.length : Int))) then (some (decide ((a1.length : Int) ≤ a3))) else (some false))
theorem Ef {a0 : Bool} {a1 : List UInt8} {a2 : Int} {a3 : Int} {r : Bool} (h : C1 a0 a1 a2 a3 = some r) : Bl Tryz.prog 63 [.one (.b a0),.one (.sl a1.length (a1.flatMap eU8)),.one (Ii6 a2),.one (Ii6 a3)] (· = .s (.one (.b r))) := by
 unfold C1 at h
 refine Au Tryz.func63 rfl (nt := 24) rfl (Nbl rfl) ?_
 intro w0 S0
 refine csr (rm 1 rfl (Al (Bp (csr (rm 1 rfl (sv rfl (B5 rfl) (Al (ccI h rfl (fun h => ?_) (fun h => ?_)))))))))
 ·refine csr (rm 1 rfl (sv rfl (Aq Mi rfl) (sv rfl (Bn rfl rfl) (rm 1 rfl (Al (Bg (Ak ?_)))))))
  cases SJ h
  exact dnT rfl rfl rfl rfl
 ·refine Bi (Ac (csr (rm 1 rfl (sv rfl (Aq Mi rfl) (rm 1 rfl (sv rfl (Nc rfl rfl) (rm 1 rfl (Bf 18 rfl (fun hc => ?_) (fun hc => ?_)))))))))
  ·replace h := Br hc h
   clear hc
   refine rm 1 rfl (son rfl rfl rfl (sv rfl (Aq Mi rfl) (rm 1 rfl (son rfl rfl rfl (sv rfl (Gm rfl rfl) (rm 2 rfl (Al (Bg ?_))))))))
   cases SJ h
   exact dnT rfl rfl rfl rfl
  ·replace h := Bq hc h
   clear hc
   refine rm 6 rfl (Al (Bg ?_))
   cases SJ h
   exact dnT rfl rfl rfl rfl
def Kb (a0 : Bool) (a1 : B2) : Option Bool :=
 if (!a0) then (if (decide ((a1.Lo.length : Int) = 0)) then (if (decide ((a1.Hi.length : Int) = 0)) then (some (!a1.Open)) else (some false)) else (some false)) else (if (decide ((a1.Lo.length : Int) ≤ 16)) then ((C1 (!a1.Open) a1.Hi 0 16).bind fun v1 => some v1) else (some false))
theorem Q4 {a0 : Bool} {a1 : B2} {r : Bool} (h : Kb a0 a1 = some r) : Bl Tryz.prog 64 [.one (.b a0),.agg (el a1)] (· = .s (.one (.b r))) := by
 unfold Kb at h
 refine Au Tryz.func64 rfl (nt := 34) rfl (Nbl rfl) ?_
 intro w0 S0
 refine csr (Ih rfl rfl (rm 1 rfl (Al (Bp (csr (rm 1 rfl (sv rfl (B5 rfl) (Al (ccI h rfl (fun h => ?_) (fun h => ?_))))))))))
 ·refine csr (fl Rk I9 rfl rfl rfl rfl rfl rfl (sv rfl (Aq Mi rfl) (sv rfl (Bn rfl rfl) (rm 1 rfl (Bf 11 rfl (fun hc => ?_) (fun hc => ?_))))))
  ·replace h := Br hc h
   clear hc
   refine son rfl rfl rfl (sv rfl (Aa Pw rfl) (son rfl rfl rfl (sv rfl (Ae I9 rfl (.lp _ _ _ rfl) rfl) (son rfl rfl rfl (sv rfl (Aq Mi rfl) (son rfl rfl rfl (sv rfl (Bn rfl rfl) (rm 2 rfl (Bf 17 rfl (fun hc => ?_) (fun hc => ?_))))))))))
   ·replace h := Br hc h
    clear hc
    refine son rfl rfl rfl (sv rfl (Aa Uk rfl) (son rfl rfl rfl (sv rfl (Ae ti4 rfl (.lp _ _ _ rfl) rfl) (son rfl rfl rfl (sv rfl (B5 rfl) (rm 2 rfl (Al (Bg (Ak ?_)))))))))
    cases SJ h
    exact dnT rfl rfl rfl rfl
   ·replace h := Bq hc h
    clear hc
    refine rm 5 rfl (Al (Bg (Ak ?_)))
    cases SJ h
    exact dnT rfl rfl rfl rfl
  ·replace h := Bq hc h
   clear hc
   refine rm 11 rfl (Al (Bg (Ak ?_)))
   cases SJ h
   exact dnT rfl rfl rfl rfl
 ·refine Bi (Ac (csr (fl Rk I9 rfl rfl rfl rfl rfl rfl (sv rfl (Aq Mi rfl) (sv rfl (Gm rfl rfl) (rm 1 rfl (Bf 26 rfl (fun hc => ?_) (fun hc => ?_))))))))
  ·replace h := Br hc h
   clear hc
   refine son rfl rfl rfl (sv rfl (Aa Uk rfl) (son rfl rfl rfl (sv rfl (Ae ti4 rfl (.lp _ _ _ rfl) rfl) (son rfl rfl rfl (sv rfl (B5 rfl) (son rfl rfl rfl (sv rfl (Aa Pw rfl) (son rfl rfl rfl (sv rfl (Ae I9 rfl (.lp _ _ _ rfl) rfl) (son rfl rfl rfl ?_))))))))))
   obtain ⟨v1,hv1,h⟩ := Ag h
   refine Av rfl Aor (Ab rfl (Ab rfl (Ab rfl (Ab rfl Af)))) (Ao rfl) (Ef hv1) (rm 2 rfl (Al (Bg ?_)))
   cases SJ h
   exact dnT rfl rfl rfl rfl
  ·replace h := Bq hc h
   clear hc
   refine rm 8 rfl (Al (Bg ?_))
   cases SJ h
   exact dnT rfl rfl rfl rfl
def J4 (a0 : B7) : Option Bool :=
 (J7 a0.Kind).bind fun v1 => (H6 a0.Kind).bind fun v2 => if v2 then ((El a0.Seq 4294967295).bind fun v3 => if v3 then ((J5 v1.token_ a0.Token 1099511627776).bind fun v4 => if v4 then ((J5 v1.attempt_ a0.Attempt 65535).bind fun v5 => if v5 then (if v1.ro_ then ((C1 v1.key_ a0.Key 1 16).bind fun v6 => if v6 then ((C1 v1.val_ a0.Val 0 32).bind fun v7 => if v7 then ((Kb v1.rng_ a0.Rng).bind fun v8 => some v8) else (some false)) else (some false)) else (if (!a0.RO) then ((C1 v1.key_ a0.Key 1 16).bind fun v9 => if v9 then ((C1 v1.val_ a0.Val 0 32).bind fun v10 => if v10 then ((Kb v1.rng_ a0.Rng).bind fun v11 => some v11) else (some false)) else (some false)) else (some false))) else (some false)) else (some false)) else (some false)) else (some false)
theorem Ri {a0 : B7} {r : Bool} (h : J4 a0 = some r) : Bl Tryz.prog 33 [.agg (el a0)] (· = .s (.one (.b r))) := by
 unfold J4 at h
 refine Au Tryz.func33 rfl (nt := 59) rfl (Nbl rfl) ?_
 intro w0 S0
 refine csr (Ih rfl rfl (rm 1 rfl (Al (csr (sv rfl (Aa Qm rfl) (sv rfl (Ae ti3 rfl (.lp _ _ _ rfl) rfl) ?_))))))
 obtain ⟨v1,hv1,h⟩ := Ag h
 refine Av rfl Aye (Ab rfl Af) (Ao rfl) (Rr hv1) (Bw rfl Al8 (An Amn rfl rfl rfl rfl (Nbl rfl) (Bs [.box (el a0),.box (el v1)] rfl (Al (csr (sv rfl (Aa Qm rfl) (sv rfl (Ae ti3 rfl (.lp _ _ _ rfl) rfl) ?_)))))))
 obtain ⟨v2,hv2,h⟩ := Ag h
 refine Av rfl Au0 (Ab rfl Af) (Ao rfl) (M6 hv2) (rm 1 rfl (Bf 10 rfl (fun hc => ?_) (fun hc => ?_)))
 ·replace h := Br hc h
  clear hc
  refine son rfl rfl rfl (sv rfl (Aa Pp rfl) (son rfl rfl rfl (sv rfl (Ae ti3 rfl (.lp _ _ _ rfl) rfl) (son rfl rfl rfl ?_))))
  obtain ⟨v3,hv3,h⟩ := Ag h
  refine Av rfl Api (Ab rfl (Ab rfl Af)) (Ao rfl) (Gh hv3) (rm 2 rfl (Bf 15 rfl (fun hc => ?_) (fun hc => ?_)))
  ·replace h := Br hc h
   clear hc
   refine son rfl rfl rfl (sv rfl (Aa Akq rfl) (son rfl rfl rfl (sv rfl (Ae ti4 rfl (.lp _ _ _ rfl) rfl) (son rfl rfl rfl (sv rfl (Aa Aj9 rfl) (son rfl rfl rfl (sv rfl (Ae ti3 rfl (.lp _ _ _ rfl) rfl) (son rfl rfl rfl ?_))))))))
   obtain ⟨v4,hv4,h⟩ := Ag h
   refine Av rfl Ayx (Ab rfl (Ab rfl (Ab rfl Af))) (Ao rfl) (Q6 hv4) (rm 2 rfl (Bf 22 rfl (fun hc => ?_) (fun hc => ?_)))
   ·replace h := Br hc h
    clear hc
    refine son rfl rfl rfl (sv rfl (Aa Aji rfl) (son rfl rfl rfl (sv rfl (Ae ti4 rfl (.lp _ _ _ rfl) rfl) (son rfl rfl rfl (sv rfl (Aa Akz rfl) (son rfl rfl rfl (sv rfl (Ae ti3 rfl (.lp _ _ _ rfl) rfl) (son rfl rfl rfl ?_))))))))
    obtain ⟨v5,hv5,h⟩ := Ag h
    refine Av rfl Ayx (Ab rfl (Ab rfl (Ab rfl Af))) (Ao rfl) (Q6 hv5) (rm 2 rfl (Bf 29 rfl (fun hc => ?_) (fun hc => ?_)))
    ·replace h := Br hc h
     clear hc
     refine son rfl rfl rfl (sv rfl (Aa Aj6 rfl) (son rfl rfl rfl (sv rfl (Ae ti4 rfl (.lp _ _ _ rfl) rfl) (rm 1 rfl (Bf 32 rfl (fun hc => ?_) (fun hc => ?_))))))
     ·replace h := Br hc h
      clear hc
      refine rm 6 rfl (son rfl rfl rfl (sv rfl (Aa Ae3 rfl) (son rfl rfl rfl (sv rfl (Ae ti4 rfl (.lp _ _ _ rfl) rfl) (son rfl rfl rfl (sv rfl (Aa Afy rfl) (son rfl rfl rfl (sv rfl (Ae I9 rfl (.lp _ _ _ rfl) rfl) (son rfl rfl rfl ?_)))))))))
      obtain ⟨v6,hv6,h⟩ := Ag h
      refine Av rfl Aor (Ab rfl (Ab rfl (Ab rfl (Ab rfl Af)))) (Ao rfl) (Ef hv6) (rm 2 rfl (Bf 45 rfl (fun hc => ?_) (fun hc => ?_)))
      ·replace h := Br hc h
       clear hc
       refine son rfl rfl rfl (sv rfl (Aa Aek rfl) (son rfl rfl rfl (sv rfl (Ae ti4 rfl (.lp _ _ _ rfl) rfl) (son rfl rfl rfl (sv rfl (Aa Aft rfl) (son rfl rfl rfl (sv rfl (Ae I9 rfl (.lp _ _ _ rfl) rfl) (son rfl rfl rfl ?_))))))))
       obtain ⟨v7,hv7,h⟩ := Ag h
       refine Av rfl Aor (Ab rfl (Ab rfl (Ab rfl (Ab rfl Af)))) (Ao rfl) (Ef hv7) (rm 2 rfl (Bf 52 rfl (fun hc => ?_) (fun hc => ?_)))
       ·replace h := Br hc h
        clear hc
        refine son rfl rfl rfl (sv rfl (Aa Aev rfl) (son rfl rfl rfl (sv rfl (Ae ti4 rfl (.lp _ _ _ rfl) rfl) (son rfl rfl rfl (sv rfl (Aa Aav rfl) (son rfl rfl rfl (sv rfl (Ai Ahk rfl (.lp _ _ _ rfl) (Nbl rfl)) (son rfl rfl rfl ?_))))))))
        obtain ⟨v8,hv8,h⟩ := Ag h
        refine Av rfl Ay1 (Ab rfl (Ab rfl Af)) (Ao rfl) (Q4 hv8) (rm 2 rfl (Al (Bg ?_)))
        cases SJ h
        exact dnT rfl rfl rfl rfl
       ·replace h := Bq hc h
        clear hc
        refine rm 7 rfl (Al (Bg ?_))
        cases SJ h
        exact dnT rfl rfl rfl rfl
      ·replace h := Bq hc h
       clear hc
       refine rm 14 rfl (Al (Bg ?_))
       cases SJ h
       exact dnT rfl rfl rfl rfl
     ·replace h := Bq hc h
      clear hc
      refine son rfl rfl rfl (sv rfl (Aa Aiz rfl) (son rfl rfl rfl (sv rfl (Ae ti4 rfl (.lp _ _ _ rfl) rfl) (son rfl rfl rfl (sv rfl (B5 rfl) (rm 3 rfl (Bf 38 rfl (fun hc => ?_) (fun hc => ?_))))))))
      ·replace h := Br hc h
       clear hc
       refine son rfl rfl rfl (sv rfl (Aa Ae3 rfl) (son rfl rfl rfl (sv rfl (Ae ti4 rfl (.lp _ _ _ rfl) rfl) (son rfl rfl rfl (sv rfl (Aa Afy rfl) (son rfl rfl rfl (sv rfl (Ae I9 rfl (.lp _ _ _ rfl) rfl) (son rfl rfl rfl ?_))))))))
       obtain ⟨v9,hv9,h⟩ := Ag h
       refine Av rfl Aor (Ab rfl (Ab rfl (Ab rfl (Ab rfl Af)))) (Ao rfl) (Ef hv9) (rm 2 rfl (Bf 45 rfl (fun hc => ?_) (fun hc => ?_)))
       ·replace h := Br hc h
        clear hc
        refine son rfl rfl rfl (sv rfl (Aa Aek rfl) (son rfl rfl rfl (sv rfl (Ae ti4 rfl (.lp _ _ _ rfl) rfl) (son rfl rfl rfl (sv rfl (Aa Aft rfl) (son rfl rfl rfl (sv rfl (Ae I9 rfl (.lp _ _ _ rfl) rfl) (son rfl rfl rfl ?_))))))))
        obtain ⟨v10,hv10,h⟩ := Ag h
        refine Av rfl Aor (Ab rfl (Ab rfl (Ab rfl (Ab rfl Af)))) (Ao rfl) (Ef hv10) (rm 2 rfl (Bf 52 rfl (fun hc => ?_) (fun hc => ?_)))
        ·replace h := Br hc h
         clear hc
         refine son rfl rfl rfl (sv rfl (Aa Aev rfl) (son rfl rfl rfl (sv rfl (Ae ti4 rfl (.lp _ _ _ rfl) rfl) (son rfl rfl rfl (sv rfl (Aa Aav rfl) (son rfl rfl rfl (sv rfl (Ai Ahk rfl (.lp _ _ _ rfl) (Nbl rfl)) (son rfl rfl rfl ?_))))))))
         obtain ⟨v11,hv11,h⟩ := Ag h
         refine Av rfl Ay1 (Ab rfl (Ab rfl Af)) (Ao rfl) (Q4 hv11) (rm 2 rfl (Al (Bg ?_)))
         cases SJ h
         exact dnT rfl rfl rfl rfl
        ·replace h := Bq hc h
         clear hc
         refine rm 7 rfl (Al (Bg ?_))
         cases SJ h
         exact dnT rfl rfl rfl rfl
       ·replace h := Bq hc h
        clear hc
        refine rm 14 rfl (Al (Bg ?_))
        cases SJ h
        exact dnT rfl rfl rfl rfl
      ·replace h := Bq hc h
       clear hc
       refine rm 21 rfl (Al (Bg ?_))
       cases SJ h
       exact dnT rfl rfl rfl rfl
    ·replace h := Bq hc h
     clear hc
     refine rm 3 rfl (Lp rfl rfl rfl (Lp rfl rfl rfl (Lp rfl rfl rfl (rm 24 rfl (Al (Bg ?_))))))
     cases SJ h
     exact dnT rfl rfl rfl rfl
   ·replace h := Bq hc h
    clear hc
    refine rm 10 rfl (Lp rfl rfl rfl (Lp rfl rfl rfl (Lp rfl rfl rfl (rm 24 rfl (Al (Bg ?_))))))
    cases SJ h
    exact dnT rfl rfl rfl rfl
  ·replace h := Bq hc h
   clear hc
   refine rm 17 rfl (Lp rfl rfl rfl (Lp rfl rfl rfl (Lp rfl rfl rfl (rm 24 rfl (Al (Bg ?_))))))
   cases SJ h
   exact dnT rfl rfl rfl rfl
 ·replace h := Bq hc h
  clear hc
  refine rm 22 rfl (Lp rfl rfl rfl (Lp rfl rfl rfl (Lp rfl rfl rfl (rm 24 rfl (Al (Bg ?_))))))
  cases SJ h
  exact dnT rfl rfl rfl rfl
def E9 (a0 : Ad) : Option Bool :=
 (Hl a0.Cfg).bind fun v1 => if v1 then ((Gw a0).bind fun v2 => if v2 then ((Hv a0.Tasks).bind fun v3 => if v3 then ((Im a0).bind fun v4 => if v4 then ((Cs a0.Phase).bind fun v5 => if (!v5) then ((Hj a0.In).bind fun v6 => if v6 then (some (decide ((a0.Out.length : Int) ≤ 65536))) else (some false)) else ((J4 a0.Req).bind fun v7 => if v7 then ((Hj a0.In).bind fun v8 => if v8 then (some (decide ((a0.Out.length : Int) ≤ 65536))) else (some false)) else (some false))) else (some false)) else (some false)) else (some false)) else (some false)
theorem Ie {a0 : Ad} {r : Bool} (h : E9 a0 = some r) : Bl Tryz.prog 12 [.agg (el a0)] (· = .s (.one (.b r))) := by
 unfold E9 at h
 refine Au Tryz.func12 rfl (nt := 41) rfl (Nbl rfl) ?_
 intro w0 S0
 refine csr (Ih rfl rfl (rm 1 rfl (Al (csr (sv rfl (Aa Sd rfl) (sv rfl (Ai Atu rfl (.lp _ _ _ rfl) (Nbl rfl)) ?_))))))
 obtain ⟨v1,hv1,h⟩ := Ag h
 refine Av rfl Ayc (Ab rfl Af) (Ao rfl) (N2 hv1) (rm 1 rfl (Bf 6 rfl (fun hc => ?_) (fun hc => ?_)))
 ·replace h := Br hc h
  clear hc
  refine son rfl rfl rfl (sv rfl (Ai B6 rfl (.lp _ _ _ rfl) (Nbl rfl)) (son rfl rfl rfl ?_))
  obtain ⟨v2,hv2,h⟩ := Ag h
  refine Av rfl A15 (Ab rfl Af) (Ao rfl) (Rf hv2) (rm 2 rfl (Bf 10 rfl (fun hc => ?_) (fun hc => ?_)))
  ·replace h := Br hc h
   clear hc
   refine son rfl rfl rfl (sv rfl (Aa Lw rfl) (son rfl rfl rfl (sv rfl (Ae Zp rfl (.lp _ _ _ rfl) rfl) (son rfl rfl rfl ?_))))
   obtain ⟨v3,hv3,h⟩ := Ag h
   refine Av rfl A1z (Ab rfl Af) (Ao rfl) (Ss hv3) (rm 2 rfl (Bf 15 rfl (fun hc => ?_) (fun hc => ?_)))
   ·replace h := Br hc h
    clear hc
    refine son rfl rfl rfl (sv rfl (Ai B6 rfl (.lp _ _ _ rfl) (Nbl rfl)) (son rfl rfl rfl ?_))
    obtain ⟨v4,hv4,h⟩ := Ag h
    refine Av rfl A0r (Ab rfl Af) (Ao rfl) (Sy hv4) (rm 2 rfl (Bf 19 rfl (fun hc => ?_) (fun hc => ?_)))
    ·replace h := Br hc h
     clear hc
     refine son rfl rfl rfl (sv rfl (Aa G8 rfl) (son rfl rfl rfl (sv rfl (Ae ti3 rfl (.lp _ _ _ rfl) rfl) (son rfl rfl rfl ?_))))
     obtain ⟨v5,hv5,h⟩ := Ag h
     refine Av rfl Anv (Ab rfl Af) (Ao rfl) (Eb hv5) (son rfl rfl rfl (sv rfl (B5 rfl) (rm 1 rfl (Bf 24 rfl (fun hc => ?_) (fun hc => ?_)))))
     ·replace h := Br hc h
      clear hc
      refine rm 6 rfl (son rfl rfl rfl (sv rfl (Aa Tf rfl) (son rfl rfl rfl (sv rfl (Ai Alt rfl (.lp _ _ _ rfl) (Nbl rfl)) (son rfl rfl rfl ?_)))))
      obtain ⟨v6,hv6,h⟩ := Ag h
      refine Av rfl Avp (Ab rfl Af) (Ao rfl) (Ob hv6) (rm 2 rfl (Bf 35 rfl (fun hc => ?_) (fun hc => ?_)))
      ·replace h := Br hc h
       clear hc
       refine son rfl rfl rfl (sv rfl (Aa Rt rfl) (son rfl rfl rfl (sv rfl (Ae I9 rfl (.lp _ _ _ rfl) rfl) (son rfl rfl rfl (sv rfl (Aq Mi rfl) (son rfl rfl rfl (sv rfl (Gm rfl rfl) (rm 2 rfl (Al (Bg ?_))))))))))
       cases SJ h
       exact dnT rfl rfl rfl rfl
      ·replace h := Bq hc h
       clear hc
       refine rm 6 rfl (Al (Bg ?_))
       cases SJ h
       exact dnT rfl rfl rfl rfl
     ·replace h := Bq hc h
      clear hc
      refine son rfl rfl rfl (sv rfl (Aa Hz rfl) (son rfl rfl rfl (sv rfl (Ai Agc rfl (.lp _ _ _ rfl) (Nbl rfl)) (son rfl rfl rfl ?_))))
      obtain ⟨v7,hv7,h⟩ := Ag h
      refine Av rfl Aya (Ab rfl Af) (Ao rfl) (Ri hv7) (rm 3 rfl (Bf 30 rfl (fun hc => ?_) (fun hc => ?_)))
      ·replace h := Br hc h
       clear hc
       refine son rfl rfl rfl (sv rfl (Aa Tf rfl) (son rfl rfl rfl (sv rfl (Ai Alt rfl (.lp _ _ _ rfl) (Nbl rfl)) (son rfl rfl rfl ?_))))
       obtain ⟨v8,hv8,h⟩ := Ag h
       refine Av rfl Avp (Ab rfl Af) (Ao rfl) (Ob hv8) (rm 2 rfl (Bf 35 rfl (fun hc => ?_) (fun hc => ?_)))
       ·replace h := Br hc h
        clear hc
        refine son rfl rfl rfl (sv rfl (Aa Rt rfl) (son rfl rfl rfl (sv rfl (Ae I9 rfl (.lp _ _ _ rfl) rfl) (son rfl rfl rfl (sv rfl (Aq Mi rfl) (son rfl rfl rfl (sv rfl (Gm rfl rfl) (rm 2 rfl (Al (Bg ?_))))))))))
        cases SJ h
        exact dnT rfl rfl rfl rfl
       ·replace h := Bq hc h
        clear hc
        refine rm 6 rfl (Al (Bg ?_))
        cases SJ h
        exact dnT rfl rfl rfl rfl
      ·replace h := Bq hc h
       clear hc
       refine rm 11 rfl (Al (Bg ?_))
       cases SJ h
       exact dnT rfl rfl rfl rfl
    ·replace h := Bq hc h
     clear hc
     refine rm 5 rfl (Lp rfl rfl rfl (Lp rfl rfl rfl (Lp rfl rfl rfl (rm 14 rfl (Al (Bg ?_))))))
     cases SJ h
     exact dnT rfl rfl rfl rfl
   ·replace h := Bq hc h
    clear hc
    refine rm 9 rfl (Lp rfl rfl rfl (Lp rfl rfl rfl (Lp rfl rfl rfl (rm 14 rfl (Al (Bg ?_))))))
    cases SJ h
    exact dnT rfl rfl rfl rfl
  ·replace h := Bq hc h
   clear hc
   refine rm 14 rfl (Lp rfl rfl rfl (Lp rfl rfl rfl (Lp rfl rfl rfl (rm 14 rfl (Al (Bg ?_))))))
   cases SJ h
   exact dnT rfl rfl rfl rfl
 ·replace h := Bq hc h
  clear hc
  refine rm 18 rfl (Lp rfl rfl rfl (Lp rfl rfl rfl (Lp rfl rfl rfl (rm 14 rfl (Al (Bg ?_))))))
  cases SJ h
  exact dnT rfl rfl rfl rfl
def Jo (a0 : Int) (b1 : Unit) : Option (List A8) :=
 if (decide (0 < (wI (a0 - (wI (0 - 0)))))) then (if 0 < (wI (a0 - (wI (0 - 0)))) ∧ (wI (a0 - (wI (0 - 0)))) * ((96 : Nat) : Int) ≤ 281474976710656 then (if (0 : Int) ≤ 0 ∧ 0 ≤ ((List.replicate (wI (a0 - (wI (0 - 0)))).toNat M4).length : Int) then (some ((List.replicate (wI (a0 - (wI (0 - 0)))).toNat M4).take (0 : Int).toNat)) else none) else none) else (some ([] : List A8))
def Jz (a0 : Int) : Option (List A8) :=
 if (decide (a0 < 0)) then none else (Jo a0 ())
theorem Vb {a0 : Int} {r : (List A8)} (h : Jz a0 = some r) : Hm Tryz.prog 125 [] [.one (Znl),.one (Ii6 a0)] (fun y m' => y = .s (.one (.ls 0 r.length)) ∧ m' = [.arr 61 12 0 (r.flatMap A3)]) := by
 unfold Jz at h
 refine C3 Tryz.func125 rfl (nt := 27) rfl (Nbl rfl) ?_
 intro w0 S0 X0 H0
 refine csr (rm 1 rfl (Al (Bp (csr (rm 1 rfl (sv rfl (Ci rfl rfl) (Al (Gg (Unit) (fun b1 => [(0,.s (.one (Znl))),(1,.s (.one (Ii6 a0)))]) (fun b1 => []) (fun b1 => Jo a0 b1 = some r) (fun _ _ => A6 rfl) (fun _ _ => Ar rfl) (fun _ _ => Nbl rfl) (fun b1 h => ?_) ?_))))))))
 ·unfold Jo at h
  refine Bp (csr (rm 2 rfl (sv rfl (L8 Ah8 rfl) (rm 1 rfl (sv rfl (Lq Ah8 rfl) (sv rfl (Om rfl rfl) (sv rfl (Om rfl rfl) (rm 1 rfl (Al (csr (rm 1 rfl (sv rfl (Dr rfl rfl) (Al (ccI h rfl (fun h => ?_) (fun h => ?_)))))))))))))))
  ·refine Az (rm 2 rfl (sv rfl (L8 Ah8 rfl) (sv rfl (Pg Ah8 rfl rfl) (sv rfl (Bc rfl) ?_))))
   obtain ⟨hm2,h⟩ := Dx h
   refine Arb (f := A3) (z := M4) rfl Tryz.underlying41 Axh Tryz.underlying3 (fun _ => rfl) rfl rfl rfl hm2 (by decide) ?_
   refine rm 1 rfl (sv rfl (Lq Ah8 rfl) ?_)
   obtain ⟨hs3,h⟩ := Dx h
   refine Agy (f := A3) rfl Ah8 (fun _ => rfl) rfl rfl rfl rfl rfl hs3 ?_
   refine rm 1 rfl (Al (csr (rm 2 rfl (Al (Bg ?_)))))
   cases SJ h
   exact ⟨Or.inr rfl,_,[1],[.one (.ls 0 ((List.replicate (wI (a0 - (wI (0 - 0)))).toNat M4).take (0 : Int).toNat).length)],[.arr 61 12 0 (((List.replicate (wI (a0 - (wI (0 - 0)))).toNat M4).take (0 : Int).toNat).flatMap A3)],(Aj (Cu.tmp _ _ rfl) As),rfl,rfl,⟨by decide,rfl⟩,rfl,rfl,⟨rfl,rfl⟩⟩
  ·refine Bi (Ac (csr (rm 2 rfl (Al ?_))))
   refine Qq 61 12 4 (by decide) rfl ?_
   refine Bg ?_
   cases SJ h
   exact ⟨Or.inr rfl,_,[0],[.one (.ls 0 ([] : List A8).length)],[.arr 61 12 0 (([] : List A8).flatMap A3)],(Aj (Cu.tmp _ _ rfl) As),rfl,rfl,⟨by decide,rfl⟩,rfl,rfl,⟨rfl,rfl⟩⟩
 ·skip
  refine ccI h rfl (fun h => ?_) (fun h => ?_)
  ·cases h
  ·refine Bi (Ac ?_)
   exact ⟨(),_,h,⟨rfl,rfl,trivial⟩,rfl⟩
def Ld (b3 : (List A8)) : Option (List A8) :=
 some b3
def E8 (a0 : List (List A8)) (s4 : Int × (List A8)) : Option (LB (Int × (List A8)) ((List A8))) :=
 if (decide (s4.1 < (a0.length : Int))) then ((idx a0 s4.1).bind fun u5 => if (s4.2.length + u5.length) * 96 ≤ 140737488355328 then (some (.cont ((wI (s4.1 + 1)),(s4.2 ++ u5)))) else none) else (some (.brk s4.2))
def Iw (a0 : List (List A8)) (b1 : Int) : Option (List A8) :=
 (Jz b1).bind fun v2 => (Ec (E8 a0) fuel (0,v2)).bind fun e7 => Ld e7
def E4 (a0 : List (List A8)) (s8 : Int × Int) : Option (LB (Int × Int) (Int)) :=
 if (decide (s8.2 < (a0.length : Int))) then ((idx a0 s8.2).bind fun u9 => if (decide ((wI (s8.1 + (u9.length : Int))) < 0)) then none else (some (.cont ((wI (s8.1 + (u9.length : Int))),(wI (s8.2 + 1)))))) else (some (.brk s8.1))
def Ip (a0 : List (List A8)) : Option (List A8) :=
 (Ec (E4 a0) fuel (0,0)).bind fun e10 => Iw a0 e10
theorem Tv {a0 : List (List A8)} {r : (List A8)} (h : Ip a0 = some r) : Hm Tryz.prog 109 [] [.one (.sl a0.length (a0.flatMap (eL A3)))] (fun y m' => y = .s (.one (.ls 0 r.length)) ∧ m' = [.arr 61 12 0 (r.flatMap A3)]) := by
 unfold Ip at h
 refine C3 Tryz.func109 rfl (nt := 36) rfl (Nbl rfl) ?_
 intro w0 S0 X0 H0
 refine csr (rm 1 rfl (Al (csr (rm 1 rfl (Al (Bp (csr (rm 1 rfl (sv rfl (Aq An3 rfl) (rm 1 rfl (Al (Gg (Int) (fun b1 => [(0,.s (.one (.sl a0.length (a0.flatMap (eL A3))))),(3,.s (.one (Ii6 b1)))]) (fun b1 => []) (fun b1 => Iw a0 b1 = some r) (fun _ _ => A6 rfl) (fun _ _ => Ar rfl) (fun _ _ => Nbl rfl) (fun b1 h => ?_) ?_))))))))))))
 ·unfold Iw at h
  refine csr (sv rfl (Bc rfl) ?_)
  obtain ⟨v2,hv2,h⟩ := Ag h
  refine Da (x' := .s (.one (.ls 0 v2.length))) (M' := [.arr 61 12 0 (v2.flatMap A3)]) [] rfl Awg (.func _) (Ab rfl (Ab rfl Af)) (Vb hv2) rfl rfl (by decide) rfl rfl rfl ?_
  refine rm 1 rfl (Al (Bp (csr (rm 1 rfl (sv rfl (Aq An3 rfl) (rm 1 rfl (Al (Gg ((List A8)) (fun b3 => [(6,.s (.one (.ls 0 b3.length)))]) (fun b3 => [.arr 61 12 0 (b3.flatMap A3)]) (fun b3 => Ld b3 = some r) (fun _ _ => A6 rfl) (fun _ _ => Ar rfl) (fun _ _ => Nbl rfl) (fun b3 h => ?_) ?_))))))))
  ·unfold Ld at h
   refine csr (rm 2 rfl (Al (Bg ?_)))
   obtain rfl := SJ h
   exact ⟨Or.inr rfl,_,[0],[.one (.ls 0 b3.length)],[.arr 61 12 0 (b3.flatMap A3)],(Aj (Cu.tmp _ _ rfl) As),rfl,rfl,⟨by decide,rfl⟩,rfl,rfl,⟨rfl,rfl⟩⟩
  ·skip
   refine B3 ?_
   obtain ⟨x4,hx4,ho4⟩ := Ag h
   refine Ct (G := Nat × (Int × (List A8))) (fun g => [(6,.s (.one (.ls 0 g.2.2.length))),(25,.s (.one (.sl a0.length (a0.flatMap (eL A3))))),(26,.s (.one (Ii6 (a0.length : Int)))),(27,.s (.one (Ii6 g.2.1)))]) (fun g => [.arr 61 12 0 (g.2.2.flatMap A3)]) (fun g => Ec (E8 a0) g.1 g.2 = some x4) (fun g => g.1) (fuel,(0,v2)) hx4 ⟨rfl,rfl,rfl,rfl,trivial⟩ [] rfl (fun _ _ => A6 rfl) (fun _ _ => Ar rfl) (fun _ _ => Nbl rfl) ?_
   clear hx4 h
   rintro ⟨n4,s4⟩ h
   obtain ⟨n4,y4,rfl,h,hk4⟩ := Fj h
   unfold E8 at h
   refine csr (sv rfl (Ci rfl rfl) (Al (Bp (ccI h rfl (fun h => ?_) (fun h => ?_)))))
   ·refine Bi (Ac (Bp (B3 (Bp (Az ?_)))))
    obtain ⟨u5,hu5,h⟩ := Ag h
    refine sv rfl (Db (f := (eL A3)) An3 (fun _ => rfl) rfl rfl rfl rfl hu5) ?_
    refine sv rfl (Ae Aph rfl (.cp _) rfl) (rm 1 rfl (Al (Az (rm 1 rfl (sv rfl (Bc rfl) ?_)))))
    obtain ⟨hb6,h⟩ := Dx h
    refine Af4 (f := A3) (xs := s4.2) (us := u5) rfl Tryz.underlying41 Axh Azz (fun _ => rfl) rfl rfl (.one _ _ _ _ (.id _ rfl)) rfl rfl rfl (.sl _ _ _ (A7 (f := A3) (fun _ => rfl) _)) rfl rfl hb6 (by decide) ?_
    refine rm 1 rfl (Mp (Aw (Ac (Az (sv rfl (B4 rfl rfl) (rm 1 rfl (Al ?_)))))))
    cases SJ h
    exact ⟨(n4,((wI (s4.1 + 1)),(s4.2 ++ u5))),_,hk4,⟨rfl,rfl,rfl,rfl,trivial⟩,rfl,Nat.lt_succ_self _⟩
   ·refine Kk (Bd (Bd (B8 (Ac ?_))))
    cases SJ h
    obtain rfl : _ = x4 := hk4
    exact ⟨s4.2,_,ho4,⟨rfl,trivial⟩,rfl⟩
 ·skip
  refine B3 ?_
  obtain ⟨x8,hx8,ho8⟩ := Ag h
  refine Ct (G := Nat × (Int × Int)) (fun g => [(0,.s (.one (.sl a0.length (a0.flatMap (eL A3))))),(3,.s (.one (Ii6 g.2.1))),(9,.s (.one (.sl a0.length (a0.flatMap (eL A3))))),(10,.s (.one (Ii6 (a0.length : Int)))),(11,.s (.one (Ii6 g.2.2)))]) (fun g => []) (fun g => Ec (E4 a0) g.1 g.2 = some x8) (fun g => g.1) (fuel,(0,0)) hx8 ⟨rfl,rfl,rfl,rfl,rfl,trivial⟩ [] rfl (fun _ _ => A6 rfl) (fun _ _ => Ar rfl) (fun _ _ => Nbl rfl) ?_
  clear hx8 h
  rintro ⟨n8,s8⟩ h
  obtain ⟨n8,y8,rfl,h,hk8⟩ := Fj h
  unfold E4 at h
  refine csr (sv rfl (Ci rfl rfl) (Al (Bp (ccI h rfl (fun h => ?_) (fun h => ?_)))))
  ·refine Bi (Ac (Bp (B3 (Bp (Az ?_)))))
   obtain ⟨u9,hu9,h⟩ := Ag h
   refine sv rfl (Db (f := (eL A3)) An3 (fun _ => rfl) rfl rfl rfl rfl hu9) ?_
   refine sv rfl (Ae Aph rfl (.cp _) rfl) (rm 1 rfl (Al (csr (rm 2 rfl (sv rfl (Aq Ah8 rfl) (sv rfl (B4 rfl rfl) (rm 1 rfl (Al (csr (rm 1 rfl (sv rfl (Ci rfl rfl) (Al (ccI h rfl (fun h => ?_) (fun h => ?_))))))))))))))
   ·cases h
   ·refine Bi (Aw (Ac (Az (sv rfl (B4 rfl rfl) (rm 1 rfl (Al ?_))))))
    cases SJ h
    exact ⟨(n8,((wI (s8.1 + (u9.length : Int))),(wI (s8.2 + 1)))),_,hk8,⟨rfl,rfl,rfl,rfl,rfl,trivial⟩,rfl,Nat.lt_succ_self _⟩
  ·refine Kk (Bd (Bd (B8 (Ac ?_))))
   cases SJ h
   obtain rfl : _ = x8 := hk8
   exact ⟨s8.1,_,ho8,⟨rfl,rfl,trivial⟩,rfl⟩
def De (a0 : Ad) (a1 : A8) : Option Ad :=
 (Ip [a0.Done,[a1]]).bind fun v1 => some (Ad.mk (Cx.mk a0.Cfg.Who (D3.mk a0.Cfg.Plan.Wait a0.Cfg.Plan.Most a0.Cfg.Plan.Tries) a0.Cfg.Attempts a0.Cfg.Budget) a0.Tasks a0.Phase a0.Epoch a0.Seq a0.Attempt a0.Sent a0.Left a0.Resets a0.Risk (A1.mk a0.St.PC (Ee.mk a0.St.Regs.R0 a0.St.Regs.R1 a0.St.Regs.R2 a0.St.Regs.R3 a0.St.Regs.R4 a0.St.Regs.R5 a0.St.Regs.R6 a0.St.Regs.R7) a0.St.Stopped) (B7.mk a0.Req.Kind a0.Req.Seq a0.Req.Token a0.Req.Attempt a0.Req.RO a0.Req.Key a0.Req.Val (B2.mk a0.Req.Rng.Lo a0.Req.Rng.Hi a0.Req.Rng.Open)) (A0.mk a0.In.Buf a0.In.Dead) a0.Out v1 a0.Tried)
theorem Iz {a0 : Ad} {a1 : A8} {r : Ad} (h : De a0 a1 = some r) : Bl Tryz.prog 86 [.agg (el a0),.agg (el a1)] (· = .s (.agg (el r))) := by
 unfold De at h
 refine Au Tryz.func86 rfl (nt := 13) rfl (Nbl rfl) ?_
 intro w0 S0
 refine csr (Ih rfl rfl (Ih rfl rfl (Bw rfl O1 (Al (csr (fl Va Aph rfl rfl rfl rfl rfl rfl (sv rfl (Ai Axy rfl (.lp _ _ _ rfl) (Nbl rfl)) ?_)))))))
 refine O9 rfl Tryz.underlying41 Axh rfl rfl (List.all_eq_true.1 rfl) (by decide) ?_
 refine Bs [.box (el a0),.box (el a1),.box Zba,.arr 61 12 0 ([a1].flatMap A3)] rfl ?_
 refine Ab7 8 rfl (by (repeat' first | exact Kf.nil _ | apply Kf.cons | apply Ke.one | apply Ke.agg | exact Em.nil | exact Em.ls _ _ _ _ _ _ rfl (A7 (f := A3) (fun _ => rfl) ([a1] : List A8)).symm | exact Em.ls _ _ _ _ _ _ rfl (A7 (f := A3) (fun _ => rfl) _).symm | exact Em.id _ rfl | exact Dv.nil _ | apply Dv.cons)) ?_
 refine Vi (out := ([a0.Done,[a1]] : List (List A8)).flatMap (eL A3)) rfl Tryz.underlying204 A1d (Ah rfl (Ah rfl Ay)) (.cons _ _ _ _ _ _ _ rfl rfl (Nbl rfl) (.cons _ _ _ _ _ _ _ rfl rfl (Nbl rfl) (.nil _))) rfl (by decide) ?_
 refine Ab7 9 rfl (by (repeat' first | exact Kf.nil _ | apply Kf.cons | apply Ke.one | apply Ke.agg | exact Em.nil | exact Em.ls _ _ _ _ _ _ rfl (A7 (f := (eL A3)) (fun _ => rfl) ([a0.Done,[a1]] : List (List A8))).symm | exact Em.ls _ _ _ _ _ _ rfl (A7 (f := (eL A3)) (fun _ => rfl) _).symm | exact Em.ls _ _ _ _ _ _ rfl (A7 (f := A3) (fun _ => rfl) _).symm | exact Em.id _ rfl | exact Dv.nil _ | apply Dv.cons)) ?_
 obtain ⟨v1,hv1,h⟩ := Ag h
 refine Da (x' := .s (.one (.ls 5 v1.length))) (M' := [.box (el a0),.box (el a1),.box Zba,.arr 61 12 ([a1].flatMap A3).length ([a1].flatMap A3),.arr 41 1 ([a0.Done,[a1]].flatMap (eL A3)).length ([a0.Done,[a1]].flatMap (eL A3)),.arr 61 12 0 (v1.flatMap A3)]) [] rfl Awx (.func _) (Ab rfl Af) (Tv hv1) rfl rfl (by decide) rfl rfl rfl ?_
 refine sv rfl (Aa Va rfl) (An Azw rfl rfl rfl rfl (Nbl rfl) (Bs [.box ((el a0).set 38 (.ls 5 v1.length)),.box (el a1),.box Zba,.arr 61 12 ([a1].flatMap A3).length ([a1].flatMap A3),.arr 41 1 ([a0.Done,[a1]].flatMap (eL A3)).length ([a0.Done,[a1]].flatMap (eL A3)),.arr 61 12 0 (v1.flatMap A3)] rfl (Al (csr (sv rfl (Ai B6 rfl (.lp _ _ _ rfl) (Nbl rfl)) (An E2 rfl rfl rfl rfl (Nbl rfl) (Bs [.box ((el a0).set 38 (.ls 5 v1.length)),.box (el a1),.box ((el a0).set 38 (.ls 5 v1.length)),.arr 61 12 ([a1].flatMap A3).length ([a1].flatMap A3),.arr 41 1 ([a0.Done,[a1]].flatMap (eL A3)).length ([a0.Done,[a1]].flatMap (eL A3)),.arr 61 12 0 (v1.flatMap A3)] rfl (Al (Bg ?_)))))))))
 cases SJ h
 refine ⟨Or.inr rfl,_,_,_,(Aj (Cu.agg _ _ _ _ _ B6 rfl (.lp _ _ _ rfl) (Nbl rfl)) As),(by (repeat' first | exact Kf.nil _ | apply Kf.cons | apply Ke.one | apply Ke.agg | exact Em.nil | exact Em.ls _ _ _ _ _ _ rfl (A7 (f := (eL A3)) (fun _ => rfl) _).symm | exact Em.ls _ _ _ _ _ _ rfl (A7 (f := A3) (fun _ => rfl) _).symm | exact Em.id _ rfl | exact Dv.nil _ | apply Dv.cons)),?_⟩
 rfl
def Gy (a0 : Ad) : Option Int :=
 if a0.Risk then (some 4) else (if (decide (0 < a0.Attempt)) then (if a0.St.Stopped then (some 2) else (some 3)) else (some 3))
theorem Rb {a0 : Ad} {r : Int} (h : Gy a0 = some r) : Bl Tryz.prog 87 [.agg (el a0)] (· = .s (.one (Ii6 r))) := by
 unfold Gy at h
 refine Au Tryz.func87 rfl (nt := 15) rfl (Nbl rfl) ?_
 intro w0 S0
 refine csr (Ih rfl rfl (rm 1 rfl (Al (Bp (B3 (csr (fl Yi ti4 rfl rfl rfl rfl rfl rfl (rm 1 rfl (Al (ccI h rfl (fun h => ?_) (fun h => ?_)))))))))))
 ·refine csr (rm 1 rfl (Al (Bg (A2 (Ak ?_)))))
  cases SJ h
  exact dnT rfl rfl rfl rfl
 ·refine csr (fl Pd ti3 rfl rfl rfl rfl rfl rfl (sv rfl (Dr rfl rfl) (rm 1 rfl (Bf 10 rfl (fun hc => ?_) (fun hc => ?_)))))
  ·replace h := Br hc h
   clear hc
   refine son rfl rfl rfl (sv rfl (Aa Qs rfl) (son rfl rfl rfl (sv rfl (Aa W6 rfl) (son rfl rfl rfl (sv rfl (Ae ti4 rfl (.lp _ _ _ rfl) rfl) (rm 2 rfl (Al (ccI h rfl (fun h => ?_) (fun h => ?_)))))))))
   ·refine csr (rm 1 rfl (Al (Bg (A2 (Ak ?_)))))
    cases SJ h
    exact dnT rfl rfl rfl rfl
   ·refine Bi (Aw (Ac (csr (rm 1 rfl (Al (Bg ?_))))))
    cases SJ h
    exact dnT rfl rfl rfl rfl
  ·replace h := Bq hc h
   clear hc
   refine rm 5 rfl (Al (Ei rfl (fun hx => Bool.noConfusion hx) (fun _ => ?_)))
   refine Bi (Aw (Ac (csr (rm 1 rfl (Al (Bg ?_))))))
   cases SJ h
   exact dnT rfl rfl rfl rfl
def Jv (b1 : Ad) : Option Ad :=
 some ({b1 with Tasks := ([] : List Am),Phase := 11,Left := 0})
def Bz (a0 : Ad) (s2 : Int × Ad) : Option (LB (Int × Ad) (Ad)) :=
 if (decide (s2.1 < (a0.Tasks.length : Int))) then ((idx a0.Tasks s2.1).bind fun u3 => if (decide (0 < s2.1)) then ((De s2.2 (A8.mk u3.Token 3 0 0 (Ee.mk 0 0 0 0 0 0 0 0))).bind fun v4 => some (.cont ((wI (s2.1 + 1)),v4))) else (if (!decide (s2.2.Phase = 9)) then ((Gy s2.2).bind fun v5 => (De s2.2 (A8.mk u3.Token v5 s2.2.Attempt 0 (Ee.mk 0 0 0 0 0 0 0 0))).bind fun v6 => some (.cont ((wI (s2.1 + 1)),v6))) else (some (.cont ((wI (s2.1 + 1)),s2.2))))) else (some (.brk s2.2))
def Ch (a0 : Ad) : Option Ad :=
 (Ec (Bz a0) fuel (0,a0)).bind fun e7 => Jv e7
theorem Dt {a0 : Ad} {r : Ad} (h : Ch a0 = some r) : Bl Tryz.prog 68 [.agg (el a0)] (· = .s (.agg (el r))) := by
 unfold Ch at h
 refine Au Tryz.func68 rfl (nt := 39) rfl (Nbl rfl) ?_
 intro w0 S0
 refine csr (Ih rfl rfl (Bw rfl O1 (Al (Bp (csr (fl Lw Zp rfl rfl rfl rfl rfl rfl (sv rfl (Aq Vl rfl) (rm 1 rfl (Al (Gg (Ad) (fun b1 => [(1,.s (.one (.lp 0 0))),(2,.s (.one (.lp 1 0)))]) (fun b1 => [.box (el b1),.box Zba]) (fun b1 => Jv b1 = some r) (fun _ _ => A6 rfl) (fun _ _ => Ar rfl) (fun _ _ => Nbl rfl) (fun b1 h => ?_) ?_))))))))))
 ·unfold Jv at h
  refine csr (sv rfl (Aa Lw rfl) (An Ax6 rfl rfl rfl rfl (Nbl rfl) (Bs [.box ((el b1).set 6 (Znl)),.box Zba] rfl (Al (csr (sv rfl (Aa G8 rfl) (An sz3 rfl rfl rfl rfl (Nbl rfl) (Bs [.box ((el {b1 with Phase := 11}).set 6 (Znl)),.box Zba] rfl (Al (csr (sv rfl (Aa Sf rfl) (An sz3 rfl rfl rfl rfl (Nbl rfl) (Bs [.box ((el {b1 with Phase := 11,Left := 0}).set 6 (Znl)),.box Zba] rfl (Al (csr (sv rfl (Ai B6 rfl (.lp _ _ _ rfl) (Nbl rfl)) (An E2 rfl rfl rfl rfl (Nbl rfl) (Bs [.box ((el {b1 with Phase := 11,Left := 0}).set 6 (Znl)),.box ((el {b1 with Phase := 11,Left := 0}).set 6 (Znl))] rfl (Al (Bg ?_))))))))))))))))))))
  cases SJ h
  refine ⟨Or.inr rfl,_,_,_,(Aj (Cu.agg _ _ _ _ _ B6 rfl (.lp _ _ _ rfl) (Nbl rfl)) As),(O4 rfl),?_⟩
  rfl
 ·skip
  refine B3 ?_
  obtain ⟨x2,hx2,ho2⟩ := Ag h
  refine Ct (G := Nat × (Int × Ad)) (fun g => [(1,.s (.one (.lp 0 0))),(2,.s (.one (.lp 1 0))),(6,.s (.one (.sl a0.Tasks.length (a0.Tasks.flatMap Ap)))),(7,.s (.one (Ii6 (a0.Tasks.length : Int)))),(8,.s (.one (Ii6 g.2.1)))]) (fun g => [.box (el g.2.2),.box Zba]) (fun g => Ec (Bz a0) g.1 g.2 = some x2) (fun g => g.1) (fuel,(0,a0)) hx2 ⟨rfl,rfl,rfl,rfl,rfl,trivial⟩ [] rfl (fun _ _ => A6 rfl) (fun _ _ => Ar rfl) (fun _ _ => Nbl rfl) ?_
  clear hx2 h
  rintro ⟨n2,s2⟩ h
  obtain ⟨n2,y2,rfl,h,hk2⟩ := Fj h
  unfold Bz at h
  refine csr (sv rfl (Ci rfl rfl) (Al (Bp (ccI h rfl (fun h => ?_) (fun h => ?_)))))
  ·refine Bi (Ac (Bp (B3 (csr (sv rfl (Bc rfl) ?_)))))
   obtain ⟨u3,hu3,h⟩ := Ag h
   refine sv rfl (Db (f := Ap) Vl (fun _ => rfl) rfl rfl rfl rfl hu3) ?_
   refine sv rfl (Cb (ys := [Ii6 u3.Token,.b u3.Prog.RO,.sl u3.Prog.Ops.length (u3.Prog.Ops.flatMap Ce)]) Aqr rfl (.cp _) rfl rfl) (Bw rfl Asb (rm 1 rfl (An Au2 rfl rfl rfl rfl (Nbl rfl) (Bs [.box (el s2.2),.box Zba,.box (el u3)] rfl (Al (B3 (csr (rm 1 rfl (sv rfl (Dr rfl rfl) (rm 1 rfl (Al (ccI h rfl (fun h => ?_) (fun h => ?_)))))))))))))
   ·refine Az (sv rfl (Ai B6 rfl (.lp _ _ _ rfl) (Nbl rfl)) (fl Sx ti3 rfl rfl rfl rfl rfl rfl (sv rfl (Be Asq Ax1 (Ah rfl (Ah rfl Ay)) (.cons _ _ _ _ _ _ _ rfl rfl (Nbl rfl) (.cons _ _ _ _ _ _ _ rfl rfl (Nbl rfl) (.nil _)))) ?_)))
    obtain ⟨v4,hv4,h⟩ := Ag h
    refine Av rfl Aw1 (Ab rfl (Ab rfl Af)) (Ao rfl) (Iz hv4) (An E2 rfl rfl rfl rfl (Nbl rfl) (Bs [.box (el v4),.box Zba,.box (el u3)] rfl (Mp (Aw (Aw (Ac (Az (sv rfl (B4 rfl rfl) (rm 1 rfl (Al ?_))))))))))
    cases SJ h
    exact ⟨(n2,((wI (s2.1 + 1)),v4)),_,hk2,⟨rfl,rfl,rfl,rfl,rfl,trivial⟩,rfl,Nat.lt_succ_self _⟩
   ·refine csr (fl G8 ti3 rfl rfl rfl rfl rfl rfl (sv rfl (Bt rfl rfl) (rm 1 rfl (Al (ccI h rfl (fun h => ?_) (fun h => ?_))))))
    ·obtain ⟨v5,hv5,h⟩ := Ag h
     obtain ⟨v6,hv6,h⟩ := Ag h
     refine Jj [9] [0,0,2,0,8,0,32,126,255,511] [[.box (el s2.2),.box Zba,.box (el u3)],[.box (el v6),.box Zba,.box (el u3)]] (by kernel_rfl) Kd (by kernel_rfl) (by decide) rfl rfl rfl rfl ?_
     refine ev (Bb 0 rfl rfl) rfl rfl (Ai B6 rfl (.lp _ _ _ rfl) (Nbl rfl)) (ev (Bb 0 rfl rfl) rfl rfl (Aa Sx rfl) (ev (Bb 0 rfl rfl) rfl rfl (Ae ti3 rfl (.lp _ _ _ rfl) rfl) (ev (Bb 0 rfl rfl) rfl rfl (Ai B6 rfl (.lp _ _ _ rfl) (Nbl rfl)) (ed (Bb 0 rfl rfl) rfl rfl (Cm Az7 (Ab rfl Af) rfl (Rb hv5)) (ev (Bb 0 rfl rfl) rfl rfl (Aa Pd rfl) (ev (Bb 0 rfl rfl) rfl rfl (Ae ti3 rfl (.lp _ _ _ rfl) rfl) (ev (Bb 0 rfl rfl) rfl rfl (Be Asq Ax1 (Ah rfl (Ah rfl (Ah rfl Ay))) (.cons _ _ _ _ _ _ _ rfl rfl (Nbl rfl) (.cons _ _ _ _ _ _ _ rfl rfl (Nbl rfl) (.cons _ _ _ _ _ _ _ rfl rfl (Nbl rfl) (.nil _))))) (ed (Bb 0 rfl rfl) rfl rfl (Cm Aw1 (Ab rfl (Ab rfl Af)) rfl (Iz hv6)) (ee0 0 rfl rfl rfl rfl (fun ζ => ?_) ?_)))))))))
     ·refine An E2 rfl rfl rfl rfl (Nbl rfl) (Bs [.box (el v6),.box Zba,.box (el u3)] rfl ?_)
      exact Sv
     refine Z1 (Aw (Aw (Ac (Az (sv rfl (B4 rfl rfl) (rm 1 rfl (Al ?_)))))))
     cases SJ h
     exact ⟨(n2,((wI (s2.1 + 1)),v6)),_,hk2,⟨rfl,rfl,rfl,rfl,rfl,trivial⟩,rfl,Nat.lt_succ_self _⟩
    ·refine Bi (Aw (Aw (Ac (Az (sv rfl (B4 rfl rfl) (rm 1 rfl (Al ?_)))))))
     cases SJ h
     exact ⟨(n2,((wI (s2.1 + 1)),s2.2)),_,hk2,⟨rfl,rfl,rfl,rfl,rfl,trivial⟩,rfl,Nat.lt_succ_self _⟩
  ·refine Kk (Bd (Bd (B8 (Ac ?_))))
   cases SJ h
   obtain rfl : _ = x2 := hk2
   exact ⟨s2.2,_,ho2,⟨rfl,rfl,trivial⟩,rfl⟩
def E6 (a0 : Ad) : Option Bool :=
 some (decide (60000 < (a0.Out.length : Int)))
theorem Ni {a0 : Ad} {r : Bool} (h : E6 a0 = some r) : Bl Tryz.prog 67 [.agg (el a0)] (· = .s (.one (.b r))) := by
 unfold E6 at h
 refine Au Tryz.func67 rfl (nt := 7) rfl (Nbl rfl) ?_
 intro w0 S0
 refine csr (Ih rfl rfl (rm 1 rfl (Al (csr (fl Rt I9 rfl rfl rfl rfl rfl rfl (sv rfl (Aq Mi rfl) (sv rfl (Dr rfl rfl) (rm 1 rfl (Al (Bg ?_))))))))))
 cases SJ h
 exact dnT rfl rfl rfl rfl
theorem Wc {a0 : D3} : Bl Tryz.prog 88 [.agg (el a0)] (· = .s (.one (.fn 110 [] [.cp [Ii6 a0.Wait,Ii6 a0.Most,Ii6 a0.Tries]]))) := by
 refine Au Tryz.func88 rfl (nt := 4) rfl (Nbl rfl) ?_
 intro w0 S0
 refine csr (Aq1 rfl rfl rfl (rm 1 rfl (Al (csr (sv rfl (Xi Tw (Uy rfl rfl Tw)) (rm 1 rfl (Al (Bg (⟨Or.inr rfl,_,_,_,(Aj (Cu.tmp _ _ rfl) As),(Ao rfl),?_⟩)))))))))
 rfl
def Sj (most : Int) : Nat → Int → Int → List (Int × Int)
 | 0,_,_ => []
 | n + 1,i,d => (i,d) :: Sj most n (wI (i + 1)) (if most < (wI (2 * d)) then most else (wI (2 * d)))
def Ams (p : D3) : Option (List (Int × Int)) :=
 (K9 p).bind fun b => some (if b = true then Sj p.Most p.Tries.toNat 0 p.Wait else [])
theorem Wf (most : Int) : ∀ n i d,(Sj most n i d).length = n
 | 0,_,_ => rfl
 | n + 1,i,d => by simp [Sj,Wf most n]
theorem An5 {p : D3} (h : K9 p = some true) : 1 ≤ p.Wait ∧ p.Wait ≤ 1048576 ∧ p.Wait ≤ p.Most ∧ p.Most ≤ 1073741824 ∧ 0 ≤ p.Tries ∧ p.Tries ≤ 100 := by
 unfold K9 at h
 repeat' split at h
 all_goals simp_all
theorem Ap0 {p : D3} {L : List (Int × Int)} (h : Ams p = some L) : Anm Tryz.prog 110 [.cp [Ii6 p.Wait,Ii6 p.Most,Ii6 p.Tries]] (L.map fun x => (.one (Ii6 x.1),.one (Ii6 x.2))) := by
 unfold Ams at h
 obtain ⟨b,hb,h⟩ := Ag h
 cases SJ h
 refine Al4 Tryz.func110 rfl rfl (nt := 26) rfl (Nbl rfl) ?_
 intro l J Jx hJ hJx hs
 refine Alw (Alw ?_)
 refine Y1 (hJ 0) (by rfl) (fun w0 S0 => ?_)
 refine sv rfl (Cb (ys := [Ii6 p.Wait,Ii6 p.Most,Ii6 p.Tries]) Aos rfl (.cp _) rfl rfl) (Av rfl Ayy (Ab rfl Af) (Ao rfl) (Sg hb) (sv rfl (B5 rfl) (Mp ⟨rfl,rfl,V3 (Xx ?_)⟩)))
 refine Ano rfl (fun hc => ?_) (fun hc => ?_)
 ·have hb' : b = false := by simpa using hc
  subst hb'
  exact Ay2 (And.intro (Or.inr rfl) (Or.inl rfl))
 have hb' : b = true := by simpa using hc
 subst hb'
 obtain ⟨h1,h2,h3,h4,h5,h6⟩ := An5 hb
 refine Aqz (Xx ?_)
 refine Alw ?_
 refine Y1 (hJ 0) (by rfl) (fun w0 S0 => ?_)
 refine sv rfl (Bj Acr rfl) (sv rfl (Ae ti3 rfl (.cp _) rfl) (rm 1 rfl (Mp ⟨rfl,rfl,V3 (Xx ?_)⟩)))
 refine Alw ?_
 refine Y1 (hJ 0) (by rfl) (fun w0 S0 => ?_)
 refine sv rfl (Bj Aak rfl) (sv rfl (Ae ti3 rfl (.cp _) rfl) (rm 1 rfl (Mp ⟨rfl,rfl,V3 (Xx ?_)⟩)))
 refine Ao2 ?_
 let cap : Lf := .cp [Ii6 p.Wait,Ii6 p.Most,Ii6 p.Tries]
 refine Awe (G := Nat × Int × Int) (fun g => [(0,.s (.one (.raw (.func (.yield l) #[] #[])))),(1,.s (.one (.cp [Ii6 p.Wait,Ii6 p.Most,Ii6 p.Tries]))),(3,.s (.one (Ii6 g.2.2))),(11,.s (.one (Ii6 p.Tries))),(12,.s (.one (Ii6 g.2.1)))])
  (fun g => J g.1) (fun g => 0 ≤ g.2.1 ∧ g.2.1 ≤ p.Tries ∧ (Sj p.Most p.Tries.toNat 0 p.Wait).drop g.1 = Sj p.Most (p.Tries - g.2.1).toNat g.2.1 g.2.2 ∧ g.1 + (p.Tries - g.2.1).toNat = p.Tries.toNat)
  (fun g => (p.Tries - g.2.1).toNat) (0,0,p.Wait) ⟨Int.le_refl _,h5,by simp,by simp⟩ ⟨rfl,rfl,rfl,rfl,rfl,trivial⟩ rfl (fun _ _ => A6 rfl) ?_
 rintro ⟨k,i,d⟩ ⟨g1,g2,g3,g4⟩
 simp only at g1 g2 g3 g4
 refine Alw ?_
 refine Y1 (hJ k) (by rfl) (fun w0 S0 => ?_)
 refine sv rfl (Ci rfl rfl) (Mp ⟨rfl,rfl,V3 (Xx ?_)⟩)
 refine Alw (Ano rfl (fun hc => ?_) (fun hc => ?_))
 rotate_left
 ·have hc' : ¬ i < p.Tries := by simpa using hc
  refine Awk (And.intro (Or.inl rfl) (Or.inl ?_))
  show J k = J _
  rw [List.length_map,if_pos rfl,Wf]
  congr 1
  omega
 have hlt : i < p.Tries := by simpa using hc
 refine Aqz (Xx ?_)
 have hn : (p.Tries - i).toNat = (p.Tries - (i + 1)).toNat + 1 := by omega
 rw [hn] at g3
 have hget : (Sj p.Most p.Tries.toNat 0 p.Wait)[k]? = some (i,d) := by
  have := congrArg (fun l => l[0]?) g3
  simpa [Sj] using this
 have hwi : wI (i + 1) = i + 1 := by
  show IntKind.i64.wrap (i + 1) = i + 1
  exact Anh (by omega) (by omega)
 have hdrop : (Sj p.Most p.Tries.toNat 0 p.Wait).drop (k + 1) = Sj p.Most (p.Tries - (i + 1)).toNat (i + 1) (if p.Most < (wI (2 * d)) then p.Most else (wI (2 * d))) := by
  have := congrArg (fun l => l.drop 1) g3
  simpa [Sj,hwi,Nat.add_comm] using this
 refine Alw (Ao2 (Alw ?_))
 refine Y1 (hJ k) (by rfl) (fun w0 S0 => ?_)
 refine rm 2 rfl (Mp ⟨rfl,rfl,V3 (Xx ?_)⟩)
 refine Alw (Alw (Akl ?_))
 refine Al2 (l1 := [_,_,_]) (hJ k) (by rfl) (fun w0 S0 => ?_)
 refine rm 3 rfl (Mp ⟨rfl,rfl,?_⟩)
 refine Amz rfl rfl (fun _ _ _ _ _ => rfl) hs rfl rfl rfl rfl (x := .one (Ii6 i)) (y := .one (Ii6 d)) (by rw [List.getElem?_map,if_pos rfl,hget]; rfl) ?_ ?_
 rotate_left
 ·
  refine Al2 (l1 := [_]) (l2 := []) hJx (by rfl) (fun w0 S0 => ?_)
  refine sv rfl (B5 rfl) (Mp ⟨rfl,rfl,V3 (Xx ?_)⟩)
  refine Ano rfl (fun _ => ?_) (fun hx => Bool.noConfusion hx)
  exact Ay2 (And.intro (Or.inr rfl) (Or.inr rfl))
 refine Al2 (l1 := [_]) (l2 := []) (hJ (k + 1)) (by rfl) (fun w0 S0 => ?_)
 refine sv rfl (B5 rfl) (Mp ⟨rfl,rfl,V3 (Xx ?_)⟩)
 refine Ano rfl (fun hx => Bool.noConfusion hx) (fun _ => ?_)
 refine Aqz (Xx ?_)
 refine Y1 (hJ (k + 1)) (by rfl) (fun w0 S0 => ?_)
 refine rm 1 rfl (sv rfl (Abf rfl rfl) (sv rfl (Bj Af3 rfl) (sv rfl (Ae ti3 rfl (.cp _) rfl) (sv rfl (Vf rfl rfl) (rm 1 rfl (Mp ⟨rfl,rfl,V3 (A0m (Xx ?_))⟩))))))
 refine Y1 (hJ (k + 1)) (by rfl) (fun w0 S0 => ?_)
 refine sv rfl (B4 rfl rfl) (rm 1 rfl (Mp ⟨rfl,rfl,V3 (Xx ?_)⟩))
 refine ⟨(k + 1,wI (i + 1),(if p.Most < (wI (2 * d)) then p.Most else (wI (2 * d)))),⟨?_,?_,?_,?_⟩,⟨rfl,rfl,rfl,rfl,rfl,trivial⟩,rfl,?_⟩
 ·show 0 ≤ wI (i + 1)
  rw [hwi]; omega
 ·show wI (i + 1) ≤ p.Tries
  rw [hwi]; omega
 ·show List.drop (k + 1) _ = Sj p.Most (p.Tries - wI (i + 1)).toNat (wI (i + 1)) _
  rw [hwi]
  exact hdrop
 ·show k + 1 + (p.Tries - wI (i + 1)).toNat = _
  rw [hwi]; omega
 ·show (p.Tries - wI (i + 1)).toNat < (p.Tries - i).toNat
  rw [hwi]; omega
def Jc (a1 : Int) (s1 : Int × Bool) (x1 : Int × Int) : Option ((Int × Bool) ⊕ (Nat × (Int × Bool))) :=
 if (decide (x1.1 = a1)) then (some (.inr (0,(x1.2,true)))) else (some (.inl (s1.1,s1.2)))
def N3 (s2 : Int × Bool) : Option (Int × Bool) :=
 some (0,false)
def Ny (s3 : Int × Bool) : Option (Int × Bool) :=
 some (s3.1,s3.2)
def Hg (a0 : D3) (a1 : Int) : Option (Int × Bool) :=
 (Ams a0).bind fun L1 => (V9 (Jc a1) L1 (0,false)).bind fun e => An8 N3 Ny (fun _ _ => none) e
theorem Mg {a0 : D3} {a1 : Int} {r : Int × Bool} (h : Hg a0 a1 = some r) : Bl Tryz.prog 69 [.agg (el a0),.one (Ii6 a1)] (· = .tup [.one (Ii6 r.1),.one (.b r.2)]) := by
 unfold Hg at h
 refine Ag2 Tryz.func69 rfl (nt := 16) rfl (Nbl rfl) ?_
 intro w0 S0
 refine Apu (U2 rfl (fun w0 S0 X0 m0 H0 => ?_))
 refine Aq1 rfl rfl rfl (Aq1 rfl rfl rfl (Bw rfl zi3 (Bw rfl zi4 (Al (Apu (Apu (U2 rfl (fun w0 S0 X0 m0 H0 => ?_))))))))
 refine sv rfl (Cb (ys := [Ii6 a0.Wait,Ii6 a0.Most,Ii6 a0.Tries]) Aos rfl (.cp _) rfl rfl) (Av rfl A0o (Ab rfl Af) (Ao rfl) Wc (Al (Aox ?_)))
 obtain ⟨L1,hL1,h⟩ := Ag h
 obtain ⟨e1,he1,h⟩ := Ag h
 refine Arx (Jc a1) L1 (fun x1 => .one (Ii6 x1.1)) (fun x1 => .one (Ii6 x1.2)) (fun s1 => [.box [Ii6 s1.1],.box [.b s1.2]]) (0,false) he1 rfl Aw7 rfl (Ap0 hL1) rfl rfl rfl (fun _ => rfl) (fun _ => Ar rfl) ?_ ?_ ?_ ?_
 ·clear h
  intro x1 s1 y1 l h w0 S0 X0 H0
  unfold Jc at h
  refine Apu (U2 rfl (fun w0 S0 X0 m0 H0 => ?_))
  refine rm 1 rfl (Al (U2 rfl (fun w0 S0 X0 m0 H0 => ?_)))
  refine rm 1 rfl (Al (fun w0 S0 X0 H0 => ?_))
  refine Aox (Apu (U2 rfl (fun w0 S0 X0 m0 H0 => ?_)))
  refine rm 1 rfl (sv rfl (Ae ti3 rfl (.cp _) rfl) (sv rfl (Bn rfl rfl) (Al (Awn rfl (fun hc => ?_) (fun hc => ?_)))))
  ·replace h := Br hc h
   clear hc
   refine Apu (U2 rfl (fun w0 S0 X0 m0 H0 => ?_))
   refine rm 1 rfl (An sz3 rfl rfl rfl rfl (Nbl rfl) (Bs [.box [Ii6 x1.2],.box [.b s1.2]] rfl (An sz4 rfl rfl rfl rfl (Nbl rfl) (Bs [.box [Ii6 x1.2],.box [.b true]] rfl (Al (Aza (A2 ?_)))))))
   cases SJ h
   exact ⟨(x1.2,true),_,rfl,rfl⟩
  ·replace h := Bq hc h
   clear hc
   refine Axf (Aw ?_)
   cases SJ h
   exact ⟨(s1.1,s1.2),_,rfl,rfl⟩
 ·intro s2 hs
  obtain rfl := hs
  replace h : N3 s2 = some r := h
  unfold N3 at h
  refine Aw (Ac (Apu (U2 rfl (fun w0 S0 X0 m0 H0 => ?_))))
  refine An sz3 rfl rfl rfl rfl (Nbl rfl) (Bs [.box [Ii6 0],.box [.b s2.2]] rfl (An sz4 rfl rfl rfl rfl (Nbl rfl) (Bs [.box [Ii6 0],.box [.b false]] rfl (Al (Aza ?_)))))
  cases SJ h
  refine ⟨Or.inr rfl,_,_,_,(Aj (Cu.one _ _ _ _ _ ti3 rfl (.lp _ _ _ rfl) rfl) (Aj (Cu.one _ _ _ _ _ ti4 rfl (.lp _ _ _ rfl) rfl) As)),(Ao rfl),?_⟩
  rfl
 ·intro s3 hs
  obtain rfl := hs
  replace h : Ny s3 = some r := h
  unfold Ny at h
  refine A2 (Ak ?_)
  cases SJ h
  refine ⟨Or.inr rfl,_,_,_,(Aj (Cu.one _ _ _ _ _ ti3 rfl (.lp _ _ _ rfl) rfl) (Aj (Cu.one _ _ _ _ _ ti4 rfl (.lp _ _ _ rfl) rfl) As)),(Ao rfl),?_⟩
  rfl
 ·intro id s hs
  obtain rfl := hs
  replace h : none = some r := h
  cases h
def Ik (a0 : List UInt8) (a1 : Bool) : Option (List UInt8) :=
 if a1 then ((Et a0 (1#64) 1).bind fun v1 => some v1) else ((Et a0 (0#64) 1).bind fun v2 => some v2)
theorem Oj {a0 : List UInt8} {a1 : Bool} {r : (List UInt8)} (h : Ik a0 a1 = some r) : Bl Tryz.prog 42 [.one (.sl a0.length (a0.flatMap eU8)),.one (.b a1)] (· = .s (.one (.sl r.length (r.flatMap eU8)))) := by
 unfold Ik at h
 refine Au Tryz.func42 rfl (nt := 10) rfl (Nbl rfl) ?_
 intro w0 S0
 refine csr (rm 1 rfl (Al (Bp (csr (rm 1 rfl (Al (ccI h rfl (fun h => ?_) (fun h => ?_))))))))
 ·refine csr (sv rfl (Bc rfl) ?_)
  obtain ⟨v1,hv1,h⟩ := Ag h
  refine Av rfl Adz (Ab rfl (Ab rfl (Ab rfl Af))) (Ao rfl) (Ez hv1) (rm 1 rfl (Al (Bg (Ak ?_))))
  cases SJ h
  exact dnT rfl rfl rfl rfl
 ·refine Bi (Ac (csr (sv rfl (Bc rfl) ?_)))
  obtain ⟨v2,hv2,h⟩ := Ag h
  refine Av rfl Adz (Ab rfl (Ab rfl (Ab rfl Af))) (Ao rfl) (Ez hv2) (rm 1 rfl (Al (Bg ?_)))
  cases SJ h
  exact dnT rfl rfl rfl rfl
def Gk (a0 : List UInt8) (a1 : List UInt8) : Option (List UInt8) :=
 (cut a1 0 (if 65535 < (a1.length : Int) then 65535 else (a1.length : Int))).bind fun c1 => (Et a0 (BitVec.ofInt 64 (c1.length : Int)) 2).bind fun v2 => (E1 [v2,c1]).bind fun v3 => some v3
theorem Ji {a0 : List UInt8} {a1 : List UInt8} {r : (List UInt8)} (h : Gk a0 a1 = some r) : Bl Tryz.prog 41 [.one (.sl a0.length (a0.flatMap eU8)),.one (.sl a1.length (a1.flatMap eU8))] (· = .s (.one (.sl r.length (r.flatMap eU8)))) := by
 unfold Gk at h
 refine Au Tryz.func41 rfl (nt := 18) rfl (Nbl rfl) ?_
 intro w0 S0
 refine csr (rm 1 rfl (Al (csr (rm 2 rfl (sv rfl (Aq Mi rfl) (sv rfl (Vf rfl rfl) ?_))))))
 obtain ⟨c1,hc1,h⟩ := Ag h
 refine sv rfl (Ut (f := eU8) (lo := 0) (hi := (if 65535 < (a1.length : Int) then 65535 else (a1.length : Int))) Mi (fun _ => rfl) rfl rfl rfl T1 (H8 rfl (Int.le_trans (L9 hc1).1.1 (L9 hc1).1.2.1)) hc1) ?_
 refine rm 1 rfl (Al (csr (rm 2 rfl (sv rfl (Aq Mi rfl) (sv rfl (Dc rfl Tryz.underlying3 Tryz.underlying112 rfl) ?_)))))
 obtain ⟨v2,hv2,h⟩ := Ag h
 refine Av rfl Adz (Ab rfl (Ab rfl (Ab rfl Af))) (Ao rfl) (Ez hv2) (sv rfl (Bc rfl) ?_)
 refine Vi (out := ([v2,c1] : List (List UInt8)).flatMap (eL eU8)) rfl Tryz.underlying124 Ar8 (Ah rfl (Ah rfl Ay)) (.cons _ _ _ _ _ _ _ rfl rfl (Nbl rfl) (.cons _ _ _ _ _ _ _ rfl rfl (Nbl rfl) (.nil _))) rfl (by decide) ?_
 refine Ab7 16 rfl (by (repeat' first | exact Kf.nil _ | apply Kf.cons | apply Ke.one | apply Ke.agg | exact Em.nil | exact Em.ls _ _ _ _ _ _ rfl (A7 (f := (eL eU8)) (fun _ => rfl) ([v2,c1] : List (List UInt8))).symm | exact Em.ls _ _ _ _ _ _ rfl (A7 (f := (eL eU8)) (fun _ => rfl) _).symm | exact Em.id _ rfl | exact Dv.nil _ | apply Dv.cons)) ?_
 obtain ⟨v3,hv3,h⟩ := Ag h
 refine Da (x' := .s (.one (.ls 1 v3.length))) (M' := [.arr 33 1 ([v2,c1].flatMap (eL eU8)).length ([v2,c1].flatMap (eL eU8)),.arr 5 1 0 (v3.flatMap eU8)]) [] rfl Au9 (.func _) (Ab rfl Af) (Jn hv3) rfl rfl (by decide) rfl rfl rfl ?_
 refine rm 1 rfl (Al (Bg ?_))
 cases SJ h
 refine ⟨Or.inr rfl,_,_,_,(Aj (Cu.tmp _ _ rfl) As),(by (repeat' first | exact Kf.nil _ | apply Kf.cons | apply Ke.one | apply Ke.agg | exact Em.nil | exact Em.ls _ _ _ _ _ _ rfl (A7 (f := (eL eU8)) (fun _ => rfl) _).symm | exact Em.ls _ _ _ _ _ _ rfl (A7 (f := eU8) (fun _ => rfl) _).symm | exact Em.id _ rfl | exact Dv.nil _ | apply Dv.cons)),?_⟩
 rfl
def I7 (b10 : (List UInt8)) : Option ((List UInt8) × Int) :=
 some (b10,0)
def Ic (a0 : B7) (v2 : Hh) (b9 : (List UInt8)) : Option ((List UInt8) × Int) :=
 if v2.rng_ then ((Gk b9 a0.Rng.Lo).bind fun v11 => (Ik v11 a0.Rng.Open).bind fun v12 => (Gk v12 a0.Rng.Hi).bind fun v13 => I7 v13) else (I7 b9)
def Ig (a0 : B7) (v2 : Hh) (b8 : (List UInt8)) : Option ((List UInt8) × Int) :=
 if v2.val_ then ((Gk b8 a0.Val).bind fun v14 => Ic a0 v2 v14) else (Ic a0 v2 b8)
def H9 (a0 : B7) (v2 : Hh) (b7 : (List UInt8)) : Option ((List UInt8) × Int) :=
 if v2.key_ then ((Gk b7 a0.Key).bind fun v15 => Ig a0 v2 v15) else (Ig a0 v2 b7)
def Ia (a0 : B7) (v2 : Hh) (b6 : (List UInt8)) : Option ((List UInt8) × Int) :=
 if v2.ro_ then ((Ik b6 a0.RO).bind fun v16 => H9 a0 v2 v16) else (H9 a0 v2 b6)
def Fx (a0 : B7) (v2 : Hh) (b5 : (List UInt8)) : Option ((List UInt8) × Int) :=
 if v2.attempt_ then ((Et b5 (BitVec.ofInt 64 a0.Attempt) 2).bind fun v17 => Ia a0 v2 v17) else (Ia a0 v2 b5)
end Go.Proofs.YtbjckaahoacbfaaGreatDoor.Abs
