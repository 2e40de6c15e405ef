/-
 t
-/
import Derived.Test.YtphgpfgibpgfiaaGreatSAbsC
import Derived.Test.YtphgpfgibpgfiaaGreatProg
set_option linter.unusedVariables false
set_option linter.unusedSimpArgs false
namespace Go.Proofs.YtphgpfgibpgfiaaGreat.Abs
open Go.RowKit Go.Proofs
set_option maxRecDepth 100000
structure Af where
 Key : List UInt8
 Val : List UInt8
 Del : Bool
def Ac (x : Af) : List Lf := [.sl x.Key.length (x.Key.flatMap eU8), .sl x.Val.length (x.Val.flatMap eU8), .b x.Del]
structure B2 where
 L : List Af
def Ab1 (x : B2) : List Lf := [.sl x.L.length (x.L.flatMap Ac)]
structure Aw where
 Key : List UInt8
 Val : List UInt8
def A2 (x : Aw) : List Lf := [.sl x.Key.length (x.Key.flatMap eU8), .sl x.Val.length (x.Val.flatMap eU8)]
structure Ar where
 Lo : List UInt8
 Hi : List UInt8
 Open : Bool
def A0 (x : Ar) : List Lf := [.sl x.Lo.length (x.Lo.flatMap eU8), .sl x.Hi.length (x.Hi.flatMap eU8), .b x.Open]
structure Ca where
 Token : Int
 Snap : Int
 Ts : Int
 Reads : List Ar
 Writes : List Af
def B4 (x : Ca) : List Lf := [.i .i64 x.Token, .i .i64 x.Snap, .i .i64 x.Ts, .sl x.Reads.length (x.Reads.flatMap A0), .sl x.Writes.length (x.Writes.flatMap Ac)]
structure Na where
 What : Int
 A : Int
 B : Int
 N : Int
 Key : List UInt8
 Rng : Ar
def Md (x : Na) : List Lf := [.i .i64 x.What, .i .i64 x.A, .i .i64 x.B, .i .i64 x.N, .sl x.Key.length (x.Key.flatMap eU8), .sl x.Rng.Lo.length (x.Rng.Lo.flatMap eU8), .sl x.Rng.Hi.length (x.Rng.Hi.flatMap eU8), .b x.Rng.Open]
structure Cb where
 RO : Bool
 Ops : List Na
def Z0 (x : Cb) : List Lf := [.b x.RO, .sl x.Ops.length (x.Ops.flatMap Md)]
structure C2 where
 R0 : Int
 R1 : Int
 R2 : Int
 R3 : Int
 R4 : Int
 R5 : Int
 R6 : Int
 R7 : Int
def Vs (x : C2) : List Lf := [.i .i64 x.R0, .i .i64 x.R1, .i .i64 x.R2, .i .i64 x.R3, .i .i64 x.R4, .i .i64 x.R5, .i .i64 x.R6, .i .i64 x.R7]
structure Ep where
 Tx : Ca
 Prog : Cb
 Regs : C2
def Ee (x : Ep) : List Lf := [.i .i64 x.Tx.Token, .i .i64 x.Tx.Snap, .i .i64 x.Tx.Ts, .sl x.Tx.Reads.length (x.Tx.Reads.flatMap A0), .sl x.Tx.Writes.length (x.Tx.Writes.flatMap Ac), .b x.Prog.RO, .sl x.Prog.Ops.length (x.Prog.Ops.flatMap Md), .i .i64 x.Regs.R0, .i .i64 x.Regs.R1, .i .i64 x.Regs.R2, .i .i64 x.Regs.R3, .i .i64 x.Regs.R4, .i .i64 x.Regs.R5, .i .i64 x.Regs.R6, .i .i64 x.Regs.R7]
structure As where
 Token : Int
 Snap : Int
 Ts : Int
 Reads : List Ar
 Writes : List Af
def A5 (x : As) : List Lf := [.i .i64 x.Token, .i .i64 x.Snap, .i .i64 x.Ts, .sl x.Reads.length (x.Reads.flatMap A0), .sl x.Writes.length (x.Writes.flatMap Ac)]
structure Cz where
 What : Int
 A : Int
 B : Int
 N : Int
 Key : List UInt8
 Rng : Ar
def Eu (x : Cz) : List Lf := [.i .i64 x.What, .i .i64 x.A, .i .i64 x.B, .i .i64 x.N, .sl x.Key.length (x.Key.flatMap eU8), .sl x.Rng.Lo.length (x.Rng.Lo.flatMap eU8), .sl x.Rng.Hi.length (x.Rng.Hi.flatMap eU8), .b x.Rng.Open]
structure Cn where
 RO : Bool
 Ops : List Cz
def Aea (x : Cn) : List Lf := [.b x.RO, .sl x.Ops.length (x.Ops.flatMap Eu)]
structure B0 where
 Tx : As
 Prog : Cn
 Regs : C2
def Co (x : B0) : List Lf := [.i .i64 x.Tx.Token, .i .i64 x.Tx.Snap, .i .i64 x.Tx.Ts, .sl x.Tx.Reads.length (x.Tx.Reads.flatMap A0), .sl x.Tx.Writes.length (x.Tx.Writes.flatMap Ac), .b x.Prog.RO, .sl x.Prog.Ops.length (x.Prog.Ops.flatMap Eu), .i .i64 x.Regs.R0, .i .i64 x.Regs.R1, .i .i64 x.Regs.R2, .i .i64 x.Regs.R3, .i .i64 x.Regs.R4, .i .i64 x.Regs.R5, .i .i64 x.Regs.R6, .i .i64 x.Regs.R7]
structure Bb where
 PC : Int
 Regs : C2
 Stopped : Bool
def Abi (x : Bb) : List Lf := [.i .i64 x.PC, .i .i64 x.Regs.R0, .i .i64 x.Regs.R1, .i .i64 x.Regs.R2, .i .i64 x.Regs.R3, .i .i64 x.Regs.R4, .i .i64 x.Regs.R5, .i .i64 x.Regs.R6, .i .i64 x.Regs.R7, .b x.Stopped]
structure Ks where
 R0 : Bool
 R1 : Bool
 R2 : Bool
def Abo (x : Ks) : List Lf := [.b x.R0, .b x.R1, .b x.R2]
structure Hs where
 Kind : Int
 Seq : Int
 Token : Int
 Attempt : Int
 RO : Bool
 Key : List UInt8
 Val : List UInt8
 Rng : Ar
def Ais (x : Hs) : List Lf := [.i .i64 x.Kind, .i .i64 x.Seq, .i .i64 x.Token, .i .i64 x.Attempt, .b x.RO, .sl x.Key.length (x.Key.flatMap eU8), .sl x.Val.length (x.Val.flatMap eU8), .sl x.Rng.Lo.length (x.Rng.Lo.flatMap eU8), .sl x.Rng.Hi.length (x.Rng.Hi.flatMap eU8), .b x.Rng.Open]
def Ck (a : C2) (j : Int) (v : Int) : Option C2 :=
 if j = 0 then some ⟨v, a.R1, a.R2, a.R3, a.R4, a.R5, a.R6, a.R7⟩ else if j = 1 then some ⟨a.R0, v, a.R2, a.R3, a.R4, a.R5, a.R6, a.R7⟩ else if j = 2 then some ⟨a.R0, a.R1, v, a.R3, a.R4, a.R5, a.R6, a.R7⟩ else if j = 3 then some ⟨a.R0, a.R1, a.R2, v, a.R4, a.R5, a.R6, a.R7⟩ else if j = 4 then some ⟨a.R0, a.R1, a.R2, a.R3, v, a.R5, a.R6, a.R7⟩ else if j = 5 then some ⟨a.R0, a.R1, a.R2, a.R3, a.R4, v, a.R6, a.R7⟩ else if j = 6 then some ⟨a.R0, a.R1, a.R2, a.R3, a.R4, a.R5, v, a.R7⟩ else if j = 7 then some ⟨a.R0, a.R1, a.R2, a.R3, a.R4, a.R5, a.R6, v⟩ else none
structure Dn where
 base_ : List Aw
 buf_ : B2
def Aby (x : Dn) : List Lf := [.sl x.base_.length (x.base_.flatMap A2), .sl x.buf_.L.length (x.buf_.L.flatMap Ac)]
structure Jb where
 Kind : Int
 Seq : Int
 Code : Int
 N : Int
 Found : Bool
 Val : List UInt8
 List : List Aw
def Adz (x : Jb) : List Lf := [.i .i64 x.Kind, .i .i64 x.Seq, .i .i64 x.Code, .i .i64 x.N, .b x.Found, .sl x.Val.length (x.Val.flatMap eU8), .sl x.List.length (x.List.flatMap A2)]
structure A7 where
 PC : Int
 Regs : C2
 Stopped : Bool
def Ad6 (x : A7) : List Lf := [.i .i64 x.PC, .i .i64 x.Regs.R0, .i .i64 x.Regs.R1, .i .i64 x.Regs.R2, .i .i64 x.Regs.R3, .i .i64 x.Regs.R4, .i .i64 x.Regs.R5, .i .i64 x.Regs.R6, .i .i64 x.Regs.R7, .b x.Stopped]
structure Ej where
 Kind : Int
 Seq : Int
 Token : Int
 Attempt : Int
 RO : Bool
 Key : List UInt8
 Val : List UInt8
 Rng : Ar
def Ai8 (x : Ej) : List Lf := [.i .i64 x.Kind, .i .i64 x.Seq, .i .i64 x.Token, .i .i64 x.Attempt, .b x.RO, .sl x.Key.length (x.Key.flatMap eU8), .sl x.Val.length (x.Val.flatMap eU8), .sl x.Rng.Lo.length (x.Rng.Lo.flatMap eU8), .sl x.Rng.Hi.length (x.Rng.Hi.flatMap eU8), .b x.Rng.Open]
structure El where
 L : List Af
def Ahm (x : El) : List Lf := [.sl x.L.length (x.L.flatMap Ac)]
structure Fj where
 Kind : Int
 Seq : Int
 Code : Int
 N : Int
 Found : Bool
 Val : List UInt8
 List : List Aw
def Adt (x : Fj) : List Lf := [.i .i64 x.Kind, .i .i64 x.Seq, .i .i64 x.Code, .i .i64 x.N, .b x.Found, .sl x.Val.length (x.Val.flatMap eU8), .sl x.List.length (x.List.flatMap A2)]
class EL (α : Type) where
 el : α → List Lf
instance : EL Af := ⟨Ac⟩
instance : EL B2 := ⟨Ab1⟩
instance : EL Aw := ⟨A2⟩
instance : EL Ar := ⟨A0⟩
instance : EL Ca := ⟨B4⟩
instance : EL Na := ⟨Md⟩
instance : EL Cb := ⟨Z0⟩
instance : EL C2 := ⟨Vs⟩
instance : EL Ep := ⟨Ee⟩
instance : EL As := ⟨A5⟩
instance : EL Cz := ⟨Eu⟩
instance : EL Cn := ⟨Aea⟩
instance : EL B0 := ⟨Co⟩
instance : EL Bb := ⟨Abi⟩
instance : EL Ks := ⟨Abo⟩
instance : EL Hs := ⟨Ais⟩
instance : EL Dn := ⟨Aby⟩
instance : EL Jb := ⟨Adz⟩
instance : EL A7 := ⟨Ad6⟩
instance : EL Ej := ⟨Ai8⟩
instance : EL El := ⟨Ahm⟩
instance : EL Fj := ⟨Adt⟩
abbrev Nv : Ar := (Ar.mk ([] : List UInt8) ([] : List UInt8) false)
abbrev I8 : Bb := (Bb.mk 0 (C2.mk 0 0 0 0 0 0 0 0) false)
abbrev Y6 : Hs := (Hs.mk 0 0 0 0 false ([] : List UInt8) ([] : List UInt8) (Ar.mk ([] : List UInt8) ([] : List UInt8) false))
abbrev Gh : A7 := (A7.mk 0 (C2.mk 0 0 0 0 0 0 0 0) false)
abbrev Yp : Ej := (Ej.mk 0 0 0 0 false ([] : List UInt8) ([] : List UInt8) (Ar.mk ([] : List UInt8) ([] : List UInt8) false))
abbrev Znl : Lf := .raw (.slice none 0 0)
abbrev Ii6 (n : Int) : Lf := .i .i64 n
theorem SJ {α : Type} {a b : α} (h : some a = some b) : a = b := Option.some.inj h
abbrev Nfu : Lf := .raw .nilFunc
abbrev Zba : List Lf := [Ii6 0, Ii6 0, Ii6 0, Ii6 0, Ii6 0, Ii6 0, Ii6 0, Ii6 0, Ii6 0, .b false]
abbrev Zbb : List Lf := [Ii6 0, Ii6 0, Ii6 0, Ii6 0, .b false, Znl, Znl, Znl, Znl, .b false]
abbrev Zbc : List Lf := [Ii6 0, Ii6 0, Ii6 0, Ii6 0, .b false, Znl, Znl]
theorem Nbl {n m : Nat} (h : Nat.ble n m = true) : n ≤ m := Nat.le_of_ble_eq_true h
theorem X6 : FI Tryz.prog 88 0 0 := ⟨⟨_, _, 1, Tryz.underlying88, rfl, rfl, by kernel_rfl, by decide⟩⟩
theorem Ry : TI Tryz.prog 26 false 1 := ⟨⟨_, Tryz.underlying26, rfl⟩, by kernel_rfl⟩
theorem Qr : SI Tryz.prog 26 48 3 := ⟨Tryz.underlying26, by kernel_rfl, by decide⟩
theorem Aas : TI Tryz.prog 48 true 3 := ⟨⟨_, Tryz.underlying48, rfl⟩, by kernel_rfl⟩
theorem Ag9 : ZI Tryz.prog 48 ([Znl, Znl, .b false]) := Om (by kernel_rfl)
theorem Amh : (Tryz.prog.info? 48).map (·.size) = some 3 := by kernel_rfl
theorem J3 : FI Tryz.prog 48 0 0 := ⟨⟨_, _, 1, Tryz.underlying48, rfl, rfl, by kernel_rfl, by decide⟩⟩
theorem E6 : TI Tryz.prog 46 false 1 := ⟨⟨_, Tryz.underlying46, rfl⟩, by kernel_rfl⟩
theorem Ku : SI Tryz.prog 46 5 1 := ⟨Tryz.underlying46, by kernel_rfl, by decide⟩
theorem Ao1 : FnI Tryz.prog 89 := ⟨⟨_, Tryz.func89, by kernel_rfl, by kernel_rfl⟩⟩
theorem Q3 : FI Tryz.prog 48 1 1 := ⟨⟨_, _, 1, Tryz.underlying48, rfl, rfl, by kernel_rfl, by decide⟩⟩
theorem Xq : FI Tryz.prog 48 2 2 := ⟨⟨_, _, 1, Tryz.underlying48, rfl, rfl, by kernel_rfl, by decide⟩⟩
theorem ti4 : TI Tryz.prog 4 false 1 := ⟨⟨_, Tryz.underlying4, rfl⟩, by kernel_rfl⟩
theorem Aq3 : FnI Tryz.prog 96 := ⟨⟨_, Tryz.func96, by kernel_rfl, by kernel_rfl⟩⟩
theorem Agk : TI Tryz.prog 88 true 1 := ⟨⟨_, Tryz.underlying88, rfl⟩, by kernel_rfl⟩
theorem Ahb : EI Tryz.prog 46 1 24 [Znl] := Vh (by kernel_rfl) (by decide)
theorem Ah1 : NI Tryz.prog 130 := ⟨.inl ⟨_, Tryz.underlying130⟩⟩
theorem Aqy : FnI Tryz.prog 98 := ⟨⟨_, Tryz.func98, by kernel_rfl, by kernel_rfl⟩⟩
theorem Wf : SI Tryz.prog 130 46 1 := ⟨Tryz.underlying130, by kernel_rfl, by decide⟩
theorem mixed : Tryz.prog.follows .mixedOrders = true := by kernel_rfl
theorem Anq : XI Tryz.prog 123 Extern.BytealgCompare.compare := ⟨⟨Tryz.f123, Tryz.func123, by kernel_rfl, by kernel_rfl, by kernel_rfl, by kernel_rfl⟩⟩
theorem Ao4 : FnI Tryz.prog 108 := ⟨⟨_, Tryz.func108, by kernel_rfl, by kernel_rfl⟩⟩
theorem Ane : FnI Tryz.prog 86 := ⟨⟨_, Tryz.func86, by kernel_rfl, by kernel_rfl⟩⟩
theorem Aog : FnI Tryz.prog 59 := ⟨⟨_, Tryz.func59, by kernel_rfl, by kernel_rfl⟩⟩
theorem P8 : SI Tryz.prog 37 77 2 := ⟨Tryz.underlying37, by kernel_rfl, by decide⟩
theorem Ai0 : TI Tryz.prog 77 true 2 := ⟨⟨_, Tryz.underlying77, rfl⟩, by kernel_rfl⟩
theorem Ajb : ZI Tryz.prog 77 ([Znl, Znl]) := Om (by kernel_rfl)
theorem Ajw : (Tryz.prog.info? 77).map (·.size) = some 2 := by kernel_rfl
theorem Ql : FI Tryz.prog 77 0 0 := ⟨⟨_, _, 1, Tryz.underlying77, rfl, rfl, by kernel_rfl, by decide⟩⟩
theorem Pm : FI Tryz.prog 56 0 0 := ⟨⟨_, _, 1, Tryz.underlying56, rfl, rfl, by kernel_rfl, by decide⟩⟩
theorem U8 : FI Tryz.prog 56 2 2 := ⟨⟨_, _, 1, Tryz.underlying56, rfl, rfl, by kernel_rfl, by decide⟩⟩
theorem Ng : FI Tryz.prog 56 1 1 := ⟨⟨_, _, 1, Tryz.underlying56, rfl, rfl, by kernel_rfl, by decide⟩⟩
theorem Ami : (Tryz.prog.info? 88).map (·.size) = some 1 := by kernel_rfl
theorem Vd : TI Tryz.prog 56 true 3 := ⟨⟨_, Tryz.underlying56, rfl⟩, by kernel_rfl⟩
theorem Aoi : (Tryz.prog.info? 56).map (·.size) = some 3 := by kernel_rfl
theorem Amb : EI Tryz.prog 77 2 48 [Znl, Znl] := Vh (by kernel_rfl) (by decide)
theorem Apa : NI Tryz.prog 37 := ⟨.inl ⟨_, Tryz.underlying37⟩⟩
theorem Ya : FI Tryz.prog 77 1 1 := ⟨⟨_, _, 1, Tryz.underlying77, rfl, rfl, by kernel_rfl, by decide⟩⟩
theorem Aqu : PI Tryz.prog 77 [(0, 1), (1, 1)] := Rc Tryz.underlying77 (by kernel_rfl) (by kernel_rfl)
theorem Arb : FnI Tryz.prog 95 := ⟨⟨_, Tryz.func95, by kernel_rfl, by kernel_rfl⟩⟩
theorem Ap2 : FnI Tryz.prog 111 := ⟨⟨_, Tryz.func111, by kernel_rfl, by kernel_rfl⟩⟩
theorem Aqb : FnI Tryz.prog 57 := ⟨⟨_, Tryz.func57, by kernel_rfl, by kernel_rfl⟩⟩
theorem Ao0 : FnI Tryz.prog 112 := ⟨⟨_, Tryz.func112, by kernel_rfl, by kernel_rfl⟩⟩
theorem Aj1 : ZI Tryz.prog 56 ([Znl, Znl, .b false]) := Om (by kernel_rfl)
theorem ei5 : EI Tryz.prog 5 1 1 [.i .u8 0] := Vh (by kernel_rfl) (by decide)
theorem Apo : NI Tryz.prog 46 := ⟨.inl ⟨_, Tryz.underlying46⟩⟩
theorem Aoh : PI Tryz.prog 56 [(0, 1), (1, 1), (2, 1)] := Rc Tryz.underlying56 (by kernel_rfl) (by kernel_rfl)
theorem Ar1 : FnI Tryz.prog 21 := ⟨⟨_, Tryz.func21, by kernel_rfl, by kernel_rfl⟩⟩
theorem As1 : EI Tryz.prog 56 3 56 [Znl, Znl, .b false] := Vh (by kernel_rfl) (by decide)
theorem Aq1 : FnI Tryz.prog 11 := ⟨⟨_, Tryz.func11, by kernel_rfl, by kernel_rfl⟩⟩
theorem Amx : PI Tryz.prog 48 [(0, 1), (1, 1), (2, 1)] := Rc Tryz.underlying48 (by kernel_rfl) (by kernel_rfl)
theorem Ael : EI Tryz.prog 48 3 56 [Znl, Znl, .b false] := Vh (by kernel_rfl) (by decide)
theorem Amf : ZI Tryz.prog 49 ([Ii6 0, Ii6 0, Ii6 0, Znl, Znl]) := Om (by kernel_rfl)
theorem Ao9 : PI Tryz.prog 49 [(0, 1), (1, 1), (2, 1), (3, 1), (4, 1)] := Rc Tryz.underlying49 (by kernel_rfl) (by kernel_rfl)
theorem Ao8 : (Tryz.prog.info? 49).map (·.size) = some 5 := by kernel_rfl
theorem Uc : TI Tryz.prog 49 true 5 := ⟨⟨_, Tryz.underlying49, rfl⟩, by kernel_rfl⟩
theorem Aod : EI Tryz.prog 49 5 72 [Ii6 0, Ii6 0, Ii6 0, Znl, Znl] := Vh (by kernel_rfl) (by decide)
theorem Aol : TI Tryz.prog 53 false 1 := ⟨⟨_, Tryz.underlying53, rfl⟩, by kernel_rfl⟩
theorem Al0 : SI Tryz.prog 53 49 5 := ⟨Tryz.underlying53, by kernel_rfl, by decide⟩
theorem Acn : FI Tryz.prog 49 4 4 := ⟨⟨_, _, 1, Tryz.underlying49, rfl, rfl, by kernel_rfl, by decide⟩⟩
theorem Arw : FnI Tryz.prog 80 := ⟨⟨_, Tryz.func80, by kernel_rfl, by kernel_rfl⟩⟩
theorem Ajf : FI Tryz.prog 49 3 3 := ⟨⟨_, _, 1, Tryz.underlying49, rfl, rfl, by kernel_rfl, by decide⟩⟩
theorem Ahc : TI Tryz.prog 25 false 1 := ⟨⟨_, Tryz.underlying25, rfl⟩, by kernel_rfl⟩
theorem Aip : SI Tryz.prog 25 56 3 := ⟨Tryz.underlying25, by kernel_rfl, by decide⟩
theorem Aq0 : FnI Tryz.prog 81 := ⟨⟨_, Tryz.func81, by kernel_rfl, by kernel_rfl⟩⟩
theorem T9 : FI Tryz.prog 49 1 1 := ⟨⟨_, _, 1, Tryz.underlying49, rfl, rfl, by kernel_rfl, by decide⟩⟩
theorem ti3 : TI Tryz.prog 3 false 1 := ⟨⟨_, Tryz.underlying3, rfl⟩, by kernel_rfl⟩
theorem Ra : FI Tryz.prog 49 2 2 := ⟨⟨_, _, 1, Tryz.underlying49, rfl, rfl, by kernel_rfl, by decide⟩⟩
theorem Ar5 : FnI Tryz.prog 46 := ⟨⟨_, Tryz.func46, by kernel_rfl, by kernel_rfl⟩⟩
theorem Amu : SI Tryz.prog 118 49 5 := ⟨Tryz.underlying118, by kernel_rfl, by decide⟩
theorem Ac7 : FI Tryz.prog 49 0 0 := ⟨⟨_, _, 1, Tryz.underlying49, rfl, rfl, by kernel_rfl, by decide⟩⟩
theorem Atp : FnI Tryz.prog 45 := ⟨⟨_, Tryz.func45, by kernel_rfl, by kernel_rfl⟩⟩
theorem Ap5 : FnI Tryz.prog 105 := ⟨⟨_, Tryz.func105, by kernel_rfl, by kernel_rfl⟩⟩
theorem Asy : FnI Tryz.prog 82 := ⟨⟨_, Tryz.func82, by kernel_rfl, by kernel_rfl⟩⟩
theorem Atv : FnI Tryz.prog 47 := ⟨⟨_, Tryz.func47, by kernel_rfl, by kernel_rfl⟩⟩
theorem Ar3 : FnI Tryz.prog 22 := ⟨⟨_, Tryz.func22, by kernel_rfl, by kernel_rfl⟩⟩
theorem Ar0 : ZI Tryz.prog 80 ([Znl]) := Om (by kernel_rfl)
theorem Aj8 : TI Tryz.prog 80 false 1 := ⟨⟨_, Tryz.underlying80, rfl⟩, by kernel_rfl⟩
theorem ei3 : EI Tryz.prog 3 1 8 [Ii6 0] := Vh (by kernel_rfl) (by decide)
theorem Arp : NI Tryz.prog 80 := ⟨.inl ⟨_, Tryz.underlying80⟩⟩
theorem Ard : (Tryz.prog.info? 80).map (·.size) = some 1 := by kernel_rfl
theorem Abj : SI Tryz.prog 80 3 1 := ⟨Tryz.underlying80, by kernel_rfl, by decide⟩
theorem Ad5 : SI Tryz.prog 122 48 3 := ⟨Tryz.underlying122, by kernel_rfl, by decide⟩
theorem Arl : FnI Tryz.prog 53 := ⟨⟨_, Tryz.func53, by kernel_rfl, by kernel_rfl⟩⟩
theorem Ary : FnI Tryz.prog 52 := ⟨⟨_, Tryz.func52, by kernel_rfl, by kernel_rfl⟩⟩
theorem Ak2 : FnI Tryz.prog 106 := ⟨⟨_, Tryz.func106, by kernel_rfl, by kernel_rfl⟩⟩
theorem Apj : FnI Tryz.prog 84 := ⟨⟨_, Tryz.func84, by kernel_rfl, by kernel_rfl⟩⟩
theorem Aox : FnI Tryz.prog 50 := ⟨⟨_, Tryz.func50, by kernel_rfl, by kernel_rfl⟩⟩
theorem As2 : FnI Tryz.prog 51 := ⟨⟨_, Tryz.func51, by kernel_rfl, by kernel_rfl⟩⟩
theorem Atj : FnI Tryz.prog 28 := ⟨⟨_, Tryz.func28, by kernel_rfl, by kernel_rfl⟩⟩
theorem Amk : SI Tryz.prog 126 56 3 := ⟨Tryz.underlying126, by kernel_rfl, by decide⟩
theorem Ar2 : FnI Tryz.prog 56 := ⟨⟨_, Tryz.func56, by kernel_rfl, by kernel_rfl⟩⟩
theorem Ape : FnI Tryz.prog 107 := ⟨⟨_, Tryz.func107, by kernel_rfl, by kernel_rfl⟩⟩
theorem Asu : FnI Tryz.prog 85 := ⟨⟨_, Tryz.func85, by kernel_rfl, by kernel_rfl⟩⟩
theorem Arx : FnI Tryz.prog 55 := ⟨⟨_, Tryz.func55, by kernel_rfl, by kernel_rfl⟩⟩
theorem Asa : FnI Tryz.prog 54 := ⟨⟨_, Tryz.func54, by kernel_rfl, by kernel_rfl⟩⟩
theorem Ame : FnI Tryz.prog 29 := ⟨⟨_, Tryz.func29, by kernel_rfl, by kernel_rfl⟩⟩
theorem Apr : FnI Tryz.prog 13 := ⟨⟨_, Tryz.func13, by kernel_rfl, by kernel_rfl⟩⟩
theorem Ats : FnI Tryz.prog 26 := ⟨⟨_, Tryz.func26, by kernel_rfl, by kernel_rfl⟩⟩
theorem Aqx : FnI Tryz.prog 48 := ⟨⟨_, Tryz.func48, by kernel_rfl, by kernel_rfl⟩⟩
theorem Arf : FnI Tryz.prog 23 := ⟨⟨_, Tryz.func23, by kernel_rfl, by kernel_rfl⟩⟩
theorem Ase : FnI Tryz.prog 25 := ⟨⟨_, Tryz.func25, by kernel_rfl, by kernel_rfl⟩⟩
theorem Ate : FnI Tryz.prog 24 := ⟨⟨_, Tryz.func24, by kernel_rfl, by kernel_rfl⟩⟩
theorem Aq8 : NI Tryz.prog 50 := ⟨.inl ⟨_, Tryz.underlying50⟩⟩
theorem As3 : EI Tryz.prog 80 1 24 [Znl] := Vh (by kernel_rfl) (by decide)
theorem Ah9 : SI Tryz.prog 149 80 1 := ⟨Tryz.underlying149, by kernel_rfl, by decide⟩
theorem Asd : FnI Tryz.prog 83 := ⟨⟨_, Tryz.func83, by kernel_rfl, by kernel_rfl⟩⟩
theorem Aso : FnI Tryz.prog 49 := ⟨⟨_, Tryz.func49, by kernel_rfl, by kernel_rfl⟩⟩
theorem Arv : FnI Tryz.prog 27 := ⟨⟨_, Tryz.func27, by kernel_rfl, by kernel_rfl⟩⟩
theorem Apt : FnI Tryz.prog 12 := ⟨⟨_, Tryz.func12, by kernel_rfl, by kernel_rfl⟩⟩
theorem sz3 : (Tryz.prog.info? 3).map (·.size) = some 1 := by kernel_rfl
theorem Ajd : SI Tryz.prog 50 3 1 := ⟨Tryz.underlying50, by kernel_rfl, by decide⟩
theorem fn4 : FnI Tryz.prog 4 := ⟨⟨_, Tryz.func4, by kernel_rfl, by kernel_rfl⟩⟩
theorem Aek : SI Tryz.prog 22 34 15 := ⟨Tryz.underlying22, by kernel_rfl, by decide⟩
theorem Agg : FI Tryz.prog 34 0 0 := ⟨⟨_, _, 5, Tryz.underlying34, rfl, rfl, by kernel_rfl, by decide⟩⟩
theorem Aej : TI Tryz.prog 28 true 5 := ⟨⟨_, Tryz.underlying28, rfl⟩, by kernel_rfl⟩
theorem Aob : EI Tryz.prog 28 5 72 [Ii6 0, Ii6 0, Ii6 0, Znl, Znl] := Vh (by kernel_rfl) (by decide)
theorem Aq5 : NI Tryz.prog 24 := ⟨.inl ⟨_, Tryz.underlying24⟩⟩
theorem Afs : FI Tryz.prog 34 1 5 := ⟨⟨_, _, 2, Tryz.underlying34, rfl, rfl, by kernel_rfl, by decide⟩⟩
theorem Aj6 : TI Tryz.prog 31 true 2 := ⟨⟨_, Tryz.underlying31, rfl⟩, by kernel_rfl⟩
theorem Oa : FI Tryz.prog 31 1 1 := ⟨⟨_, _, 1, Tryz.underlying31, rfl, rfl, by kernel_rfl, by decide⟩⟩
theorem Ab5 : TI Tryz.prog 29 false 1 := ⟨⟨_, Tryz.underlying29, rfl⟩, by kernel_rfl⟩
theorem Abz : SI Tryz.prog 29 58 8 := ⟨Tryz.underlying29, by kernel_rfl, by decide⟩
theorem U2 : FI Tryz.prog 58 4 4 := ⟨⟨_, _, 1, Tryz.underlying58, rfl, rfl, by kernel_rfl, by decide⟩⟩
theorem Si : FI Tryz.prog 58 5 5 := ⟨⟨_, _, 3, Tryz.underlying58, rfl, rfl, by kernel_rfl, by decide⟩⟩
theorem Aq6 : FnI Tryz.prog 14 := ⟨⟨_, Tryz.func14, by kernel_rfl, by kernel_rfl⟩⟩
theorem fn5 : FnI Tryz.prog 5 := ⟨⟨_, Tryz.func5, by kernel_rfl, by kernel_rfl⟩⟩
theorem Zg : SI Tryz.prog 24 28 5 := ⟨Tryz.underlying24, by kernel_rfl, by decide⟩
theorem U5 : FI Tryz.prog 28 3 3 := ⟨⟨_, _, 1, Tryz.underlying28, rfl, rfl, by kernel_rfl, by decide⟩⟩
theorem Qk : FI Tryz.prog 28 4 4 := ⟨⟨_, _, 1, Tryz.underlying28, rfl, rfl, by kernel_rfl, by decide⟩⟩
theorem Ata : FnI Tryz.prog 15 := ⟨⟨_, Tryz.func15, by kernel_rfl, by kernel_rfl⟩⟩
theorem fn6 : FnI Tryz.prog 6 := ⟨⟨_, Tryz.func6, by kernel_rfl, by kernel_rfl⟩⟩
theorem Arq : ZI Tryz.prog 28 ([Ii6 0, Ii6 0, Ii6 0, Znl, Znl]) := Om (by kernel_rfl)
theorem Arc : (Tryz.prog.info? 28).map (·.size) = some 5 := by kernel_rfl
theorem Aaq : FI Tryz.prog 28 0 0 := ⟨⟨_, _, 1, Tryz.underlying28, rfl, rfl, by kernel_rfl, by decide⟩⟩
theorem Tt : FI Tryz.prog 28 1 1 := ⟨⟨_, _, 1, Tryz.underlying28, rfl, rfl, by kernel_rfl, by decide⟩⟩
theorem Qp : FI Tryz.prog 28 2 2 := ⟨⟨_, _, 1, Tryz.underlying28, rfl, rfl, by kernel_rfl, by decide⟩⟩
theorem Aqt : ZI Tryz.prog 68 ([.b false, Znl]) := Om (by kernel_rfl)
theorem Aji : FI Tryz.prog 31 0 0 := ⟨⟨_, _, 1, Tryz.underlying31, rfl, rfl, by kernel_rfl, by decide⟩⟩
theorem Asg : PI Tryz.prog 68 [(0, 1), (1, 1)] := Rc Tryz.underlying68 (by kernel_rfl) (by kernel_rfl)
theorem Ari : (Tryz.prog.info? 68).map (·.size) = some 2 := by kernel_rfl
theorem Aoj : TI Tryz.prog 58 true 8 := ⟨⟨_, Tryz.underlying58, rfl⟩, by kernel_rfl⟩
theorem Apu : ZI Tryz.prog 58 ([Ii6 0, Ii6 0, Ii6 0, Ii6 0, Znl, Znl, Znl, .b false]) := Om (by kernel_rfl)
theorem Aqg : (Tryz.prog.info? 58).map (·.size) = some 8 := by kernel_rfl
theorem Sb : FI Tryz.prog 68 1 1 := ⟨⟨_, _, 1, Tryz.underlying68, rfl, rfl, by kernel_rfl, by decide⟩⟩
theorem Ai2 : TI Tryz.prog 66 false 1 := ⟨⟨_, Tryz.underlying66, rfl⟩, by kernel_rfl⟩
theorem Gv : FI Tryz.prog 58 0 0 := ⟨⟨_, _, 1, Tryz.underlying58, rfl, rfl, by kernel_rfl, by decide⟩⟩
theorem R9 : FI Tryz.prog 58 1 1 := ⟨⟨_, _, 1, Tryz.underlying58, rfl, rfl, by kernel_rfl, by decide⟩⟩
theorem U0 : FI Tryz.prog 58 2 2 := ⟨⟨_, _, 1, Tryz.underlying58, rfl, rfl, by kernel_rfl, by decide⟩⟩
theorem Sl : FI Tryz.prog 58 3 3 := ⟨⟨_, _, 1, Tryz.underlying58, rfl, rfl, by kernel_rfl, by decide⟩⟩
theorem Aix : ZI Tryz.prog 103 ([Ii6 0, Ii6 0, Ii6 0, Ii6 0, Znl, Znl, Znl, .b false]) := Om (by kernel_rfl)
theorem Ap1 : PI Tryz.prog 103 [(0, 1), (1, 1), (2, 1), (3, 1), (4, 1), (5, 3)] := Rc Tryz.underlying103 (by kernel_rfl) (by kernel_rfl)
theorem Am6 : EI Tryz.prog 103 8 112 [Ii6 0, Ii6 0, Ii6 0, Ii6 0, Znl, Znl, Znl, .b false] := Vh (by kernel_rfl) (by decide)
theorem Asz : NI Tryz.prog 66 := ⟨.inl ⟨_, Tryz.underlying66⟩⟩
theorem Atg : (Tryz.prog.info? 66).map (·.size) = some 1 := by kernel_rfl
theorem Aj7 : TI Tryz.prog 68 true 2 := ⟨⟨_, Tryz.underlying68, rfl⟩, by kernel_rfl⟩
theorem As7 : FnI Tryz.prog 18 := ⟨⟨_, Tryz.func18, by kernel_rfl, by kernel_rfl⟩⟩
theorem Aj5 : FI Tryz.prog 34 2 7 := ⟨⟨_, _, 8, Tryz.underlying34, rfl, rfl, by kernel_rfl, by decide⟩⟩
theorem Amt : TI Tryz.prog 32 true 8 := ⟨⟨_, Tryz.underlying32, rfl⟩, by kernel_rfl⟩
theorem Ars : ZI Tryz.prog 70 ([Ii6 0, Ii6 0, Ii6 0, Znl, Znl, .b false, Znl, Ii6 0, Ii6 0, Ii6 0, Ii6 0, Ii6 0, Ii6 0, Ii6 0, Ii6 0]) := Om (by kernel_rfl)
theorem Atc : PI Tryz.prog 70 [(0, 5), (5, 2), (7, 8)] := Rc Tryz.underlying70 (by kernel_rfl) (by kernel_rfl)
theorem Art : EI Tryz.prog 70 15 168 [Ii6 0, Ii6 0, Ii6 0, Znl, Znl, .b false, Znl, Ii6 0, Ii6 0, Ii6 0, Ii6 0, Ii6 0, Ii6 0, Ii6 0, Ii6 0] := Vh (by kernel_rfl) (by decide)
theorem Ass : NI Tryz.prog 40 := ⟨.inl ⟨_, Tryz.underlying40⟩⟩
theorem fn8 : FnI Tryz.prog 8 := ⟨⟨_, Tryz.func8, by kernel_rfl, by kernel_rfl⟩⟩
theorem Aor : SI Tryz.prog 40 70 15 := ⟨Tryz.underlying40, by kernel_rfl, by decide⟩
theorem Atn : TI Tryz.prog 70 true 15 := ⟨⟨_, Tryz.underlying70, rfl⟩, by kernel_rfl⟩
theorem Asf : (Tryz.prog.info? 70).map (·.size) = some 15 := by kernel_rfl
theorem Am2 : FI Tryz.prog 70 0 0 := ⟨⟨_, _, 5, Tryz.underlying70, rfl, rfl, by kernel_rfl, by decide⟩⟩
theorem Atu : NI Tryz.prog 53 := ⟨.inl ⟨_, Tryz.underlying53⟩⟩
theorem Aru : FnI Tryz.prog 16 := ⟨⟨_, Tryz.func16, by kernel_rfl, by kernel_rfl⟩⟩
theorem An2 : FI Tryz.prog 70 1 5 := ⟨⟨_, _, 2, Tryz.underlying70, rfl, rfl, by kernel_rfl, by decide⟩⟩
theorem Acz : ZI Tryz.prog 63 (Zba) := Om (by kernel_rfl)
theorem Aiv : SI Tryz.prog 66 103 8 := ⟨Tryz.underlying66, by kernel_rfl, by decide⟩
theorem Aad : TI Tryz.prog 103 true 8 := ⟨⟨_, Tryz.underlying103, rfl⟩, by kernel_rfl⟩
theorem Akl : (Tryz.prog.info? 103).map (·.size) = some 8 := by kernel_rfl
theorem Ant : FI Tryz.prog 68 0 0 := ⟨⟨_, _, 1, Tryz.underlying68, rfl, rfl, by kernel_rfl, by decide⟩⟩
theorem Sw : FI Tryz.prog 103 0 0 := ⟨⟨_, _, 1, Tryz.underlying103, rfl, rfl, by kernel_rfl, by decide⟩⟩
theorem Amn : FnI Tryz.prog 66 := ⟨⟨_, Tryz.func66, by kernel_rfl, by kernel_rfl⟩⟩
theorem Rh : FI Tryz.prog 103 1 1 := ⟨⟨_, _, 1, Tryz.underlying103, rfl, rfl, by kernel_rfl, by decide⟩⟩
theorem Ud : FI Tryz.prog 103 2 2 := ⟨⟨_, _, 1, Tryz.underlying103, rfl, rfl, by kernel_rfl, by decide⟩⟩
theorem V4 : FI Tryz.prog 103 3 3 := ⟨⟨_, _, 1, Tryz.underlying103, rfl, rfl, by kernel_rfl, by decide⟩⟩
theorem Aaa : ZI Tryz.prog 154 ([.b false, .b false, .b false]) := Om (by kernel_rfl)
theorem Ab0 : AI Tryz.prog 154 3 4 1 := ⟨Tryz.underlying154, by kernel_rfl, by decide, by decide⟩
theorem Aev : (Tryz.prog.info? 154).map (·.size) = some 3 := by kernel_rfl
theorem Afg : TI Tryz.prog 154 true 3 := ⟨⟨_, Tryz.underlying154, rfl⟩, by kernel_rfl⟩
theorem Aq2 : FnI Tryz.prog 87 := ⟨⟨_, Tryz.func87, by kernel_rfl, by kernel_rfl⟩⟩
theorem W0 : FI Tryz.prog 103 4 4 := ⟨⟨_, _, 1, Tryz.underlying103, rfl, rfl, by kernel_rfl, by decide⟩⟩
theorem Aa9 : FI Tryz.prog 103 5 5 := ⟨⟨_, _, 3, Tryz.underlying103, rfl, rfl, by kernel_rfl, by decide⟩⟩
theorem Atq : FnI Tryz.prog 88 := ⟨⟨_, Tryz.func88, by kernel_rfl, by kernel_rfl⟩⟩
theorem Ank : EqD Tryz.prog 154 [1, 1, 1] := ⟨by kernel_rfl, by kernel_rfl, by kernel_rfl, by kernel_rfl⟩
theorem ti5 : TI Tryz.prog 5 false 1 := ⟨⟨_, Tryz.underlying5, rfl⟩, by kernel_rfl⟩
theorem Apm : FnI Tryz.prog 109 := ⟨⟨_, Tryz.func109, by kernel_rfl, by kernel_rfl⟩⟩
theorem Asl : FnI Tryz.prog 90 := ⟨⟨_, Tryz.func90, by kernel_rfl, by kernel_rfl⟩⟩
theorem As8 : FnI Tryz.prog 58 := ⟨⟨_, Tryz.func58, by kernel_rfl, by kernel_rfl⟩⟩
theorem Aqj : FnI Tryz.prog 30 := ⟨⟨_, Tryz.func30, by kernel_rfl, by kernel_rfl⟩⟩
theorem Als : PI Tryz.prog 63 [(0, 1), (1, 8), (9, 1)] := Rc Tryz.underlying63 (by kernel_rfl) (by kernel_rfl)
theorem Vm : (Tryz.prog.info? 63).map (·.size) = some 10 := by kernel_rfl
theorem Qm : TI Tryz.prog 63 true 10 := ⟨⟨_, Tryz.underlying63, rfl⟩, by kernel_rfl⟩
theorem Atr : FnI Tryz.prog 31 := ⟨⟨_, Tryz.func31, by kernel_rfl, by kernel_rfl⟩⟩
theorem Aoe : ZI Tryz.prog 90 ([Znl, Znl]) := Om (by kernel_rfl)
theorem Atl : PI Tryz.prog 90 [(0, 1), (1, 1)] := Rc Tryz.underlying90 (by kernel_rfl) (by kernel_rfl)
theorem Aof : (Tryz.prog.info? 90).map (·.size) = some 2 := by kernel_rfl
theorem Ahe : ZI Tryz.prog 92 (Zbb) := Om (by kernel_rfl)
theorem Alr : PI Tryz.prog 92 [(0, 1), (1, 1), (2, 1), (3, 1), (4, 1), (5, 1), (6, 1), (7, 3)] := Rc Tryz.underlying92 (by kernel_rfl) (by kernel_rfl)
theorem Ahj : (Tryz.prog.info? 92).map (·.size) = some 10 := by kernel_rfl
theorem Aht : TI Tryz.prog 92 true 10 := ⟨⟨_, Tryz.underlying92, rfl⟩, by kernel_rfl⟩
theorem Ot : FI Tryz.prog 63 0 0 := ⟨⟨_, _, 1, Tryz.underlying63, rfl, rfl, by kernel_rfl, by decide⟩⟩
theorem Agt : FI Tryz.prog 63 2 9 := ⟨⟨_, _, 1, Tryz.underlying63, rfl, rfl, by kernel_rfl, by decide⟩⟩
theorem Aqz : FnI Tryz.prog 60 := ⟨⟨_, Tryz.func60, by kernel_rfl, by kernel_rfl⟩⟩
theorem Pv : FI Tryz.prog 63 1 1 := ⟨⟨_, _, 8, Tryz.underlying63, rfl, rfl, by kernel_rfl, by decide⟩⟩
theorem Vt : AI Tryz.prog 32 8 3 1 := ⟨Tryz.underlying32, by kernel_rfl, by decide, by decide⟩
theorem sz5 : (Tryz.prog.info? 5).map (·.size) = some 1 := by kernel_rfl
theorem Ao7 : FnI Tryz.prog 114 := ⟨⟨_, Tryz.func114, by kernel_rfl, by kernel_rfl⟩⟩
theorem Arr : FnI Tryz.prog 94 := ⟨⟨_, Tryz.func94, by kernel_rfl, by kernel_rfl⟩⟩
theorem Aqr : FnI Tryz.prog 110 := ⟨⟨_, Tryz.func110, by kernel_rfl, by kernel_rfl⟩⟩
theorem As9 : FnI Tryz.prog 91 := ⟨⟨_, Tryz.func91, by kernel_rfl, by kernel_rfl⟩⟩
theorem Atd : FnI Tryz.prog 61 := ⟨⟨_, Tryz.func61, by kernel_rfl, by kernel_rfl⟩⟩
theorem Aa7 : ∀ {a b : C2} {j : Int} {v : Int}, Ck a j v = some b → ∀ pre post : List Lf, Kb (pre ++ (Vs a ++ post)) (pre.length + j.toNat) [Ii6 v] = pre ++ (Vs b ++ post) := by
 intro a b j v h pre post
 rw [Ago]
 unfold Ck at h
 split at h
 ·rename_i hj; subst hj; cases h; rfl
 split at h
 ·rename_i hj; subst hj; cases h; rfl
 split at h
 ·rename_i hj; subst hj; cases h; rfl
 split at h
 ·rename_i hj; subst hj; cases h; rfl
 split at h
 ·rename_i hj; subst hj; cases h; rfl
 split at h
 ·rename_i hj; subst hj; cases h; rfl
 split at h
 ·rename_i hj; subst hj; cases h; rfl
 split at h
 ·rename_i hj; subst hj; cases h; rfl
 cases h
theorem Arn : FnI Tryz.prog 92 := ⟨⟨_, Tryz.func92, by kernel_rfl, by kernel_rfl⟩⟩
theorem sz4 : (Tryz.prog.info? 4).map (·.size) = some 1 := by kernel_rfl
theorem Ar9 : FnI Tryz.prog 62 := ⟨⟨_, Tryz.func62, by kernel_rfl, by kernel_rfl⟩⟩
theorem Asb : FnI Tryz.prog 32 := ⟨⟨_, Tryz.func32, by kernel_rfl, by kernel_rfl⟩⟩
theorem Ahf : TI Tryz.prog 90 true 2 := ⟨⟨_, Tryz.underlying90, rfl⟩, by kernel_rfl⟩
theorem Ajx : FI Tryz.prog 90 0 0 := ⟨⟨_, _, 1, Tryz.underlying90, rfl, rfl, by kernel_rfl, by decide⟩⟩
theorem Aja : TI Tryz.prog 37 false 1 := ⟨⟨_, Tryz.underlying37, rfl⟩, by kernel_rfl⟩
theorem Ac5 : FI Tryz.prog 90 1 1 := ⟨⟨_, _, 1, Tryz.underlying90, rfl, rfl, by kernel_rfl, by decide⟩⟩
theorem Asv : FnI Tryz.prog 93 := ⟨⟨_, Tryz.func93, by kernel_rfl, by kernel_rfl⟩⟩
theorem Api : FnI Tryz.prog 63 := ⟨⟨_, Tryz.func63, by kernel_rfl, by kernel_rfl⟩⟩
theorem Aou : FnI Tryz.prog 33 := ⟨⟨_, Tryz.func33, by kernel_rfl, by kernel_rfl⟩⟩
theorem Aoq : ZI Tryz.prog 98 (Zbc) := Om (by kernel_rfl)
theorem Asr : PI Tryz.prog 98 [(0, 1), (1, 1), (2, 1), (3, 1), (4, 1), (5, 1), (6, 1)] := Rc Tryz.underlying98 (by kernel_rfl) (by kernel_rfl)
theorem Apq : (Tryz.prog.info? 98).map (·.size) = some 7 := by kernel_rfl
theorem Ajk : FI Tryz.prog 92 0 0 := ⟨⟨_, _, 1, Tryz.underlying92, rfl, rfl, by kernel_rfl, by decide⟩⟩
theorem Akd : FI Tryz.prog 92 5 5 := ⟨⟨_, _, 1, Tryz.underlying92, rfl, rfl, by kernel_rfl, by decide⟩⟩
theorem Asp : FnI Tryz.prog 64 := ⟨⟨_, Tryz.func64, by kernel_rfl, by kernel_rfl⟩⟩
theorem Akb : FI Tryz.prog 98 4 4 := ⟨⟨_, _, 1, Tryz.underlying98, rfl, rfl, by kernel_rfl, by decide⟩⟩
theorem Aj0 : FI Tryz.prog 98 5 5 := ⟨⟨_, _, 1, Tryz.underlying98, rfl, rfl, by kernel_rfl, by decide⟩⟩
theorem Arm : (Tryz.prog.info? 46).map (·.size) = some 1 := by kernel_rfl
theorem Anm : FI Tryz.prog 92 7 7 := ⟨⟨_, _, 3, Tryz.underlying92, rfl, rfl, by kernel_rfl, by decide⟩⟩
theorem Ae3 : FI Tryz.prog 98 6 6 := ⟨⟨_, _, 1, Tryz.underlying98, rfl, rfl, by kernel_rfl, by decide⟩⟩
theorem Arh : (Tryz.prog.info? 37).map (·.size) = some 1 := by kernel_rfl
theorem Anx : FI Tryz.prog 92 6 6 := ⟨⟨_, _, 1, Tryz.underlying92, rfl, rfl, by kernel_rfl, by decide⟩⟩
theorem Amc : ZI Tryz.prog 88 ([Znl]) := Om (by kernel_rfl)
theorem Ams : PI Tryz.prog 88 [(0, 1)] := Rc Tryz.underlying88 (by kernel_rfl) (by kernel_rfl)
theorem Apd : FnI Tryz.prog 116 := ⟨⟨_, Tryz.func116, by kernel_rfl, by kernel_rfl⟩⟩
theorem Apc : FnI Tryz.prog 115 := ⟨⟨_, Tryz.func115, by kernel_rfl, by kernel_rfl⟩⟩
theorem Atw : FnI Tryz.prog 97 := ⟨⟨_, Tryz.func97, by kernel_rfl, by kernel_rfl⟩⟩
theorem Aos : NI Tryz.prog 26 := ⟨.inl ⟨_, Tryz.underlying26⟩⟩
theorem Att : FnI Tryz.prog 99 := ⟨⟨_, Tryz.func99, by kernel_rfl, by kernel_rfl⟩⟩
theorem Aps : FnI Tryz.prog 100 := ⟨⟨_, Tryz.func100, by kernel_rfl, by kernel_rfl⟩⟩
theorem Atk : FnI Tryz.prog 65 := ⟨⟨_, Tryz.func65, by kernel_rfl, by kernel_rfl⟩⟩
theorem Aoz : TI Tryz.prog 98 true 7 := ⟨⟨_, Tryz.underlying98, rfl⟩, by kernel_rfl⟩
theorem Ar8 : FnI Tryz.prog 34 := ⟨⟨_, Tryz.func34, by kernel_rfl, by kernel_rfl⟩⟩
theorem zi3 : ZI Tryz.prog 3 ([Ii6 0]) := Om (by kernel_rfl)
theorem Ao2 : ZI Tryz.prog 183 ([Nfu, Ii6 0]) := Om (by kernel_rfl)
theorem Ao3 : PI Tryz.prog 183 [(0, 1), (1, 1)] := Rc Tryz.underlying183 (by kernel_rfl) (by kernel_rfl)
theorem Aow : FnI Tryz.prog 101 := ⟨⟨_, Tryz.func101, by kernel_rfl, by kernel_rfl⟩⟩
theorem Ab6 : FI Tryz.prog 183 1 1 := ⟨⟨_, _, 1, Tryz.underlying183, rfl, rfl, by kernel_rfl, by decide⟩⟩
theorem Aro : TI Tryz.prog 96 false 1 := ⟨⟨_, Tryz.underlying96, rfl⟩, by kernel_rfl⟩
theorem Ap4 : FnI Tryz.prog 120 := ⟨⟨_, Tryz.func120, by kernel_rfl, by kernel_rfl⟩⟩
theorem Asn : (Tryz.prog.info? 96).map (·.size) = some 1 := by kernel_rfl
theorem Akw : FnI Tryz.prog 121 := ⟨⟨_, Tryz.func121, by kernel_rfl, by kernel_rfl⟩⟩
theorem Abl : FI Tryz.prog 183 0 0 := ⟨⟨_, _, 1, Tryz.underlying183, rfl, rfl, by kernel_rfl, by decide⟩⟩
theorem Alu : TI Tryz.prog 181 false 1 := ⟨⟨_, Tryz.underlying181, rfl⟩, by kernel_rfl⟩
theorem Am1 : FnI Tryz.prog 119 := ⟨⟨_, Tryz.func119, by kernel_rfl, by kernel_rfl⟩⟩
theorem Apg : FnI Tryz.prog 127 := ⟨⟨_, Tryz.func127, by kernel_rfl, by kernel_rfl⟩⟩
theorem Ap3 : FnI Tryz.prog 122 := ⟨⟨_, Tryz.func122, by kernel_rfl, by kernel_rfl⟩⟩
theorem Aph : FnI Tryz.prog 102 := ⟨⟨_, Tryz.func102, by kernel_rfl, by kernel_rfl⟩⟩
theorem Aq4 : FnI Tryz.prog 67 := ⟨⟨_, Tryz.func67, by kernel_rfl, by kernel_rfl⟩⟩
theorem Arz : FnI Tryz.prog 68 := ⟨⟨_, Tryz.func68, by kernel_rfl, by kernel_rfl⟩⟩
theorem As5 : FnI Tryz.prog 35 := ⟨⟨_, Tryz.func35, by kernel_rfl, by kernel_rfl⟩⟩
theorem Atf : FnI Tryz.prog 17 := ⟨⟨_, Tryz.func17, by kernel_rfl, by kernel_rfl⟩⟩
theorem Amp : FI Tryz.prog 70 2 7 := ⟨⟨_, _, 8, Tryz.underlying70, rfl, rfl, by kernel_rfl, by decide⟩⟩
theorem Ark : EqD Tryz.prog 32 [0, 0, 0, 0, 0, 0, 0, 0] := ⟨by kernel_rfl, by kernel_rfl, by kernel_rfl, by kernel_rfl⟩
theorem fn7 : FnI Tryz.prog 7 := ⟨⟨_, Tryz.func7, by kernel_rfl, by kernel_rfl⟩⟩
theorem Anc : FnI Tryz.prog 103 := ⟨⟨_, Tryz.func103, by kernel_rfl, by kernel_rfl⟩⟩
theorem Akj : FnI Tryz.prog 74 := ⟨⟨_, Tryz.func74, by kernel_rfl, by kernel_rfl⟩⟩
theorem App : FnI Tryz.prog 69 := ⟨⟨_, Tryz.func69, by kernel_rfl, by kernel_rfl⟩⟩
theorem Aqv : FnI Tryz.prog 70 := ⟨⟨_, Tryz.func70, by kernel_rfl, by kernel_rfl⟩⟩
theorem Asi : FnI Tryz.prog 36 := ⟨⟨_, Tryz.func36, by kernel_rfl, by kernel_rfl⟩⟩
theorem ei4 : EI Tryz.prog 4 1 1 [.b false] := Vh (by kernel_rfl) (by decide)
theorem Aks : SI Tryz.prog 104 4 1 := ⟨Tryz.underlying104, by kernel_rfl, by decide⟩
theorem Ath : FnI Tryz.prog 71 := ⟨⟨_, Tryz.func71, by kernel_rfl, by kernel_rfl⟩⟩
theorem Aqa : FnI Tryz.prog 78 := ⟨⟨_, Tryz.func78, by kernel_rfl, by kernel_rfl⟩⟩
theorem Al9 : FnI Tryz.prog 72 := ⟨⟨_, Tryz.func72, by kernel_rfl, by kernel_rfl⟩⟩
theorem Ati : FnI Tryz.prog 37 := ⟨⟨_, Tryz.func37, by kernel_rfl, by kernel_rfl⟩⟩
theorem As0 : FnI Tryz.prog 19 := ⟨⟨_, Tryz.func19, by kernel_rfl, by kernel_rfl⟩⟩
theorem Abw : ZI Tryz.prog 73 (Zba) := Om (by kernel_rfl)
theorem Ap8 : FnI Tryz.prog 104 := ⟨⟨_, Tryz.func104, by kernel_rfl, by kernel_rfl⟩⟩
theorem Asx : FnI Tryz.prog 73 := ⟨⟨_, Tryz.func73, by kernel_rfl, by kernel_rfl⟩⟩
theorem Apn : FnI Tryz.prog 38 := ⟨⟨_, Tryz.func38, by kernel_rfl, by kernel_rfl⟩⟩
theorem Ajz : PI Tryz.prog 73 [(0, 1), (1, 8), (9, 1)] := Rc Tryz.underlying73 (by kernel_rfl) (by kernel_rfl)
theorem V0 : (Tryz.prog.info? 73).map (·.size) = some 10 := by kernel_rfl
theorem Rz : TI Tryz.prog 73 true 10 := ⟨⟨_, Tryz.underlying73, rfl⟩, by kernel_rfl⟩
theorem Ara : FnI Tryz.prog 39 := ⟨⟨_, Tryz.func39, by kernel_rfl, by kernel_rfl⟩⟩
theorem Yr : ZI Tryz.prog 106 ([Znl]) := Om (by kernel_rfl)
theorem Af2 : PI Tryz.prog 106 [(0, 1)] := Rc Tryz.underlying106 (by kernel_rfl) (by kernel_rfl)
theorem Zf : (Tryz.prog.info? 106).map (·.size) = some 1 := by kernel_rfl
theorem Yt : ZI Tryz.prog 107 (Zbb) := Om (by kernel_rfl)
theorem Acf : PI Tryz.prog 107 [(0, 1), (1, 1), (2, 1), (3, 1), (4, 1), (5, 1), (6, 1), (7, 3)] := Rc Tryz.underlying107 (by kernel_rfl) (by kernel_rfl)
theorem Zp : (Tryz.prog.info? 107).map (·.size) = some 10 := by kernel_rfl
theorem Aa4 : TI Tryz.prog 107 true 10 := ⟨⟨_, Tryz.underlying107, rfl⟩, by kernel_rfl⟩
theorem N2 : FI Tryz.prog 73 0 0 := ⟨⟨_, _, 1, Tryz.underlying73, rfl, rfl, by kernel_rfl, by decide⟩⟩
theorem Ag5 : FI Tryz.prog 73 2 9 := ⟨⟨_, _, 1, Tryz.underlying73, rfl, rfl, by kernel_rfl, by decide⟩⟩
theorem Pb : FI Tryz.prog 73 1 1 := ⟨⟨_, _, 8, Tryz.underlying73, rfl, rfl, by kernel_rfl, by decide⟩⟩
theorem Ar6 : FnI Tryz.prog 75 := ⟨⟨_, Tryz.func75, by kernel_rfl, by kernel_rfl⟩⟩
theorem Aq7 : FnI Tryz.prog 76 := ⟨⟨_, Tryz.func76, by kernel_rfl, by kernel_rfl⟩⟩
theorem Asq : FnI Tryz.prog 40 := ⟨⟨_, Tryz.func40, by kernel_rfl, by kernel_rfl⟩⟩
theorem Wm : TI Tryz.prog 106 true 1 := ⟨⟨_, Tryz.underlying106, rfl⟩, by kernel_rfl⟩
theorem N6 : FI Tryz.prog 106 0 0 := ⟨⟨_, _, 1, Tryz.underlying106, rfl, rfl, by kernel_rfl, by decide⟩⟩
theorem Aqw : FnI Tryz.prog 77 := ⟨⟨_, Tryz.func77, by kernel_rfl, by kernel_rfl⟩⟩
theorem Atm : FnI Tryz.prog 41 := ⟨⟨_, Tryz.func41, by kernel_rfl, by kernel_rfl⟩⟩
theorem Ug : FI Tryz.prog 107 0 0 := ⟨⟨_, _, 1, Tryz.underlying107, rfl, rfl, by kernel_rfl, by decide⟩⟩
theorem Ab7 : FI Tryz.prog 107 5 5 := ⟨⟨_, _, 1, Tryz.underlying107, rfl, rfl, by kernel_rfl, by decide⟩⟩
theorem Afr : FI Tryz.prog 107 6 6 := ⟨⟨_, _, 1, Tryz.underlying107, rfl, rfl, by kernel_rfl, by decide⟩⟩
theorem Aq9 : FnI Tryz.prog 42 := ⟨⟨_, Tryz.func42, by kernel_rfl, by kernel_rfl⟩⟩
theorem Al2 : ZI Tryz.prog 115 (Zbc) := Om (by kernel_rfl)
theorem Aqf : PI Tryz.prog 115 [(0, 1), (1, 1), (2, 1), (3, 1), (4, 1), (5, 1), (6, 1)] := Rc Tryz.underlying115 (by kernel_rfl) (by kernel_rfl)
theorem Amo : (Tryz.prog.info? 115).map (·.size) = some 7 := by kernel_rfl
theorem Abv : FI Tryz.prog 115 4 4 := ⟨⟨_, _, 1, Tryz.underlying115, rfl, rfl, by kernel_rfl, by decide⟩⟩
theorem Afb : FI Tryz.prog 115 5 5 := ⟨⟨_, _, 1, Tryz.underlying115, rfl, rfl, by kernel_rfl, by decide⟩⟩
theorem Alj : FI Tryz.prog 107 7 7 := ⟨⟨_, _, 3, Tryz.underlying107, rfl, rfl, by kernel_rfl, by decide⟩⟩
theorem Uk : FI Tryz.prog 115 6 6 := ⟨⟨_, _, 1, Tryz.underlying115, rfl, rfl, by kernel_rfl, by decide⟩⟩
theorem Am5 : TI Tryz.prog 115 true 7 := ⟨⟨_, Tryz.underlying115, rfl⟩, by kernel_rfl⟩
theorem Ast : FnI Tryz.prog 44 := ⟨⟨_, Tryz.func44, by kernel_rfl, by kernel_rfl⟩⟩
theorem Are : FnI Tryz.prog 79 := ⟨⟨_, Tryz.func79, by kernel_rfl, by kernel_rfl⟩⟩
theorem Ar4 : FnI Tryz.prog 43 := ⟨⟨_, Tryz.func43, by kernel_rfl, by kernel_rfl⟩⟩
theorem Ash : FnI Tryz.prog 20 := ⟨⟨_, Tryz.func20, by kernel_rfl, by kernel_rfl⟩⟩
theorem fn9 : FnI Tryz.prog 9 := ⟨⟨_, Tryz.func9, by kernel_rfl, by kernel_rfl⟩⟩
theorem Ar7 : FnI Tryz.prog 10 := ⟨⟨_, Tryz.func10, by kernel_rfl, by kernel_rfl⟩⟩
def Dm (a0 : List UInt8) : Option Bool :=
 if (decide (1 ≤ (a0.length : Int))) then (some (decide ((a0.length : Int) ≤ 16))) else (some false)
theorem Oi {a0 : List UInt8} {r : Bool} (h : Dm a0 = some r) : Bz Tryz.prog 89 [.one (.sl a0.length (a0.flatMap eU8))] (· = .s (.one (.b r))) := by
 unfold Dm at h
 refine A8 Tryz.func89 rfl (nt := 11) rfl (Nbl rfl) ?_
 intro w0 S0
 refine csr (rm 1 rfl (Al (csr (rm 1 rfl (sv rfl (An Ku rfl) (sv rfl (G6 rfl rfl) (rm 1 rfl (Bc 6 rfl (fun hc => ?_) (fun hc => ?_)))))))))
 ·replace h := Bt hc h
  clear hc
  refine rm 1 rfl (son rfl rfl rfl (sv rfl (An Ku rfl) (son rfl rfl rfl (sv rfl (Eb rfl rfl) (rm 2 rfl (Al (Bo ?_)))))))
  obtain rfl := SJ h
  exact dnT rfl rfl rfl rfl
 ·replace h := Bu hc h
  clear hc
  refine rm 5 rfl (Al (Bo ?_))
  obtain rfl := SJ h
  exact dnT rfl rfl rfl rfl
def B7 (a0 : Af) : Option Bool :=
 (Dm a0.Key).bind fun v1 => if v1 then (if (decide ((a0.Val.length : Int) ≤ 32)) then (if a0.Del then (some (!(decide (0 < (a0.Val.length : Int))))) else (some true)) else (some false)) else (some false)
theorem Mv {a0 : Af} {r : Bool} (h : B7 a0 = some r) : Bz Tryz.prog 96 [.agg (EL.el a0)] (· = .s (.one (.b r))) := by
 unfold B7 at h
 refine A8 Tryz.func96 rfl (nt := 23) rfl (Nbl rfl) ?_
 intro w0 S0
 refine csr (Kp rfl rfl (rm 1 rfl (Al (csr (sv rfl (Aa J3 rfl) (sv rfl (Ae E6 rfl (.lp _ _ _ rfl) rfl) ?_))))))
 obtain ⟨v1, hv1, h⟩ := Ag h
 refine Bn rfl Ao1 (Ad rfl Aj) (A4 rfl) (Oi hv1) (rm 1 rfl (Bc 6 rfl (fun hc => ?_) (fun hc => ?_)))
 ·replace h := Bt hc h
  clear hc
  refine son rfl rfl rfl (sv rfl (Aa Q3 rfl) (son rfl rfl rfl (sv rfl (Ae E6 rfl (.lp _ _ _ rfl) rfl) (son rfl rfl rfl (sv rfl (An Ku rfl) (son rfl rfl rfl (sv rfl (Eb rfl rfl) (rm 2 rfl (Bc 12 rfl (fun hc => ?_) (fun hc => ?_))))))))))
  ·replace h := Bt hc h
   clear hc
   refine son rfl rfl rfl (sv rfl (Aa Xq rfl) (son rfl rfl rfl (sv rfl (Ae ti4 rfl (.lp _ _ _ rfl) rfl) (rm 1 rfl (Bc 15 rfl (fun hc => ?_) (fun hc => ?_))))))
   ·replace h := Bt hc h
    clear hc
    refine son rfl rfl rfl (sv rfl (Aa Q3 rfl) (son rfl rfl rfl (sv rfl (Ae E6 rfl (.lp _ _ _ rfl) rfl) (son rfl rfl rfl (sv rfl (An Ku rfl) (son rfl rfl rfl (sv rfl (B8 rfl rfl) (rm 1 rfl (son rfl rfl rfl (sv rfl (B1 rfl) (rm 2 rfl (Al (Bo ?_)))))))))))))
    obtain rfl := SJ h
    exact dnT rfl rfl rfl rfl
   ·replace h := Bu hc h
    clear hc
    refine rm 5 rfl (son rfl rfl rfl (sv rfl (B1 rfl) (rm 2 rfl (Al (Bo ?_)))))
    obtain rfl := SJ h
    exact dnT rfl rfl rfl rfl
  ·replace h := Bu hc h
   clear hc
   refine rm 3 rfl (Bh rfl rfl rfl (Bh rfl rfl rfl (Bh rfl rfl rfl (Bh rfl rfl rfl (rm 4 rfl (Al (Bo ?_)))))))
   obtain rfl := SJ h
   exact dnT rfl rfl rfl rfl
 ·replace h := Bu hc h
  clear hc
  refine rm 9 rfl (Bh rfl rfl rfl (Bh rfl rfl rfl (Bh rfl rfl rfl (Bh rfl rfl rfl (rm 4 rfl (Al (Bo ?_)))))))
  obtain rfl := SJ h
  exact dnT rfl rfl rfl rfl
def K3 (b1 : (List (List UInt8))) : Option (List (List UInt8)) :=
 some b1
def F4 (a0 : B2) (s2 : Int × (List (List UInt8))) : Option (LB (Int × (List (List UInt8))) ((List (List UInt8)))) :=
 if (decide (s2.1 < (a0.L.length : Int))) then ((idx a0.L s2.1).bind fun u3 => if (s2.2.length + [u3.Key].length) * 24 ≤ 140737488355328 then (some (.cont ((wI (s2.1 + 1)), (s2.2 ++ [u3.Key])))) else none) else (some (.brk s2.2))
def Gg (a0 : B2) : Option (List (List UInt8)) :=
 (Cw (F4 a0) fuel (0, ([] : List (List UInt8)))).bind fun e5 => K3 e5
theorem Oh {a0 : B2} {r : (List (List UInt8))} (h : Gg a0 = some r) : Bz Tryz.prog 98 [.agg [.sl a0.L.length (a0.L.flatMap Ac)]] (· = .s (.one (.sl r.length (r.flatMap (eL eU8))))) := by
 unfold Gg at h
 refine A8 Tryz.func98 rfl (nt := 20) rfl (Nbl rfl) ?_
 intro w0 S0
 refine csr (Kp rfl rfl (rm 1 rfl (Al (csr (rm 1 rfl (Al (Bp (csr (fl X6 Ry rfl rfl rfl rfl rfl rfl (sv rfl (An Qr rfl) (rm 1 rfl (Al ?_))))))))))))
 refine H6 46 1 3 (by decide) rfl ?_
 refine C4 ((List (List UInt8))) (fun b1 => [(3, .s (.one (.ls 1 b1.length)))]) (fun b1 => [.box [.sl a0.L.length (a0.L.flatMap Ac)], .arr 46 1 0 (b1.flatMap (eL eU8))]) (fun b1 => K3 b1 = some r) (fun _ _ => Az rfl) (fun _ _ => Ak rfl) (fun _ _ => Nbl rfl) (fun b1 h => ?_) ?_
 ·unfold K3 at h
  refine csr (rm 2 rfl (Al (Bo ?_)))
  obtain rfl := SJ h
  refine ⟨Or.inr rfl, _, _, _, (Ai (B9.tmp _ _ rfl) Au), (by (repeat' first | exact Ga.nil _ | apply Ga.cons | apply F5.one | apply F5.agg | exact Ci.nil | exact Ci.ls _ _ _ _ _ _ rfl (Ay (f := (eL eU8)) (fun _ => rfl) _).symm | exact Ci.id _ rfl | exact Cg.nil _ | apply Cg.cons)), ?_⟩
  rfl
 ·skip
  refine Bf ?_
  obtain ⟨x2, hx2, ho2⟩ := Ag h
  refine Bs (G := Nat × (Int × (List (List UInt8)))) (fun g => [(3, .s (.one (.ls 1 g.2.2.length))), (7, .s (.one (.sl a0.L.length (a0.L.flatMap Ac)))), (8, .s (.one (Ii6 (a0.L.length : Int)))), (9, .s (.one (Ii6 g.2.1)))]) (fun g => [.box [.sl a0.L.length (a0.L.flatMap Ac)], .arr 46 1 0 (g.2.2.flatMap (eL eU8))]) (fun g => Cw (F4 a0) g.1 g.2 = some x2) (fun g => g.1) (fuel, (0, ([] : List (List UInt8)))) hx2 ⟨rfl, rfl, rfl, rfl, trivial⟩ [] rfl (fun _ _ => Az rfl) (fun _ _ => Ak rfl) (fun _ _ => Nbl rfl) ?_
  clear hx2 h
  rintro ⟨n2, s2⟩ h
  obtain ⟨n2, y2, rfl, h, hk2⟩ := Dw h
  unfold F4 at h
  refine csr (sv rfl (Bi rfl rfl) (Al (Bp (ccI h rfl (fun h => ?_) (fun h => ?_)))))
  ·refine Be (Ab (Bp (Bf (Bp (Ax ?_)))))
   obtain ⟨u3, hu3, h⟩ := Ag h
   refine sv rfl (Bw (f := Ac) Qr (fun _ => rfl) rfl rfl rfl rfl hu3) ?_
   refine sv rfl (Bq (ys := [.sl u3.Key.length (u3.Key.flatMap eU8), .sl u3.Val.length (u3.Val.flatMap eU8), .b u3.Del]) Aas rfl (.cp _) rfl rfl) (Ce rfl Ag9 (A9 Amh rfl rfl rfl rfl (Nbl rfl) (Cc [.box [.sl a0.L.length (a0.L.flatMap Ac)], .arr 46 1 0 (s2.2.flatMap (eL eU8)), .box (EL.el u3)] rfl (Al (Ax (rm 1 rfl (sv rfl (Aa J3 rfl) (sv rfl (Ae E6 rfl (.lp _ _ _ rfl) rfl) ?_))))))))
   refine Fw rfl Tryz.underlying130 Ahb rfl rfl (List.all_eq_true.1 rfl) (by decide) ?_
   refine Cc [.box [.sl a0.L.length (a0.L.flatMap Ac)], .arr 46 1 0 (s2.2.flatMap (eL eU8)), .box (EL.el u3), .arr 46 1 0 ([u3.Key].flatMap (eL eU8))] rfl ?_
   obtain ⟨hb4, h⟩ := Cl h
   refine Wx (f := (eL eU8)) (xs := s2.2) (us := [u3.Key]) rfl Tryz.underlying130 Ahb Ah1 (fun _ => rfl) rfl rfl (.one _ _ _ _ (.ls _ _ _ _ _ _ rfl (Ay (f := (eL eU8)) (fun _ => rfl) [u3.Key]).symm)) rfl rfl rfl (.sl _ _ _ (Ay (f := (eL eU8)) (fun _ => rfl) _)) rfl rfl hb4 (by decide) ?_
   refine rm 1 rfl (Hy (Am (Ab (Ax (sv rfl (Bj rfl rfl) (rm 1 rfl (Al ?_)))))))
   obtain rfl := SJ h
   exact ⟨(n2, ((wI (s2.1 + 1)), (s2.2 ++ [u3.Key]))), _, hk2, ⟨rfl, rfl, rfl, rfl, trivial⟩, rfl, Nat.lt_succ_self _⟩
  ·refine Dp (Aq (Aq (Bd (Ab ?_))))
   obtain rfl := SJ h
   obtain rfl : _ = x2 := hk2
   exact ⟨s2.2, _, ho2, ⟨rfl, trivial⟩, rfl⟩
def Mr (a0 : List UInt8) (a1 : List UInt8) : Option Int :=
 some (Dq a0 a1)
theorem Rs {a0 : List UInt8} {a1 : List UInt8} {r : Int} (h : Mr a0 a1 = some r) : Bz Tryz.prog 108 [.one (.sl a0.length (a0.flatMap eU8)), .one (.sl a1.length (a1.flatMap eU8))] (· = .s (.one (Ii6 r))) := by
 unfold Mr at h
 refine A8 Tryz.func108 rfl (nt := 8) rfl (Nbl rfl) ?_
 intro w0 S0
 refine csr (rm 1 rfl (Al (csr (rm 2 rfl (sv rfl (Aig (a := a0) (b := a1) Anq rfl rfl rfl rfl rfl rfl) (rm 1 rfl (Al (Bo ?_))))))))
 obtain rfl := SJ h
 exact dnT rfl rfl rfl rfl
def Iz (a0 : List UInt8) (a1 : List UInt8) : Option Int :=
 (Mr a0 a1).bind fun v1 => some v1
theorem La {a0 : List UInt8} {a1 : List UInt8} {r : Int} (h : Iz a0 a1 = some r) : Bz Tryz.prog 86 [.one (.sl a0.length (a0.flatMap eU8)), .one (.sl a1.length (a1.flatMap eU8))] (· = .s (.one (Ii6 r))) := by
 unfold Iz at h
 refine A8 Tryz.func86 rfl (nt := 8) rfl (Nbl rfl) ?_
 intro w0 S0
 refine csr (rm 1 rfl (Al (csr (rm 1 rfl (sv rfl (A3 rfl) ?_)))))
 obtain ⟨v1, hv1, h⟩ := Ag h
 refine Bn rfl Ao4 (Ad rfl (Ad rfl Aj)) (A4 rfl) (Rs hv1) (rm 1 rfl (Al (Bo ?_)))
 obtain rfl := SJ h
 exact dnT rfl rfl rfl rfl
def Mp (b1 : Unit) : Option Bool :=
 some true
def Df (a0 : List (List UInt8)) (s2 : Int) : Option (LR (Int) (Unit) (Bool)) :=
 if (decide (s2 < (a0.length : Int))) then ((idx a0 (wI (s2 - 1))).bind fun u3 => (idx a0 s2).bind fun u4 => (Iz u3 u4).bind fun v5 => if (decide (0 ≤ v5)) then (some (.ret false)) else (some (.cont (wI (s2 + 1))))) else (some (.brk ()))
def C5 (a0 : List (List UInt8)) : Option Bool :=
 (Fc (Df a0) fuel 1).bind fun x => match x with | .inl r => some r | .inr e6 => Mp e6
theorem Kw {a0 : List (List UInt8)} {r : Bool} (h : C5 a0 = some r) : Bz Tryz.prog 59 [.one (.sl a0.length (a0.flatMap (eL eU8)))] (· = .s (.one (.b r))) := by
 unfold C5 at h
 refine A8 Tryz.func59 rfl (nt := 21) rfl (Nbl rfl) ?_
 intro w0 S0
 refine csr (rm 1 rfl (Al (Bp (csr (rm 1 rfl (Al (C4 (Unit) (fun b1 => []) (fun b1 => []) (fun b1 => Mp b1 = some r) (fun _ _ => Az rfl) (fun _ _ => Ak rfl) (fun _ _ => Nbl rfl) (fun b1 h => ?_) ?_)))))))
 ·unfold Mp at h
  refine csr (rm 1 rfl (Al (Bo ?_)))
  obtain rfl := SJ h
  exact dnT rfl rfl rfl rfl
 ·skip
  refine Bf ?_
  obtain ⟨x2, hx2, ho2⟩ := Ag h
  refine Bs (G := Nat × (Int)) (fun g => [(0, .s (.one (.sl a0.length (a0.flatMap (eL eU8))))), (3, .s (.one (Ii6 g.2)))]) (fun g => []) (fun g => Fc (Df a0) g.1 g.2 = some x2) (fun g => g.1) (fuel, 1) hx2 ⟨rfl, rfl, trivial⟩ [] rfl (fun _ _ => Az rfl) (fun _ _ => Ak rfl) (fun _ _ => Nbl rfl) ?_
  clear hx2 h
  rintro ⟨n2, s2⟩ h
  obtain ⟨n2, y2, rfl, h, hk2⟩ := Dc h
  unfold Df at h
  refine Bp (csr (rm 2 rfl (sv rfl (An Wf rfl) (sv rfl (Bi rfl rfl) (Al (ccI h rfl (fun h => ?_) (fun h => ?_)))))))
  ·refine Be (Ab (Bp (Bf (Bp ?_))))
   refine Qc mixed (by kernel_rfl) ?_
   refine dv rfl (A3 rfl) (dv rfl (A3 rfl) (dv rfl (Qi rfl rfl) ?_))
   obtain ⟨u3, hu3, h⟩ := Ag h
   refine dv rfl (Bw (f := (eL eU8)) Wf (fun _ => rfl) rfl rfl rfl rfl hu3) ?_
   refine dv rfl (Ae E6 rfl (.cp _) rfl) (dv rfl (A3 rfl) (dv rfl (A3 rfl) ?_))
   obtain ⟨u4, hu4, h⟩ := Ag h
   refine dv rfl (Bw (f := (eL eU8)) Wf (fun _ => rfl) rfl rfl rfl rfl hu4) ?_
   refine dv rfl (Ae E6 rfl (.cp _) rfl) ?_
   obtain ⟨v5, hv5, h⟩ := Ag h
   refine dd rfl (C1 Ane (Ad rfl (Ad rfl Aj)) rfl (La hv5)) (dv rfl (G6 rfl rfl) (Py (Ab (ccI h rfl (fun h => ?_) (fun h => ?_)))))
   ·refine csr (rm 1 rfl (Al (Bo (Ao (Ah (Ah (Ao (Ah ?_))))))))
    obtain rfl := SJ h
    obtain rfl : Sum.inl _ = x2 := hk2
    replace ho2 : some _ = some _ := ho2
    obtain rfl := Option.some.inj ho2
    exact dnT rfl rfl rfl rfl
   ·refine Be (Am (Ab (Ax (rm 1 rfl (sv rfl (Bj rfl rfl) (rm 1 rfl (Al ?_)))))))
    obtain rfl := SJ h
    exact ⟨(n2, (wI (s2 + 1))), _, hk2, ⟨rfl, rfl, trivial⟩, rfl, Nat.lt_succ_self _⟩
  ·refine Dp (Aq (Aq (Bd (Ab ?_))))
   obtain rfl := SJ h
   obtain rfl : _ = x2 := hk2
   exact ⟨(), _, ho2, trivial, rfl⟩
def Hg (a0 : B2) (b1 : Unit) : Option Bool :=
 if (decide ((a0.L.length : Int) ≤ 16)) then ((Gg a0).bind fun v2 => (C5 v2).bind fun v3 => some v3) else (some false)
def Fs (a0 : B2) (s4 : Int) : Option (LR (Int) (Unit) (Bool)) :=
 if (decide (s4 < (a0.L.length : Int))) then ((idx a0.L s4).bind fun u5 => (B7 u5).bind fun v6 => if (!v6) then (some (.ret false)) else (some (.cont (wI (s4 + 1))))) else (some (.brk ()))
def H8 (a0 : B2) : Option Bool :=
 (Fc (Fs a0) fuel 0).bind fun x => match x with | .inl r => some r | .inr e7 => Hg a0 e7
theorem Ps {a0 : B2} {r : Bool} (h : H8 a0 = some r) : Bz Tryz.prog 95 [.agg [.sl a0.L.length (a0.L.flatMap Ac)]] (· = .s (.one (.b r))) := by
 unfold H8 at h
 refine A8 Tryz.func95 rfl (nt := 25) rfl (Nbl rfl) ?_
 intro w0 S0
 refine csr (Kp rfl rfl (rm 1 rfl (Al (Bp (csr (fl X6 Ry rfl rfl rfl rfl rfl rfl (sv rfl (An Qr rfl) (rm 1 rfl (Al (C4 (Unit) (fun b1 => [(1, .s (.one (.lp 0 0)))]) (fun b1 => [.box [.sl a0.L.length (a0.L.flatMap Ac)]]) (fun b1 => Hg a0 b1 = some r) (fun _ _ => Az rfl) (fun _ _ => Ak rfl) (fun _ _ => Nbl rfl) (fun b1 h => ?_) ?_))))))))))
 ·unfold Hg at h
  refine csr (fl X6 Ry rfl rfl rfl rfl rfl rfl (sv rfl (An Qr rfl) (sv rfl (Eb rfl rfl) (rm 1 rfl (Bc 20 rfl (fun hc => ?_) (fun hc => ?_))))))
  ·replace h := Bt hc h
   clear hc
   refine son rfl rfl rfl (sv rfl (Ap Agk rfl (.lp _ _ _ rfl) (Nbl rfl)) (son rfl rfl rfl ?_))
   obtain ⟨v2, hv2, h⟩ := Ag h
   refine Bn rfl Aqy (Ad rfl Aj) (A4 rfl) (Oh hv2) (son rfl rfl rfl ?_)
   obtain ⟨v3, hv3, h⟩ := Ag h
   refine Bn rfl Aog (Ad rfl Aj) (A4 rfl) (Kw hv3) (rm 2 rfl (Al (Bo ?_)))
   obtain rfl := SJ h
   exact dnT rfl rfl rfl rfl
  ·replace h := Bu hc h
   clear hc
   refine rm 5 rfl (Al (Bo ?_))
   obtain rfl := SJ h
   exact dnT rfl rfl rfl rfl
 ·skip
  refine Bf ?_
  obtain ⟨x4, hx4, ho4⟩ := Ag h
  refine Bs (G := Nat × (Int)) (fun g => [(1, .s (.one (.lp 0 0))), (6, .s (.one (.sl a0.L.length (a0.L.flatMap Ac)))), (7, .s (.one (Ii6 (a0.L.length : Int)))), (8, .s (.one (Ii6 g.2)))]) (fun g => [.box [.sl a0.L.length (a0.L.flatMap Ac)]]) (fun g => Fc (Fs a0) g.1 g.2 = some x4) (fun g => g.1) (fuel, 0) hx4 ⟨rfl, rfl, rfl, rfl, trivial⟩ [] rfl (fun _ _ => Az rfl) (fun _ _ => Ak rfl) (fun _ _ => Nbl rfl) ?_
  clear hx4 h
  rintro ⟨n4, s4⟩ h
  obtain ⟨n4, y4, rfl, h, hk4⟩ := Dc h
  unfold Fs at h
  refine csr (sv rfl (Bi rfl rfl) (Al (Bp (ccI h rfl (fun h => ?_) (fun h => ?_)))))
  ·refine Be (Ab (Bp (Bf (Bp (Ax ?_)))))
   obtain ⟨u5, hu5, h⟩ := Ag h
   refine sv rfl (Bw (f := Ac) Qr (fun _ => rfl) rfl rfl rfl rfl hu5) ?_
   refine sv rfl (Bq (ys := [.sl u5.Key.length (u5.Key.flatMap eU8), .sl u5.Val.length (u5.Val.flatMap eU8), .b u5.Del]) Aas rfl (.cp _) rfl rfl) (Ce rfl Ag9 (A9 Amh rfl rfl rfl rfl (Nbl rfl) (Cc [.box [.sl a0.L.length (a0.L.flatMap Ac)], .box (EL.el u5)] rfl (Al (csr (sv rfl (Ap Aas rfl (.lp _ _ _ rfl) (Nbl rfl)) ?_))))))
   obtain ⟨v6, hv6, h⟩ := Ag h
   refine Bn rfl Aq3 (Ad rfl Aj) (A4 rfl) (Mv hv6) (sv rfl (B1 rfl) (Al (ccI h rfl (fun h => ?_) (fun h => ?_))))
   ·refine csr (rm 1 rfl (Al (Bo (Ao (Ah (Ah (Ao (Ah ?_))))))))
    obtain rfl := SJ h
    obtain rfl : Sum.inl _ = x4 := hk4
    replace ho4 : some _ = some _ := ho4
    obtain rfl := Option.some.inj ho4
    exact dnT rfl rfl rfl rfl
   ·refine Be (Am (Ab (Ax (sv rfl (Bj rfl rfl) (rm 1 rfl (Al ?_))))))
    obtain rfl := SJ h
    exact ⟨(n4, (wI (s4 + 1))), _, hk4, ⟨rfl, rfl, rfl, rfl, trivial⟩, rfl, Nat.lt_succ_self _⟩
  ·refine Dp (Aq (Aq (Bd (Ab ?_))))
   obtain rfl := SJ h
   obtain rfl : _ = x4 := hk4
   exact ⟨(), _, ho4, ⟨rfl, trivial⟩, rfl⟩
def F2 (b1 : (List (List UInt8))) : Option Bool :=
 (C5 b1).bind fun v2 => some v2
def F1 (a0 : List Aw) (s3 : Int × (List (List UInt8))) : Option (LB (Int × (List (List UInt8))) ((List (List UInt8)))) :=
 if (decide (s3.1 < (a0.length : Int))) then ((idx a0 s3.1).bind fun u4 => if (s3.2.length + [u4.Key].length) * 24 ≤ 140737488355328 then (some (.cont ((wI (s3.1 + 1)), (s3.2 ++ [u4.Key])))) else none) else (some (.brk s3.2))
def Gf (a0 : List Aw) : Option Bool :=
 (Cw (F1 a0) fuel (0, ([] : List (List UInt8)))).bind fun e6 => F2 e6
theorem Sm {a0 : List Aw} {r : Bool} (h : Gf a0 = some r) : Bz Tryz.prog 111 [.one (.sl a0.length (a0.flatMap A2))] (· = .s (.one (.b r))) := by
 unfold Gf at h
 refine A8 Tryz.func111 rfl (nt := 20) rfl (Nbl rfl) ?_
 intro w0 S0
 refine csr (rm 1 rfl (Al (csr (rm 1 rfl (Al (Bp (csr (rm 1 rfl (sv rfl (An P8 rfl) (rm 1 rfl (Al ?_)))))))))))
 refine H6 46 1 3 (by decide) rfl ?_
 refine C4 ((List (List UInt8))) (fun b1 => [(3, .s (.one (.ls 0 b1.length)))]) (fun b1 => [.arr 46 1 0 (b1.flatMap (eL eU8))]) (fun b1 => F2 b1 = some r) (fun _ _ => Az rfl) (fun _ _ => Ak rfl) (fun _ _ => Nbl rfl) (fun b1 h => ?_) ?_
 ·unfold F2 at h
  refine csr (sv rfl (A3 rfl) ?_)
  refine Vy 18 rfl (by (repeat' first | exact Ga.nil _ | apply Ga.cons | apply F5.one | apply F5.agg | exact Ci.nil | exact Ci.ls _ _ _ _ _ _ rfl (Ay (f := (eL eU8)) (fun _ => rfl) _).symm | exact Ci.id _ rfl | exact Cg.nil _ | apply Cg.cons)) ?_
  obtain ⟨v2, hv2, h⟩ := Ag h
  refine Bn rfl Aog (Ad rfl Aj) (A4 rfl) (Kw hv2) (rm 1 rfl (Al (Bo ?_)))
  obtain rfl := SJ h
  exact dnT rfl rfl rfl rfl
 ·skip
  refine Bf ?_
  obtain ⟨x3, hx3, ho3⟩ := Ag h
  refine Bs (G := Nat × (Int × (List (List UInt8)))) (fun g => [(3, .s (.one (.ls 0 g.2.2.length))), (6, .s (.one (.sl a0.length (a0.flatMap A2)))), (7, .s (.one (Ii6 (a0.length : Int)))), (8, .s (.one (Ii6 g.2.1)))]) (fun g => [.arr 46 1 0 (g.2.2.flatMap (eL eU8))]) (fun g => Cw (F1 a0) g.1 g.2 = some x3) (fun g => g.1) (fuel, (0, ([] : List (List UInt8)))) hx3 ⟨rfl, rfl, rfl, rfl, trivial⟩ [] rfl (fun _ _ => Az rfl) (fun _ _ => Ak rfl) (fun _ _ => Nbl rfl) ?_
  clear hx3 h
  rintro ⟨n3, s3⟩ h
  obtain ⟨n3, y3, rfl, h, hk3⟩ := Dw h
  unfold F1 at h
  refine csr (sv rfl (Bi rfl rfl) (Al (Bp (ccI h rfl (fun h => ?_) (fun h => ?_)))))
  ·refine Be (Ab (Bp (Bf (Bp (Ax ?_)))))
   obtain ⟨u4, hu4, h⟩ := Ag h
   refine sv rfl (Bw (f := A2) P8 (fun _ => rfl) rfl rfl rfl rfl hu4) ?_
   refine sv rfl (Bq (ys := [.sl u4.Key.length (u4.Key.flatMap eU8), .sl u4.Val.length (u4.Val.flatMap eU8)]) Ai0 rfl (.cp _) rfl rfl) (Ce rfl Ajb (A9 Ajw rfl rfl rfl rfl (Nbl rfl) (Cc [.arr 46 1 0 (s3.2.flatMap (eL eU8)), .box (EL.el u4)] rfl (Al (Ax (rm 1 rfl (sv rfl (Aa Ql rfl) (sv rfl (Ae E6 rfl (.lp _ _ _ rfl) rfl) ?_))))))))
   refine Fw rfl Tryz.underlying130 Ahb rfl rfl (List.all_eq_true.1 rfl) (by decide) ?_
   refine Cc [.arr 46 1 0 (s3.2.flatMap (eL eU8)), .box (EL.el u4), .arr 46 1 0 ([u4.Key].flatMap (eL eU8))] rfl ?_
   obtain ⟨hb5, h⟩ := Cl h
   refine Wx (f := (eL eU8)) (xs := s3.2) (us := [u4.Key]) rfl Tryz.underlying130 Ahb Ah1 (fun _ => rfl) rfl rfl (.one _ _ _ _ (.ls _ _ _ _ _ _ rfl (Ay (f := (eL eU8)) (fun _ => rfl) [u4.Key]).symm)) rfl rfl rfl (.sl _ _ _ (Ay (f := (eL eU8)) (fun _ => rfl) _)) rfl rfl hb5 (by decide) ?_
   refine rm 1 rfl (Hy (Am (Ab (Ax (sv rfl (Bj rfl rfl) (rm 1 rfl (Al ?_)))))))
   obtain rfl := SJ h
   exact ⟨(n3, ((wI (s3.1 + 1)), (s3.2 ++ [u4.Key]))), _, hk3, ⟨rfl, rfl, rfl, rfl, trivial⟩, rfl, Nat.lt_succ_self _⟩
  ·refine Dp (Aq (Aq (Bd (Ab ?_))))
   obtain rfl := SJ h
   obtain rfl : _ = x3 := hk3
   exact ⟨s3.2, _, ho3, ⟨rfl, trivial⟩, rfl⟩
def J7 (a0 : Ar) (a1 : List UInt8) : Option Bool :=
 (Iz a1 a0.Lo).bind fun v1 => if (decide (0 ≤ v1)) then (if a0.Open then (some true) else ((Iz a1 a0.Hi).bind fun v2 => some (decide (v2 < 0)))) else (some false)
theorem O2 {a0 : Ar} {a1 : List UInt8} {r : Bool} (h : J7 a0 a1 = some r) : Bz Tryz.prog 57 [.agg (EL.el a0), .one (.sl a1.length (a1.flatMap eU8))] (· = .s (.one (.b r))) := by
 unfold J7 at h
 refine A8 Tryz.func57 rfl (nt := 21) rfl (Nbl rfl) ?_
 intro w0 S0
 refine csr (Kp rfl rfl (rm 1 rfl (Al (csr (rm 1 rfl (sv rfl (Aa Pm rfl) (sv rfl (Ae E6 rfl (.lp _ _ _ rfl) rfl) ?_)))))))
 obtain ⟨v1, hv1, h⟩ := Ag h
 refine Bn rfl Ane (Ad rfl (Ad rfl Aj)) (A4 rfl) (La hv1) (sv rfl (G6 rfl rfl) (rm 1 rfl (Bc 10 rfl (fun hc => ?_) (fun hc => ?_))))
 ·replace h := Bt hc h
  clear hc
  refine son rfl rfl rfl (sv rfl (Aa U8 rfl) (son rfl rfl rfl (sv rfl (Ae ti4 rfl (.lp _ _ _ rfl) rfl) (rm 1 rfl (Bc 13 rfl (fun hc => ?_) (fun hc => ?_))))))
  ·replace h := Bt hc h
   clear hc
   refine rm 8 rfl (Al (Bo ?_))
   obtain rfl := SJ h
   exact dnT rfl rfl rfl rfl
  ·replace h := Bu hc h
   clear hc
   refine rm 1 rfl (son rfl rfl rfl (sv rfl (Aa Ng rfl) (son rfl rfl rfl (sv rfl (Ae E6 rfl (.lp _ _ _ rfl) rfl) (son rfl rfl rfl ?_)))))
   obtain ⟨v2, hv2, h⟩ := Ag h
   refine Bn rfl Ane (Ad rfl (Ad rfl Aj)) (A4 rfl) (La hv2) (son rfl rfl rfl (sv rfl (Bi rfl rfl) (rm 3 rfl (Al (Bo ?_)))))
   obtain rfl := SJ h
   exact dnT rfl rfl rfl rfl
 ·replace h := Bu hc h
  clear hc
  refine rm 3 rfl (Bh rfl rfl rfl (Bh rfl rfl rfl (Bh rfl rfl rfl (Bh rfl rfl rfl (Bh rfl rfl rfl (rm 3 rfl (Al (Bo ?_))))))))
  obtain rfl := SJ h
  exact dnT rfl rfl rfl rfl
def kvk (x : Aw) : List UInt8 := x.Key
def kB (x : Aw) : ByteArray := ⟨x.Key.toArray⟩
theorem Zz {t : List Aw} {j : Nat} {k : List UInt8} (h : (t.map kB)[j]? = some ⟨k.toArray⟩) : (t.map kvk)[j]? = some k := by
 rw [List.getElem?_map] at h ⊢
 cases ht : t[j]? with
 | none => rw [ht] at h; cases h
 | some x =>
  rw [ht] at h
  have h1 : (⟨x.Key.toArray⟩ : ByteArray) = ⟨k.toArray⟩ := Option.some.inj h
  have h2 : x.Key.toArray = k.toArray := congrArg ByteArray.data h1
  have h3 : x.Key = k := by have := congrArg Array.toList h2; simpa using this
  rw [Option.map_some]; exact congrArg some h3
theorem Agr {t : List Aw} {k : List UInt8} (h : (⟨k.toArray⟩ : ByteArray) ∉ t.map kB) : k ∉ t.map kvk := fun hk => by
 obtain ⟨x, hx, rfl⟩ := List.mem_map.1 hk
 exact h (List.mem_map.2 ⟨x, hx, rfl⟩)
theorem Ajl {t : List Aw} {j : Nat} {x : Aw} (h : (t.map kvk)[j]? = some (kvk x)) : (t.set j x).map kB = t.map kB := by
 rw [List.map_set]
 apply List.ext_getElem?
 intro i
 rw [List.getElem?_set]
 by_cases hij : j = i
 ·subst hij
  rw [List.getElem?_map] at h ⊢
  cases ht : t[j]? with
  | none => rw [ht] at h; cases h
  | some y =>
   rw [ht] at h
   have h2 : y.Key = x.Key := Option.some.inj h
   have hlt : j < t.length := (List.getElem?_eq_some_iff.1 ht).1
   rw [if_pos rfl, if_pos (by simpa using hlt), Option.map_some]
   show some (ByteArray.mk x.Key.toArray) = some (ByteArray.mk y.Key.toArray)
   rw [h2]
 ·rw [if_neg hij]
theorem Amy {W : World} {S : Dd} {a b : List UInt8} {va vb : Value} (h1 : Rep W S (.sl a.length (a.flatMap eU8)) va) (h2 : Rep W S (.sl b.length (b.flatMap eU8)) vb) : (callFunc 123 #[va, vb]).run Tryz.prog W = .ok (.value (.int .i64 (Dq a b))) W := by
 rw [← Ag3] at h1 h2
 obtain ⟨fn, q1, q2, q3, q4, q5⟩ := Anq.h
 have hrun : (Extern.BytealgCompare.compare #[va, vb]).run Tryz.prog W = .ok (.int .i64 (Dq a b)) W := by
  change Sem.run Tryz.prog (do
   let p ← Extern.Bytes.bytesOf va
   let q ← Extern.Bytes.bytesOf vb
   pure (goInt (Extern.BytealgCompare.cmp p q))) W = _
  simp only [Sem.run_bind, Qd h1, Qd h2, Result.andThen_ok, Ajv, Sem.run_pure]
  rfl
 have hcall := run_callFunc_extern (P := Tryz.prog) q1 q2 q3 q4 q5 #[va, vb] W
 rw [hrun] at hcall
 simpa using hcall
theorem Alp {W : World} {S : Dd} {a b : List UInt8} {va vb : Value} (h1 : Rep W S (.sl a.length (a.flatMap eU8)) va) (h2 : Rep W S (.sl b.length (b.flatMap eU8)) vb) : Calls Tryz.prog 108 #[va, vb] W fun e w' => e = .returned (.int .i64 (Dq a b)) ∧ w' = W := by
 have hx := Amy h1 h2
 generalize Dq a b = r at hx ⊢
 clear h1 h2
 go_enter Tryz.func108, Tryz.ntmps108
 go_wp2
 go_ret
 exact ⟨rfl, rfl⟩
theorem An1 {W : World} {S : Dd} {a b : List UInt8} {va vb : Value} (h1 : Rep W S (.sl a.length (a.flatMap eU8)) va) (h2 : Rep W S (.sl b.length (b.flatMap eU8)) vb) : Calls Tryz.prog 86 #[va, vb] W fun e w' => e = .returned (.int .i64 (Dq a b)) ∧ w' = W := by
 have hcon := Alp h1 h2
 generalize Dq a b = r at hcon ⊢
 clear h1 h2
 go_enter Tryz.func86, Tryz.ntmps86
 go_wp2_with (go_at_call 108; refine hcon.mono ?_; rintro e w' ⟨rfl, rfl⟩)
 go_ret
 exact ⟨rfl, rfl⟩
set_option maxHeartbeats 1000000 in
theorem Anz {W : World} {S : Dd} {a b : List UInt8} {va vb ua ub : Value} (hS : ∀ b i, S b i → b < W.heap.size) (h1 : Rep W S (.sl a.length (a.flatMap eU8)) va) (h2 : Rep W S (.sl b.length (b.flatMap eU8)) vb) (oc : ua.oneCell' = true) (od : ub.oneCell' = true) :
  Calls Tryz.prog 113 #[.agg #[va, ua], .agg #[vb, ub]] W fun e w' => e = .returned (.int .i64 (Dq a b)) ∧ ∃ q os', w' = Go.Sort.grow (W.drewN q) os' := by
 have oa := h1.oneCell
 have ob := h2.oneCell
 have hcon : ∀ o1 o2 : Obj, Calls Tryz.prog 86 #[va, vb] ((W.alloc o1).alloc o2) fun e w' => e = .returned (.int .i64 (Dq a b)) ∧ w' = (W.alloc o1).alloc o2 := fun o1 o2 => by
  have k1 : ∀ b i, S b i → S b i ∧ ((W.alloc o1).alloc o2).cell? ⟨b, i, none⟩ = W.cell? ⟨b, i, none⟩ := fun b i hs =>
   ⟨hs, World.cell?_of_block (w := W) ((Below.heap_alloc _ o2 b (by have := hS b i hs; simp; omega)).trans (Below.heap_alloc W o1 b (hS b i hs)))⟩
  exact An1 (h1.mono k1) (h2.mono k1)
 generalize Dq a b = r at hcon ⊢
 clear h1 h2
 go_enter Tryz.func113, Tryz.ntmps113
 go_wp2_with (go_at_call 86; refine (hcon _ _).mono ?_; rintro e w' ⟨rfl, rfl⟩)
 go_ret
 exact ⟨rfl, 0, _, by rw [Go.Sort.alloc_eq_grow, Go.Sort.alloc_eq_grow, Go.Sort.grow_grow]; rfl⟩
def Xv : Go.Shelf.Ren := ⟨fun | 6 => 112 | 15 => 125 | 14 => 124 | 28 => 136 | 29 => 137 | 20 => 128 | 21 => 129 | 22 => 130 | 23 => 131 | 24 => 132 | 25 => 133 | 26 => 134 | 27 => 135 | 46 => 139 | 47 => 140 | 48 => 141 | 49 => 142 | 50 => 143 | 57 => 144 | n => n, fun | 22 => 37 | 24 => 77 | 25 => 176 | 3 => 3 | 39 => 188 | 0 => 0 | 53 => 173 | 55 => 165 | 4 => 4 | 46 => 193 | 45 => 192 | 50 => 160 | 5 => 5 | 9 => 9 | 66 => 201 | 70 => 205 | 76 => 207 | 77 => 208 | n => n, fun | n => n⟩
theorem Amm : Go.Proofs.SlLaysF0.n6 Tryz.prog Xv := {
 mixed := by kernel_rfl,
 f6 :=⟨ "slices.SortFunc[[]godwit/api.KV,godwit/api.KV]", by decide, Tryz.func112.trans (congrArg some (by kernel_rfl))⟩,
 f14 :=⟨ "slices.pdqsortCmpFunc[godwit/api.KV]", by decide, Tryz.func124.trans (congrArg some (by kernel_rfl))⟩,
 f15 := Tryz.func125.trans (congrArg some (by kernel_rfl)),
 f20 :=⟨ "slices.insertionSortCmpFunc[godwit/api.KV]", by decide, Tryz.func128.trans (congrArg some (by kernel_rfl))⟩,
 f21 :=⟨ "slices.heapSortCmpFunc[godwit/api.KV]", by decide, Tryz.func129.trans (congrArg some (by kernel_rfl))⟩,
 f22 :=⟨ "slices.breakPatternsCmpFunc[godwit/api.KV]", by decide, Tryz.func130.trans (congrArg some (by kernel_rfl))⟩,
 f23 :=⟨ "slices.choosePivotCmpFunc[godwit/api.KV]", by decide, Tryz.func131.trans (congrArg some (by kernel_rfl))⟩,
 f24 :=⟨ "slices.reverseRangeCmpFunc[godwit/api.KV]", by decide, Tryz.func132.trans (congrArg some (by kernel_rfl))⟩,
 f25 :=⟨ "slices.partialInsertionSortCmpFunc[godwit/api.KV]", by decide, Tryz.func133.trans (congrArg some (by kernel_rfl))⟩,
 f26 :=⟨ "slices.partitionEqualCmpFunc[godwit/api.KV]", by decide, Tryz.func134.trans (congrArg some (by kernel_rfl))⟩,
 f27 :=⟨ "slices.partitionCmpFunc[godwit/api.KV]", by decide, Tryz.func135.trans (congrArg some (by kernel_rfl))⟩,
 f28 := Tryz.func136.trans (congrArg some (by kernel_rfl)),
 f29 := Tryz.func137.trans (congrArg some (by kernel_rfl)),
 f46 :=⟨ "slices.siftDownCmpFunc[godwit/api.KV]", by decide, Tryz.func139.trans (congrArg some (by kernel_rfl))⟩,
 f47 := Tryz.func140.trans (congrArg some (by kernel_rfl)),
 f48 := Tryz.func141.trans (congrArg some (by kernel_rfl)),
 f49 :=⟨ "slices.medianAdjacentCmpFunc[godwit/api.KV]", by decide, Tryz.func142.trans (congrArg some (by kernel_rfl))⟩,
 f50 :=⟨ "slices.medianCmpFunc[godwit/api.KV]", by decide, Tryz.func143.trans (congrArg some (by kernel_rfl))⟩,
 f57 :=⟨ "slices.order2CmpFunc[godwit/api.KV]", by decide, Tryz.func144.trans (congrArg some (by kernel_rfl))⟩,
 t0 := Tryz.underlying0,
 a0 := Tryz.isAgg0,
 z0 := Tryz.sizeOf0,
 v0 := Tryz.zeroValue0,
 t3 := Tryz.underlying3,
 a3 := Tryz.isAgg3,
 z3 := Tryz.sizeOf3,
 v3 := Tryz.zeroValue3,
 t4 := Tryz.underlying4,
 a4 := Tryz.isAgg4,
 z4 := Tryz.sizeOf4,
 v4 := Tryz.zeroValue4,
 t5 := Tryz.underlying5,
 a5 := Tryz.isAgg5,
 z5 := Tryz.sizeOf5,
 v5 := Tryz.zeroValue5,
 t9 := Tryz.underlying9,
 a9 := Tryz.isAgg9,
 z9 := Tryz.sizeOf9,
 v9 := Tryz.zeroValue9,
 t22 := Tryz.underlying37,
 a22 := Tryz.isAgg37,
 z22 := Tryz.sizeOf37,
 v22 := Tryz.zeroValue37,
 t25 := Tryz.underlying176,
 a25 := Tryz.isAgg176,
 z25 := Tryz.sizeOf176,
 v25 := Tryz.zeroValue176,
 t39 := Tryz.underlying188,
 a39 := Tryz.isAgg188,
 z39 := Tryz.sizeOf188,
 v39 := Tryz.zeroValue188,
 t45 := Tryz.underlying192,
 a45 := Tryz.isAgg192,
 z45 := Tryz.sizeOf192,
 v45 := Tryz.zeroValue192,
 t46 := Tryz.underlying193,
 a46 := Tryz.isAgg193,
 z46 := Tryz.sizeOf193,
 v46 := Tryz.zeroValue193,
 t50 := Tryz.underlying160,
 a50 := Tryz.isAgg160,
 z50 := Tryz.sizeOf160,
 v50 := Tryz.zeroValue160,
 t53 := Tryz.underlying173,
 a53 := Tryz.isAgg173,
 z53 := Tryz.sizeOf173,
 v53 := Tryz.zeroValue173,
 t55 := Tryz.underlying165,
 a55 := Tryz.isAgg165,
 z55 := Tryz.sizeOf165,
 v55 := Tryz.zeroValue165,
 t66 := Tryz.underlying201,
 a66 := Tryz.isAgg201,
 z66 := Tryz.sizeOf201,
 v66 := Tryz.zeroValue201,
 t70 := Tryz.underlying205,
 a70 := Tryz.isAgg205,
 z70 := Tryz.sizeOf205,
 v70 := Tryz.zeroValue205,
 t76 := Tryz.underlying207,
 a76 := Tryz.isAgg207,
 z76 := Tryz.sizeOf207,
 v76 := Tryz.zeroValue207,
 t77 := Tryz.underlying208,
 a77 := Tryz.isAgg208,
 z77 := Tryz.sizeOf208,
 v77 := Tryz.zeroValue208}
theorem Agx {xs : List Aw} (hn : xs.length ≤ 1000000000000000000) (hd : I2 kvk xs) : C3 Tryz.prog 112 [.arr 77 2 0 (xs.flatMap A2)] [.one (.ls 0 xs.length), .one (.raw (.func (.func 113) #[] #[]))] (fun y m' => y = .tup [] ∧ m' = [.arr 77 2 0 ((Yx kvk xs).flatMap A2)]) :=
 Ana (ρ := Xv) (f := A2) (g := 113) Amm (fun a b => Dq (kvk a) (kvk b)) (fun _ => rfl) (by decide) Tryz.isAgg77 Tryz.sizeOf77 Ato (enters_of Tryz.func113 (by kernel_rfl) rfl) (fun W S x y vx vy hS hx hy => by
  obtain ⟨v0, u0, rfl⟩ : ∃ v0 u0, vx = [v0, u0] := by
   match vx, hx.1 with
   | [a, b], _ => exact ⟨a, b, rfl⟩
  obtain ⟨v1, u1, rfl⟩ : ∃ v1 u1, vy = [v1, u1] := by
   match vy, hy.1 with
   | [a, b], _ => exact ⟨a, b, rfl⟩
  exact Anz hS (hx.2 0 _ _ rfl rfl) (hy.2 0 _ _ rfl rfl) (hx.2 1 _ _ rfl rfl).oneCell (hy.2 1 _ _ rfl rfl).oneCell) hn (Aeg hd)
def Wj (a1 : List Aw) (a2 : Ar) (s : Int × List Aw) : Option (LB (Int × List Aw) (List Aw)) :=
 if decide (s.1 < (a1.length : Int)) then ((idx a1 s.1).bind fun u => (J7 a2 u.Key).bind fun v => some (.cont (wI (s.1 + 1), if v then Po kvk s.2 u else s.2))) else some (.brk s.2)
def V3 (a0 : B2) (a2 : Ar) (s : Int × List Aw) : Option (LB (Int × List Aw) (List Aw)) :=
 if decide (s.1 < (a0.L.length : Int)) then ((idx a0.L s.1).bind fun u => if u.Del then some (.cont (wI (s.1 + 1), Vj kvk s.2 u.Key)) else (J7 a2 u.Key).bind fun v => some (.cont (wI (s.1 + 1), if v then Po kvk s.2 ⟨u.Key, u.Val⟩ else s.2))) else some (.brk s.2)
def Ac2 (a3 : Int) (t : List Aw) : Option (List Aw) :=
 if t.length * 48 ≤ 140737488355328 then cut (Yx kvk t) 0 (if a3 < ((Yx kvk t).length : Int) then a3 else ((Yx kvk t).length : Int)) else none
def Ade (a0 : B2) (a2 : Ar) (a3 : Int) (t : List Aw) : Option (List Aw) := (Cw (V3 a0 a2) fuel (0, t)).bind fun t2 => Ac2 a3 t2
def Kc (a0 : B2) (a1 : List Aw) (a2 : Ar) (a3 : Int) : Option (List Aw) :=
 (H8 a0).bind fun v1 => if !v1 then some [] else (Gf a1).bind fun v2 => if !v2 then some [] else if decide (a3 < 1) then some [] else (Cw (Wj a1 a2) fuel (0, [])).bind fun t1 => Ade a0 a2 a3 t1
theorem Ue {a0 : B2} {a1 : List Aw} {a2 : Ar} {a3 : Int} {r : List Aw} (h : Kc a0 a1 a2 a3 = some r) :
  Bz Tryz.prog 93 [.agg [.sl a0.L.length (a0.L.flatMap Ac)], .one (.sl a1.length (a1.flatMap A2)), .agg (EL.el a2), .one (Ii6 a3)] (· = .s (.one (.sl r.length (r.flatMap A2)))) := by
 unfold Kc at h
 refine A8 Tryz.func93 rfl (nt := 91) rfl (Nbl rfl) ?_
 intro w0 S0
 refine csr (Kp rfl rfl (Kp rfl rfl (rm 1 rfl (Al (Bp (csr (sv rfl (Ap Agk rfl (.lp _ _ _ rfl) (Nbl rfl)) ?_)))))))
 obtain ⟨v1, hv1, h⟩ := Ag h
 refine Bn rfl Arb (Ad rfl Aj) (A4 rfl) (Ps hv1) (sv rfl (B1 rfl) (rm 1 rfl (Bc 20 rfl (fun hc => ?_) (fun hc => ?_))))
 ·replace h := Bt hc h
  clear hc
  refine rm 8 rfl (Al (Cm rfl (fun hc => ?_) (fun hc => nomatch hc)))
  refine csr (rm 1 rfl (Al (Bo (Ah ?_))))
  obtain rfl := SJ h
  refine ⟨Or.inr rfl, _, _, _, (Ai (B9.tmp _ _ rfl) Au), (Sj rfl), ?_⟩
  rfl
 replace h := Bu hc h
 clear hc
 refine rm 1 rfl (son rfl rfl rfl ?_)
 obtain ⟨v2, hv2, h⟩ := Ag h
 refine Bn rfl Ap2 (Ad rfl Aj) (A4 rfl) (Sm hv2) (son rfl rfl rfl (sv rfl (B1 rfl) (rm 2 rfl (Bc 25 rfl (fun hc => ?_) (fun hc => ?_)))))
 ·replace h := Bt hc h
  clear hc
  refine rm 3 rfl (Al (Cm rfl (fun hc => ?_) (fun hc => nomatch hc)))
  refine csr (rm 1 rfl (Al (Bo (Ah ?_))))
  obtain rfl := SJ h
  refine ⟨Or.inr rfl, _, _, _, (Ai (B9.tmp _ _ rfl) Au), (Sj rfl), ?_⟩
  rfl
 replace h := Bu hc h
 clear hc
 refine rm 1 rfl (son rfl rfl rfl (sv rfl (Bi rfl rfl) (rm 1 rfl (Al (Cm rfl (fun hc => ?_) (fun hc => ?_))))))
 ·replace h := Bt hc h
  refine csr (rm 1 rfl (Al (Bo (Ah ?_))))
  obtain rfl := SJ h
  refine ⟨Or.inr rfl, _, _, _, (Ai (B9.tmp _ _ rfl) Au), (Sj rfl), ?_⟩
  rfl
 replace h := Bu hc h
 clear hc
 refine Be (Ab (csr (Aia Q5 rfl (fun g => ?_))))
 refine rm 1 rfl (Al (Bp (csr (rm 1 rfl (sv rfl (An P8 rfl) (rm 1 rfl (Al (C4 (List Aw × List Aw) (fun _ => [(4, .s (.one (.lp 0 0))), (6, .s (.one (.lp 1 0))), (3, .s (.one (Ii6 a3))), (9, .s (.one (.raw (.map (some g)))))]) (fun b => [.box [.sl a0.L.length (a0.L.flatMap Ac)], .box (EL.el a2), .obj g (Ni Q5 ((b.2.map kB).map .string)) (b.2.map A2)]) (fun b => b.2.Perm b.1 ∧ I2 kvk b.2 ∧ Ade a0 a2 a3 b.1 = some r) (fun _ _ => Az rfl) (fun _ _ => Ak rfl) (fun _ _ => Nbl rfl) (fun b h => ?_) ?_))))))))
 ·obtain ⟨t1, t1'⟩ := b
  obtain ⟨hp1, hd1, h⟩ := h
  dsimp only at hp1 hd1 h
  unfold Ade at h
  refine Bp (csr (fl X6 Ry rfl rfl rfl rfl rfl rfl (sv rfl (An Qr rfl) (rm 1 rfl (Al (C4 (List Aw × List Aw) (fun _ => [(3, .s (.one (Ii6 a3))), (9, .s (.one (.raw (.map (some g)))))]) (fun b => [.box [.sl a0.L.length (a0.L.flatMap Ac)], .box (EL.el a2), .obj g (Ni Q5 ((b.2.map kB).map .string)) (b.2.map A2)]) (fun b => b.2.Perm b.1 ∧ I2 kvk b.2 ∧ Ac2 a3 b.1 = some r) (fun _ _ => Az rfl) (fun _ _ => Ak rfl) (fun _ _ => Nbl rfl) (fun b h => ?_) ?_))))))
  ·obtain ⟨t2, t2'⟩ := b
   obtain ⟨hp2, hd2, h⟩ := h
   dsimp only at hp2 hd2 h
   unfold Ac2 at h
   obtain ⟨hb2, h⟩ := Cl h
   have hb2' : t2'.length * 48 ≤ 140737488355328 := by rw [hp2.length_eq]; exact hb2
   refine csr (rm 1 rfl (Al (Bp (csr (rm 1 rfl (Aga (p := 2) rfl Tryz.underlying174 rfl rfl (fun es clock q hst hks hsz => ?_)))))))
   refine Al ?_
   refine H6 77 2 14 (by decide) rfl ?_
   have hes : es.size = t2'.length := by rw [hsz, List.length_map]
   obtain ⟨hs1, hs2, _⟩ := (Go.MapKept.stamped_iff es clock).1 hst
   refine C4 (Array Nat × List Aw) (fun b => [(3, .s (.one (Ii6 a3))), (14, .s (.one (.ls 4 b.2.length)))]) (fun b => [.box [.sl a0.L.length (a0.L.flatMap Ac)], .box (EL.el a2), .obj g (Yi Q5 es clock) (t2'.map A2), .obj q (Aeh g clock b.1 clock) [], .arr 77 2 0 (b.2.flatMap A2)]) (fun b => b.2.Perm t2') (fun _ _ => Az rfl) (fun _ _ => Ak rfl) (fun _ _ => Nbl rfl) (fun b hpo => ?_) ?_
   ·obtain ⟨seen, out⟩ := b
    dsimp only at hpo
    have hol : out.length = t2'.length := hpo.length_eq
    have hdo : I2 kvk out := (I2.perm hpo).2 hd2
    have he : Yx kvk out = Yx kvk t2 := Ad4 (hpo.trans hp2) hdo
    have hlen : (Yx kvk out).length = out.length := (Ko out).length_eq
    have hlen2 : out.length * 2 = ((Yx kvk out).flatMap A2).length := by rw [← hlen]; exact (Ay (f := A2) (fun _ => rfl) _).symm
    rw [← he, hlen] at h
    refine csr (sv rfl (A3 rfl) ?_)
    refine Dx (x' := .tup []) (M' := [.box [.sl a0.L.length (a0.L.flatMap Ac)], .box (EL.el a2), .obj g (Yi Q5 es clock) (t2'.map A2), .obj q (Aeh g clock seen clock) [], .arr 77 2 0 ((Yx kvk out).flatMap A2)]) [4] rfl Ao0 (.func _) (Ad rfl (Ad rfl Aj)) (Agx (xs := out) (by omega) hdo) rfl rfl (by decide) rfl rfl rfl ?_
    refine Al (csr (rm 2 rfl (sv rfl (Lw P8 rfl rfl hlen2) (rm 1 rfl (sv rfl (Vz rfl rfl) (Vy 85 rfl (F5.one _ _ _ _ (Ci.ls _ _ _ _ _ _ rfl hlen2)) (sv rfl (S4 (f := A2) (lo := 0) (hi := (if a3 < (out.length : Int) then a3 else (out.length : Int))) P8 (fun _ => rfl) rfl rfl hlen.symm Pq (Mz rfl (Int.le_trans (Pg h).1.1 (Pg h).1.2.1)) h) ?_)))))))
    refine rm 1 rfl (Al (Bo (⟨Or.inr rfl, _, _, _, (Ai (B9.tmp _ _ rfl) Au), (A4 rfl), ?_⟩)))
    rfl
   ·refine Bf ?_
    refine Bs (G := Array Nat × List Nat) (fun b => [(3, .s (.one (Ii6 a3))), (14, .s (.one (.ls 4 (b.2.filterMap (t2'[·]?)).length))), (74, .s (.one (.raw (.pointer (some ⟨q, 0, none⟩)))))]) (fun b => [.box [.sl a0.L.length (a0.L.flatMap Ac)], .box (EL.el a2), .obj g (Yi Q5 es clock) (t2'.map A2), .obj q (Aeh g clock b.1 clock) [], .arr 77 2 0 ((b.2.filterMap (t2'[·]?)).flatMap A2)]) (fun b => b.2.Nodup ∧ (∀ j ∈ b.2, j < t2'.length) ∧ (∀ (j : Nat) e, es[j]? = some e → (b.1.contains e.born = true ↔ j ∈ b.2)) ∧ b.2.length + (leftOf es b.1).size ≤ es.size) (fun b => (leftOf es b.1).size) (#[], []) ⟨List.nodup_nil, fun j hj => by simp at hj, fun j e _ => ⟨fun h => by simp at h, fun h => by simp at h⟩, by show 0 + (leftOf es #[]).size ≤ es.size; rw [Nat.zero_add]; exact Array.size_filter_le ..⟩ ⟨rfl, rfl, rfl, trivial⟩ [] rfl (fun _ _ => Az rfl) (fun _ _ => Ak rfl) (fun _ _ => Nbl rfl) ?_
    rintro ⟨seen, picks⟩ ⟨hnd, hlt, hsn, hmu⟩
    dsimp only at hnd hlt hsn hmu
    refine csr (Aif (p := 2) (pi := 3) (ss := t2'.map kB) rfl rfl rfl rfl hs1 (Nat.le_refl _) hks (fun h0 => ?_) (fun j e s cs hj he hs hcs => ?_))
    ·refine sv rfl (Bm rfl rfl) (Al (Bp (Cm rfl (fun hc => nomatch hc) (fun _ => ?_))))
     refine Dp (Aq (Aq (Bd (Ab (⟨(seen, picks.filterMap (t2'[·]?)), _, ?_, ⟨rfl, rfl, trivial⟩, rfl⟩)))))
     refine Ad2 hnd hlt fun j hj => ?_
     have hj' : j < es.size := by rw [hes]; exact hj
     exact (hsn j es[j] (Array.getElem?_eq_getElem hj')).1 (all_seen es seen h0 _ (by simp))
    ·obtain ⟨x, hx, rfl⟩ : ∃ x, t2'[j]? = some x ∧ cs = A2 x := by
      rw [List.getElem?_map] at hcs
      cases hx : t2'[j]? with
      | none => rw [hx] at hcs; cases hcs
      | some x => rw [hx] at hcs; exact ⟨x, rfl, (Option.some.inj hcs).symm⟩
     have hns := (mem_left he).2
     have hjn : j ∉ picks := fun h => by rw [(hsn j e hj).2 h] at hns; cases hns
     have hsh := left_shrinks es seen e he
     have hpl : (picks.filterMap (t2'[·]?)).length ≤ picks.length := List.length_filterMap_le ..
     refine sv rfl (Bm rfl rfl) (Al (Bp (Cm rfl (fun _ => ?_) (fun hc => nomatch hc))))
     refine Be (Ab (Bf (Bp (Ax ?_))))
     refine Age (p := 2) (pi := 3) (j := j) rfl rfl rfl rfl hs2 hks hj hs (by rw [List.getElem?_map, hx]; rfl) ?_
     refine sv rfl (Bm rfl rfl) (Ce rfl Ajb (A9 Ajw rfl rfl rfl rfl (Nbl rfl) (Cc [.box [.sl a0.L.length (a0.L.flatMap Ac)], .box (EL.el a2), .obj g (Yi Q5 es clock) (t2'.map A2), .obj q (Aeh g clock (seen.push e.born) clock) [], .arr 77 2 0 ((picks.filterMap (t2'[·]?)).flatMap A2), .box (EL.el x)] rfl (Al (Ax (rm 1 rfl (sv rfl (Ap Ai0 rfl (.lp _ _ _ rfl) (Nbl rfl)) ?_)))))))
     refine Fw rfl Tryz.underlying37 Amb rfl rfl (List.all_eq_true.1 rfl) (by decide) ?_
     refine Cc [.box [.sl a0.L.length (a0.L.flatMap Ac)], .box (EL.el a2), .obj g (Yi Q5 es clock) (t2'.map A2), .obj q (Aeh g clock (seen.push e.born) clock) [], .arr 77 2 0 ((picks.filterMap (t2'[·]?)).flatMap A2), .box (EL.el x), .arr 77 2 0 ([x].flatMap A2)] rfl ?_
     refine Wx (f := A2) (xs := picks.filterMap (t2'[·]?)) (us := [x]) rfl Tryz.underlying37 Amb Apa (fun _ => rfl) rfl rfl (.one _ _ _ _ (.ls _ _ _ _ _ _ rfl (Ay (f := A2) (fun _ => rfl) [x]).symm)) rfl rfl rfl (.sl _ _ _ (Ay (f := A2) (fun _ => rfl) _)) rfl rfl (by rw [List.length_singleton]; omega) (by decide) ?_
     refine rm 1 rfl (Hy (Am ?_))
     have hfm : (picks ++ [j]).filterMap (t2'[·]?) = picks.filterMap (t2'[·]?) ++ [x] := by
      rw [List.filterMap_append]
      simp [hx]
     refine ⟨(seen.push e.born, picks ++ [j]), _, ⟨?_, ?_, ?_, ?_⟩, ⟨rfl, by show _ = AV.s (.one (.ls 4 ((picks ++ [j]).filterMap (t2'[·]?)).length)); rw [hfm]; rfl, rfl, trivial⟩, by show _ = [_, _, _, _, Blk.arr 77 2 0 (((picks ++ [j]).filterMap (t2'[·]?)).flatMap A2)] ++ _; rw [hfm]; rfl, hsh⟩
     ·rw [List.nodup_append]
      exact ⟨hnd, by simp, fun a ha b hb => by rw [List.mem_singleton.1 hb]; exact fun e => hjn (e ▸ ha)⟩
     ·intro k hk
      rcases List.mem_append.1 hk with hk | hk
      ·exact hlt k hk
      ·rw [List.mem_singleton.1 hk]; exact (List.getElem?_eq_some_iff.1 hx).1
     ·intro k e' hk
      rw [List.mem_append, List.mem_singleton, ← Alm hs2 hk hj, ← hsn k e' hk]; simp [or_comm]
     ·rw [List.length_append, List.length_singleton]
      have : (leftOf es (seen.push e.born)).size + 1 ≤ (leftOf es seen).size := hsh
      dsimp only
      omega
  ·refine Bf ?_
   obtain ⟨x2, hx2, ho2⟩ := Ag h
   refine Bs (G := Nat × (Int × List Aw) × List Aw) (fun q => [(6, .s (.one (.lp 1 0))), (3, .s (.one (Ii6 a3))), (9, .s (.one (.raw (.map (some g))))), (47, .s (.one (.sl a0.L.length (a0.L.flatMap Ac)))), (48, .s (.one (Ii6 (a0.L.length : Int)))), (49, .s (.one (Ii6 q.2.1.1)))]) (fun q => [.box [.sl a0.L.length (a0.L.flatMap Ac)], .box (EL.el a2), .obj g (Ni Q5 ((q.2.2.map kB).map .string)) (q.2.2.map A2)]) (fun q => Cw (V3 a0 a2) q.1 q.2.1 = some x2 ∧ q.2.2.Perm q.2.1.2 ∧ I2 kvk q.2.2) (fun q => q.1) (fuel, (0, t1), t1') ⟨hx2, hp1, hd1⟩ ⟨rfl, rfl, rfl, rfl, rfl, rfl, trivial⟩ [] rfl (fun _ _ => Az rfl) (fun _ _ => Ak rfl) (fun _ _ => Nbl rfl) ?_
   clear hx2 h hp1 hd1
   rintro ⟨n, ⟨i, t⟩, t'⟩ ⟨h, hp, hd⟩
   dsimp only at hp hd
   obtain ⟨n, y, rfl, h, hk⟩ := Dw h
   unfold V3 at h
   dsimp only at h
   refine csr (sv rfl (Bi rfl rfl) (Al (Bp (ccI h rfl (fun h => ?_) (fun h => ?_)))))
   ·refine Be (Ab (Bp (Bf (Bp (Ax ?_)))))
    obtain ⟨u, hu, h⟩ := Ag h
    refine sv rfl (Bw (f := Ac) Qr (fun _ => rfl) rfl rfl rfl rfl hu) ?_
    refine sv rfl (Bq (ys := [.sl u.Key.length (u.Key.flatMap eU8), .sl u.Val.length (u.Val.flatMap eU8), .b u.Del]) Aas rfl (.cp _) rfl rfl) (Ce rfl Ag9 (A9 Amh rfl rfl rfl rfl (Nbl rfl) (Cc [.box [.sl a0.L.length (a0.L.flatMap Ac)], .box (EL.el a2), .obj g (Ni Q5 ((t'.map kB).map .string)) (t'.map A2), .box (EL.el u)] rfl (Al (csr (fl Xq ti4 rfl rfl rfl rfl rfl rfl (Al (ccI h rfl (fun h => ?_) (fun h => ?_)))))))))
    ·obtain rfl := SJ h
     clear h
     refine Ax (rm 1 rfl (fl J3 E6 rfl rfl rfl rfl rfl rfl (sv rfl (O9 (l := u.Key) Tryz.underlying46 Tryz.underlying5 Tryz.underlying9 rfl rfl rfl) (Akf (ss := t'.map kB) (css := t'.map A2) (s := ⟨u.Key.toArray⟩) (p := 2) Tryz.underlying174 Tryz.underlying9 rfl rfl rfl (fun j hj => ?_) (fun hn => ?_) rfl))))
     ·obtain ⟨e1, e3⟩ := Aku hp hd (Zz hj)
      refine Cc [.box [.sl a0.L.length (a0.L.flatMap Ac)], .box (EL.el a2), .obj g (Ni Q5 (((t'.eraseIdx j).map kB).map .string)) ((t'.eraseIdx j).map A2), .box (EL.el u)] (by rw [← Go.ChangeMaps.map_eraseIdx, ← Go.ChangeMaps.map_eraseIdx]; rfl) ?_
      refine Hy (Am (Ab (Ax (sv rfl (Bj rfl rfl) (rm 1 rfl (Al ?_))))))
      exact ⟨(n, (wI (i + 1), Vj kvk t u.Key), t'.eraseIdx j), _, ⟨hk, e1, e3⟩, ⟨rfl, rfl, rfl, rfl, rfl, rfl, trivial⟩, rfl, Nat.lt_succ_self _⟩
     ·have e1 := Ag4 (kf := kvk) hp (Agr hn)
      refine Cc [.box [.sl a0.L.length (a0.L.flatMap Ac)], .box (EL.el a2), .obj g (Ni Q5 ((t'.map kB).map .string)) (t'.map A2), .box (EL.el u)] rfl (Hy (Am (Ab (Ax (sv rfl (Bj rfl rfl) (rm 1 rfl (Al ?_)))))))
      exact ⟨(n, (wI (i + 1), Vj kvk t u.Key), t'), _, ⟨hk, e1, hd⟩, ⟨rfl, rfl, rfl, rfl, rfl, rfl, trivial⟩, rfl, Nat.lt_succ_self _⟩
    ·obtain ⟨v, hv, h⟩ := Ag h
     obtain rfl := SJ h
     clear h
     refine csr (sv rfl (Ap Vd rfl (.lp _ _ _ rfl) (Nbl rfl)) (fl J3 E6 rfl rfl rfl rfl rfl rfl (Bn rfl Aqb (Ad rfl (Ad rfl Aj)) (A4 rfl) (O2 hv) (Al (Cm rfl (fun hc => ?_) (fun hc => ?_))))))
     ·subst hc
      refine Ax (rm 1 rfl (fl J3 E6 rfl rfl rfl rfl rfl rfl (sv rfl (O9 (l := u.Key) Tryz.underlying46 Tryz.underlying5 Tryz.underlying9 rfl rfl rfl) (fl J3 E6 rfl rfl rfl rfl rfl rfl (fl Q3 E6 rfl rfl rfl rfl rfl rfl (sv rfl (Bl Ajb Aqu (A1 rfl (A1 rfl Ba)) (.cons _ _ _ _ _ _ _ rfl rfl (Nbl rfl) (.cons _ _ _ _ _ _ _ rfl rfl (Nbl rfl) (.nil _)))) (Agh (ss := t'.map kB) (css := t'.map A2) (s := kB ⟨u.Key, u.Val⟩) (p := 2) Tryz.underlying174 Tryz.underlying9 rfl rfl rfl rfl rfl (fun j hj => ?_) (fun hn => ?_))))))))
      ·obtain ⟨e1, e2, e3⟩ := Y4 hp hd (x := ⟨u.Key, u.Val⟩) (Zz hj)
       refine Cc [.box [.sl a0.L.length (a0.L.flatMap Ac)], .box (EL.el a2), .obj g (Ni Q5 (((t'.set j ⟨u.Key, u.Val⟩).map kB).map .string)) ((t'.set j ⟨u.Key, u.Val⟩).map A2), .box (EL.el u)] (by rw [Ajl (Zz hj), List.map_set]; rfl) ?_
       refine Hy (Am (Ab (Ax (sv rfl (Bj rfl rfl) (rm 1 rfl (Al ?_))))))
       exact ⟨(n, (wI (i + 1), Po kvk t ⟨u.Key, u.Val⟩), t'.set j ⟨u.Key, u.Val⟩), _, ⟨hk, e1, e3⟩, ⟨rfl, rfl, rfl, rfl, rfl, rfl, trivial⟩, rfl, Nat.lt_succ_self _⟩
      ·obtain ⟨e1, e3⟩ := Adg hp hd (x := ⟨u.Key, u.Val⟩) (Agr hn)
       refine Cc [.box [.sl a0.L.length (a0.L.flatMap Ac)], .box (EL.el a2), .obj g (Ni Q5 (((t' ++ [(⟨u.Key, u.Val⟩ : Aw)]).map kB).map .string)) ((t' ++ [(⟨u.Key, u.Val⟩ : Aw)]).map A2), .box (EL.el u)] (by simp only [List.map_append]; rfl) ?_
       refine Hy (Am (Ab (Ax (sv rfl (Bj rfl rfl) (rm 1 rfl (Al ?_))))))
       exact ⟨(n, (wI (i + 1), Po kvk t ⟨u.Key, u.Val⟩), t' ++ [(⟨u.Key, u.Val⟩ : Aw)]), _, ⟨hk, e1, e3⟩, ⟨rfl, rfl, rfl, rfl, rfl, rfl, trivial⟩, rfl, Nat.lt_succ_self _⟩
     ·subst hc
      refine Be (Am (Ab (Ax (sv rfl (Bj rfl rfl) (rm 1 rfl (Al ?_))))))
      exact ⟨(n, (wI (i + 1), t), t'), _, ⟨hk, hp, hd⟩, ⟨rfl, rfl, rfl, rfl, rfl, rfl, trivial⟩, rfl, Nat.lt_succ_self _⟩
   ·refine Dp (Aq (Aq (Bd (Ab ?_))))
    obtain rfl := SJ h
    obtain rfl : _ = x2 := hk
    exact ⟨(t, t'), _, ⟨hp, hd, ho2⟩, ⟨rfl, rfl, trivial⟩, rfl⟩
 ·refine Bf ?_
  obtain ⟨x1, hx1, ho1⟩ := Ag h
  refine Bs (G := Nat × (Int × List Aw) × List Aw) (fun q => [(4, .s (.one (.lp 0 0))), (6, .s (.one (.lp 1 0))), (3, .s (.one (Ii6 a3))), (9, .s (.one (.raw (.map (some g))))), (30, .s (.one (.sl a1.length (a1.flatMap A2)))), (31, .s (.one (Ii6 (a1.length : Int)))), (32, .s (.one (Ii6 q.2.1.1)))]) (fun q => [.box [.sl a0.L.length (a0.L.flatMap Ac)], .box (EL.el a2), .obj g (Ni Q5 ((q.2.2.map kB).map .string)) (q.2.2.map A2)]) (fun q => Cw (Wj a1 a2) q.1 q.2.1 = some x1 ∧ q.2.2.Perm q.2.1.2 ∧ I2 kvk q.2.2) (fun q => q.1) (fuel, (0, []), []) ⟨hx1, List.Perm.refl _, List.Pairwise.nil⟩ ⟨rfl, rfl, rfl, rfl, rfl, rfl, rfl, trivial⟩ [] rfl (fun _ _ => Az rfl) (fun _ _ => Ak rfl) (fun _ _ => Nbl rfl) ?_
  clear hx1 h
  rintro ⟨n, ⟨i, t⟩, t'⟩ ⟨h, hp, hd⟩
  dsimp only at hp hd
  obtain ⟨n, y, rfl, h, hk⟩ := Dw h
  unfold Wj at h
  dsimp only at h
  refine csr (sv rfl (Bi rfl rfl) (Al (Bp (ccI h rfl (fun h => ?_) (fun h => ?_)))))
  ·refine Be (Ab (Bp (Bf (Bp (Ax ?_)))))
   obtain ⟨u, hu, h⟩ := Ag h
   refine sv rfl (Bw (f := A2) P8 (fun _ => rfl) rfl rfl rfl rfl hu) ?_
   refine sv rfl (Bq (ys := [.sl u.Key.length (u.Key.flatMap eU8), .sl u.Val.length (u.Val.flatMap eU8)]) Ai0 rfl (.cp _) rfl rfl) (Ce rfl Ajb (A9 Ajw rfl rfl rfl rfl (Nbl rfl) (Cc [.box [.sl a0.L.length (a0.L.flatMap Ac)], .box (EL.el a2), .obj g (Ni Q5 ((t'.map kB).map .string)) (t'.map A2), .box (EL.el u)] rfl (Al (csr (sv rfl (Ap Vd rfl (.lp _ _ _ rfl) (Nbl rfl)) (sv rfl (Aa Ql rfl) (sv rfl (Ae E6 rfl (.lp _ _ _ rfl) rfl) ?_))))))))
   obtain ⟨v, hv, h⟩ := Ag h
   refine Bn rfl Aqb (Ad rfl (Ad rfl Aj)) (A4 rfl) (O2 hv) (Al ?_)
   obtain rfl := SJ h
   clear h
   refine Cm rfl (fun hc => ?_) (fun hc => ?_)
   ·subst hc
    refine Ax (rm 1 rfl (fl Ql E6 rfl rfl rfl rfl rfl rfl (sv rfl (O9 (l := u.Key) Tryz.underlying46 Tryz.underlying5 Tryz.underlying9 rfl rfl rfl) (sv rfl (Ap Ai0 rfl (.lp _ _ _ rfl) (Nbl rfl)) (Agh (ss := t'.map kB) (css := t'.map A2) (s := kB u) (p := 2) Tryz.underlying174 Tryz.underlying9 rfl rfl rfl rfl rfl (fun j hj => ?_) (fun hn => ?_))))))
    ·obtain ⟨e1, e2, e3⟩ := Y4 hp hd (x := u) (Zz hj)
     refine Cc [.box [.sl a0.L.length (a0.L.flatMap Ac)], .box (EL.el a2), .obj g (Ni Q5 (((t'.set j u).map kB).map .string)) ((t'.set j u).map A2), .box (EL.el u)] (by rw [Ajl (Zz hj), List.map_set]; rfl) ?_
     refine Hy (Am (Ab (Ax (sv rfl (Bj rfl rfl) (rm 1 rfl (Al ?_))))))
     exact ⟨(n, (wI (i + 1), Po kvk t u), t'.set j u), _, ⟨hk, e1, e3⟩, ⟨rfl, rfl, rfl, rfl, rfl, rfl, rfl, trivial⟩, rfl, Nat.lt_succ_self _⟩
    ·obtain ⟨e1, e3⟩ := Adg hp hd (x := u) (Agr hn)
     refine Cc [.box [.sl a0.L.length (a0.L.flatMap Ac)], .box (EL.el a2), .obj g (Ni Q5 (((t' ++ [u]).map kB).map .string)) ((t' ++ [u]).map A2), .box (EL.el u)] (by simp only [List.map_append]; rfl) ?_
     refine Hy (Am (Ab (Ax (sv rfl (Bj rfl rfl) (rm 1 rfl (Al ?_))))))
     exact ⟨(n, (wI (i + 1), Po kvk t u), t' ++ [u]), _, ⟨hk, e1, e3⟩, ⟨rfl, rfl, rfl, rfl, rfl, rfl, rfl, trivial⟩, rfl, Nat.lt_succ_self _⟩
   ·subst hc
    refine Be (Am (Ab (Ax (sv rfl (Bj rfl rfl) (rm 1 rfl (Al ?_))))))
    exact ⟨(n, (wI (i + 1), t), t'), _, ⟨hk, hp, hd⟩, ⟨rfl, rfl, rfl, rfl, rfl, rfl, rfl, trivial⟩, rfl, Nat.lt_succ_self _⟩
  ·refine Dp (Aq (Aq (Bd (Ab ?_))))
   obtain rfl := SJ h
   obtain rfl : _ = x1 := hk
   exact ⟨(t, t'), _, ⟨hp, hd, ho1⟩, ⟨rfl, rfl, rfl, rfl, trivial⟩, rfl⟩
def Sr (a0 : List UInt8) : Option Ar :=
 if (([] : List UInt8).length + a0.length) * 1 ≤ 140737488355328 then (if ((([] : List UInt8) ++ a0).length + [(UInt8.ofBitVec (0#8))].length) * 1 ≤ 140737488355328 then (some (Ar.mk a0 ((([] : List UInt8) ++ a0) ++ [(UInt8.ofBitVec (0#8))]) false)) else none) else none
theorem Ye {a0 : List UInt8} {r : Ar} (h : Sr a0 = some r) : Bz Tryz.prog 21 [.one (.sl a0.length (a0.flatMap eU8))] (· = .s (.agg (EL.el r))) := by
 unfold Sr at h
 refine A8 Tryz.func21 rfl (nt := 13) rfl (Nbl rfl) ?_
 intro w0 S0
 refine csr (Ce rfl Aj1 (Al (csr (Ag1 rfl Tryz.underlying46 ei5 (sv rfl (A3 rfl) ?_)))))
 obtain ⟨hb1, h⟩ := Cl h
 refine Wx (f := eU8) (xs := ([] : List UInt8)) (us := a0) rfl Tryz.underlying46 ei5 Apo (fun _ => rfl) rfl rfl (.one _ _ _ _ (.id _ rfl)) rfl rfl rfl (.sl _ _ _ (Ay (f := eU8) (fun _ => rfl) _)) rfl rfl hb1 (by decide) ?_
 refine rm 1 rfl (Al (csr (sv rfl (A3 rfl) ?_)))
 refine Fw rfl Tryz.underlying46 ei5 rfl rfl (List.all_eq_true.1 rfl) (by decide) ?_
 refine Cc [.box [Znl, Znl, .b false], .arr 5 1 0 ((([] : List UInt8) ++ a0).flatMap eU8), .arr 5 1 0 ([(UInt8.ofBitVec (0#8))].flatMap eU8)] rfl ?_
 obtain ⟨hb2, h⟩ := Cl h
 refine Wx (f := eU8) (xs := (([] : List UInt8) ++ a0)) (us := [(UInt8.ofBitVec (0#8))]) rfl Tryz.underlying46 ei5 Apo (fun _ => rfl) rfl rfl (.one _ _ _ _ (.ls _ _ _ _ _ _ rfl (Ay (f := eU8) (fun _ => rfl) [(UInt8.ofBitVec (0#8))]).symm)) rfl rfl rfl (.sl _ _ _ (Ay (f := eU8) (fun _ => rfl) _)) rfl rfl hb2 (by decide) ?_
 refine rm 1 rfl (Al (csr (rm 2 rfl (sv rfl (Bl Aj1 Aoh (A1 rfl (A1 rfl Ba)) (.cons _ _ _ _ _ _ _ rfl rfl (Nbl rfl) (.cons _ _ _ _ _ _ _ rfl rfl (Nbl rfl) (.nil _)))) (A9 Aoi rfl rfl rfl rfl (Nbl rfl) (Cc [.box [.sl a0.length (a0.flatMap eU8), .ls 1 ((([] : List UInt8) ++ a0) ++ [(UInt8.ofBitVec (0#8))]).length, .b false], .arr 5 1 0 (((([] : List UInt8) ++ a0) ++ [(UInt8.ofBitVec (0#8))]).flatMap eU8), .arr 5 1 ([(UInt8.ofBitVec (0#8))].flatMap eU8).length ([(UInt8.ofBitVec (0#8))].flatMap eU8)] rfl (Al (Bo ?_))))))))
 obtain rfl := SJ h
 refine ⟨Or.inr rfl, _, _, _, (Ai (B9.agg _ _ _ _ _ Vd rfl (.lp _ _ _ rfl) (Nbl rfl)) Au), (by (repeat' first | exact Ga.nil _ | apply Ga.cons | apply F5.one | apply F5.agg | exact Ci.nil | exact Ci.ls _ _ _ _ _ _ rfl (Ay (f := eU8) (fun _ => rfl) _).symm | exact Ci.id _ rfl | exact Cg.nil _ | apply Cg.cons)), ?_⟩
 rfl
def P2 (a0 : List UInt8) : Option (List Ar) :=
 if a0.length ≤ 140737488355328 then ((Sr a0).bind fun v2 => some [v2]) else none
theorem T1 {a0 : List UInt8} {r : (List Ar)} (h : P2 a0 = some r) : Bz Tryz.prog 11 [.one (.s ⟨a0.toArray⟩)] (· = .s (.one (.sl r.length (r.flatMap A0)))) := by
 unfold P2 at h
 refine A8 Tryz.func11 rfl (nt := 7) rfl (Nbl rfl) ?_
 intro w0 S0
 refine csr (rm 1 rfl (Al (csr (sv rfl (A3 rfl) ?_))))
 obtain ⟨hm1, h⟩ := Cl h
 refine sd rfl (Anl (l := a0) Tryz.underlying9 Tryz.underlying46 Tryz.underlying5 rfl hm1) ?_
 obtain ⟨v2, hv2, h⟩ := Ag h
 refine Bn rfl Ar1 (Ad rfl Aj) (A4 rfl) (Ye hv2) ?_
 refine Fw rfl Tryz.underlying25 As1 rfl rfl (List.all_eq_true.1 rfl) (by decide) ?_
 refine Cc [.arr 56 3 0 ([v2].flatMap A0)] rfl (rm 1 rfl (Al (Bo ?_)))
 obtain rfl := SJ h
 refine ⟨Or.inr rfl, _, _, _, (Ai (B9.tmp _ _ rfl) Au), (by (repeat' first | exact Ga.nil _ | apply Ga.cons | apply F5.one | apply F5.agg | exact Ci.nil | exact Ci.ls _ _ _ _ _ _ rfl (Ay (f := A0) (fun _ => rfl) ([v2] : List Ar)).symm | exact Ci.ls _ _ _ _ _ _ rfl (Ay (f := A0) (fun _ => rfl) _).symm | exact Ci.id _ rfl | exact Cg.nil _ | apply Cg.cons)), ?_⟩
 rfl
def Ds (a0 : Af) : Option Bool :=
 (Dm a0.Key).bind fun v1 => if v1 then (if (decide ((a0.Val.length : Int) ≤ 32)) then (if a0.Del then (some (!(decide (0 < (a0.Val.length : Int))))) else (some true)) else (some false)) else (some false)
theorem Qq {a0 : Af} {r : Bool} (h : Ds a0 = some r) : Bz Tryz.prog 80 [.agg (EL.el a0)] (· = .s (.one (.b r))) := by
 unfold Ds at h
 refine A8 Tryz.func80 rfl (nt := 23) rfl (Nbl rfl) ?_
 intro w0 S0
 refine csr (Kp rfl rfl (rm 1 rfl (Al (csr (sv rfl (Aa J3 rfl) (sv rfl (Ae E6 rfl (.lp _ _ _ rfl) rfl) ?_))))))
 obtain ⟨v1, hv1, h⟩ := Ag h
 refine Bn rfl Ao1 (Ad rfl Aj) (A4 rfl) (Oi hv1) (rm 1 rfl (Bc 6 rfl (fun hc => ?_) (fun hc => ?_)))
 ·replace h := Bt hc h
  clear hc
  refine son rfl rfl rfl (sv rfl (Aa Q3 rfl) (son rfl rfl rfl (sv rfl (Ae E6 rfl (.lp _ _ _ rfl) rfl) (son rfl rfl rfl (sv rfl (An Ku rfl) (son rfl rfl rfl (sv rfl (Eb rfl rfl) (rm 2 rfl (Bc 12 rfl (fun hc => ?_) (fun hc => ?_))))))))))
  ·replace h := Bt hc h
   clear hc
   refine son rfl rfl rfl (sv rfl (Aa Xq rfl) (son rfl rfl rfl (sv rfl (Ae ti4 rfl (.lp _ _ _ rfl) rfl) (rm 1 rfl (Bc 15 rfl (fun hc => ?_) (fun hc => ?_))))))
   ·replace h := Bt hc h
    clear hc
    refine son rfl rfl rfl (sv rfl (Aa Q3 rfl) (son rfl rfl rfl (sv rfl (Ae E6 rfl (.lp _ _ _ rfl) rfl) (son rfl rfl rfl (sv rfl (An Ku rfl) (son rfl rfl rfl (sv rfl (B8 rfl rfl) (rm 1 rfl (son rfl rfl rfl (sv rfl (B1 rfl) (rm 2 rfl (Al (Bo ?_)))))))))))))
    obtain rfl := SJ h
    exact dnT rfl rfl rfl rfl
   ·replace h := Bu hc h
    clear hc
    refine rm 5 rfl (son rfl rfl rfl (sv rfl (B1 rfl) (rm 2 rfl (Al (Bo ?_)))))
    obtain rfl := SJ h
    exact dnT rfl rfl rfl rfl
  ·replace h := Bu hc h
   clear hc
   refine rm 3 rfl (Bh rfl rfl rfl (Bh rfl rfl rfl (Bh rfl rfl rfl (Bh rfl rfl rfl (rm 4 rfl (Al (Bo ?_)))))))
   obtain rfl := SJ h
   exact dnT rfl rfl rfl rfl
 ·replace h := Bu hc h
  clear hc
  refine rm 9 rfl (Bh rfl rfl rfl (Bh rfl rfl rfl (Bh rfl rfl rfl (Bh rfl rfl rfl (rm 4 rfl (Al (Bo ?_)))))))
  obtain rfl := SJ h
  exact dnT rfl rfl rfl rfl
def Cd (a0 : Ar) : Option Bool :=
 if (decide ((a0.Lo.length : Int) ≤ 17)) then (if (decide ((a0.Hi.length : Int) ≤ 17)) then (if a0.Open then (some (!(decide (0 < (a0.Hi.length : Int))))) else (some true)) else (some false)) else (some false)
theorem Nn {a0 : Ar} {r : Bool} (h : Cd a0 = some r) : Bz Tryz.prog 81 [.agg (EL.el a0)] (· = .s (.one (.b r))) := by
 unfold Cd at h
 refine A8 Tryz.func81 rfl (nt := 24) rfl (Nbl rfl) ?_
 intro w0 S0
 refine csr (Kp rfl rfl (rm 1 rfl (Al (csr (fl Pm E6 rfl rfl rfl rfl rfl rfl (sv rfl (An Ku rfl) (sv rfl (Eb rfl rfl) (rm 1 rfl (Bc 7 rfl (fun hc => ?_) (fun hc => ?_))))))))))
 ·replace h := Bt hc h
  clear hc
  refine son rfl rfl rfl (sv rfl (Aa Ng rfl) (son rfl rfl rfl (sv rfl (Ae E6 rfl (.lp _ _ _ rfl) rfl) (son rfl rfl rfl (sv rfl (An Ku rfl) (son rfl rfl rfl (sv rfl (Eb rfl rfl) (rm 2 rfl (Bc 13 rfl (fun hc => ?_) (fun hc => ?_))))))))))
  ·replace h := Bt hc h
   clear hc
   refine son rfl rfl rfl (sv rfl (Aa U8 rfl) (son rfl rfl rfl (sv rfl (Ae ti4 rfl (.lp _ _ _ rfl) rfl) (rm 1 rfl (Bc 16 rfl (fun hc => ?_) (fun hc => ?_))))))
   ·replace h := Bt hc h
    clear hc
    refine son rfl rfl rfl (sv rfl (Aa Ng rfl) (son rfl rfl rfl (sv rfl (Ae E6 rfl (.lp _ _ _ rfl) rfl) (son rfl rfl rfl (sv rfl (An Ku rfl) (son rfl rfl rfl (sv rfl (B8 rfl rfl) (rm 1 rfl (son rfl rfl rfl (sv rfl (B1 rfl) (rm 2 rfl (Al (Bo ?_)))))))))))))
    obtain rfl := SJ h
    exact dnT rfl rfl rfl rfl
   ·replace h := Bu hc h
    clear hc
    refine rm 5 rfl (son rfl rfl rfl (sv rfl (B1 rfl) (rm 2 rfl (Al (Bo ?_)))))
    obtain rfl := SJ h
    exact dnT rfl rfl rfl rfl
  ·replace h := Bu hc h
   clear hc
   refine rm 3 rfl (Bh rfl rfl rfl (Bh rfl rfl rfl (Bh rfl rfl rfl (Bh rfl rfl rfl (rm 4 rfl (Al (Bo ?_)))))))
   obtain rfl := SJ h
   exact dnT rfl rfl rfl rfl
 ·replace h := Bu hc h
  clear hc
  refine rm 9 rfl (Bh rfl rfl rfl (Bh rfl rfl rfl (Bh rfl rfl rfl (Bh rfl rfl rfl (rm 4 rfl (Al (Bo ?_)))))))
  obtain rfl := SJ h
  exact dnT rfl rfl rfl rfl
def Du (a0 : As) (b1 : (List (List UInt8))) (b2 : Unit) : Option Bool :=
 if (decide (0 ≤ a0.Snap)) then (if (decide (a0.Snap < a0.Ts)) then ((C5 b1).bind fun v3 => some v3) else (some false)) else (some false)
def Cp (a0 : As) (s4 : Int) : Option (LR (Int) (Unit) (Bool)) :=
 if (decide (s4 < (a0.Reads.length : Int))) then ((idx a0.Reads s4).bind fun u5 => (Cd u5).bind fun v6 => if (!v6) then (some (.ret false)) else (some (.cont (wI (s4 + 1))))) else (some (.brk ()))
def Dr (a0 : As) (b1 : (List (List UInt8))) : Option Bool :=
 (Fc (Cp a0) fuel 0).bind fun x => match x with | .inl r => some r | .inr e7 => Du a0 b1 e7
def Dt (a0 : As) (s8 : Int × (List (List UInt8))) : Option (LR (Int × (List (List UInt8))) ((List (List UInt8))) (Bool)) :=
 if (decide (s8.1 < (a0.Writes.length : Int))) then ((idx a0.Writes s8.1).bind fun u9 => (Ds u9).bind fun v10 => if (!v10) then (some (.ret false)) else (if (s8.2.length + [u9.Key].length) * 24 ≤ 140737488355328 then (some (.cont ((wI (s8.1 + 1)), (s8.2 ++ [u9.Key])))) else none)) else (some (.brk s8.2))
def Cq (a0 : As) : Option Bool :=
 (Fc (Dt a0) fuel (0, ([] : List (List UInt8)))).bind fun x => match x with | .inl r => some r | .inr e12 => Dr a0 e12
theorem Sv {a0 : As} {r : Bool} (h : Cq a0 = some r) : Bz Tryz.prog 46 [.agg (EL.el a0)] (· = .s (.one (.b r))) := by
 unfold Cq at h
 refine A8 Tryz.func46 rfl (nt := 49) rfl (Nbl rfl) ?_
 intro w0 S0
 refine csr (Kp rfl rfl (rm 1 rfl (Al (csr (rm 1 rfl (Al (Bp (csr (fl Acn Ry rfl rfl rfl rfl rfl rfl (sv rfl (An Qr rfl) (rm 1 rfl (Al ?_))))))))))))
 refine H6 46 1 3 (by decide) rfl ?_
 refine C4 ((List (List UInt8))) (fun b1 => [(1, .s (.one (.lp 0 0))), (3, .s (.one (.ls 1 b1.length)))]) (fun b1 => [.box (EL.el a0), .arr 46 1 0 (b1.flatMap (eL eU8))]) (fun b1 => Dr a0 b1 = some r) (fun _ _ => Az rfl) (fun _ _ => Ak rfl) (fun _ _ => Nbl rfl) (fun b1 h => ?_) ?_
 ·unfold Dr at h
  refine Bp (csr (fl Ajf Ahc rfl rfl rfl rfl rfl rfl (sv rfl (An Aip rfl) (rm 1 rfl (Al (C4 (Unit) (fun b2 => [(1, .s (.one (.lp 0 0))), (3, .s (.one (.ls 1 b1.length)))]) (fun b2 => [.box (EL.el a0), .arr 46 1 0 (b1.flatMap (eL eU8))]) (fun b2 => Du a0 b1 b2 = some r) (fun _ _ => Az rfl) (fun _ _ => Ak rfl) (fun _ _ => Nbl rfl) (fun b2 h => ?_) ?_))))))
  ·unfold Du at h
   refine csr (fl T9 ti3 rfl rfl rfl rfl rfl rfl (sv rfl (G6 rfl rfl) (rm 1 rfl (Bc 38 rfl (fun hc => ?_) (fun hc => ?_)))))
   ·replace h := Bt hc h
    clear hc
    refine son rfl rfl rfl (sv rfl (Aa Ra rfl) (son rfl rfl rfl (sv rfl (Ae ti3 rfl (.lp _ _ _ rfl) rfl) (son rfl rfl rfl (sv rfl (Aa T9 rfl) (son rfl rfl rfl (sv rfl (Ae ti3 rfl (.lp _ _ _ rfl) rfl) (son rfl rfl rfl (sv rfl (B8 rfl rfl) (rm 2 rfl (Bc 45 rfl (fun hc => ?_) (fun hc => ?_))))))))))))
    ·replace h := Bt hc h
     clear hc
     refine rm 1 rfl (son rfl rfl rfl ?_)
     refine Vy 46 rfl (by (repeat' first | exact Ga.nil _ | apply Ga.cons | apply F5.one | apply F5.agg | exact Ci.nil | exact Ci.ls _ _ _ _ _ _ rfl (Ay (f := (eL eU8)) (fun _ => rfl) _).symm | exact Ci.id _ rfl | exact Cg.nil _ | apply Cg.cons)) ?_
     obtain ⟨v3, hv3, h⟩ := Ag h
     refine Bn rfl Aog (Ad rfl Aj) (A4 rfl) (Kw hv3) (rm 2 rfl (Al (Bo ?_)))
     obtain rfl := SJ h
     exact dnT rfl rfl rfl rfl
    ·replace h := Bu hc h
     clear hc
     refine rm 4 rfl (Al (Bo ?_))
     obtain rfl := SJ h
     exact dnT rfl rfl rfl rfl
   ·replace h := Bu hc h
    clear hc
    refine rm 11 rfl (Al (Bo ?_))
    obtain rfl := SJ h
    exact dnT rfl rfl rfl rfl
  ·skip
   refine Bf ?_
   obtain ⟨x4, hx4, ho4⟩ := Ag h
   refine Bs (G := Nat × (Int)) (fun g => [(1, .s (.one (.lp 0 0))), (3, .s (.one (.ls 1 b1.length))), (25, .s (.one (.sl a0.Reads.length (a0.Reads.flatMap A0)))), (26, .s (.one (Ii6 (a0.Reads.length : Int)))), (27, .s (.one (Ii6 g.2)))]) (fun g => [.box (EL.el a0), .arr 46 1 0 (b1.flatMap (eL eU8))]) (fun g => Fc (Cp a0) g.1 g.2 = some x4) (fun g => g.1) (fuel, 0) hx4 ⟨rfl, rfl, rfl, rfl, rfl, trivial⟩ [] rfl (fun _ _ => Az rfl) (fun _ _ => Ak rfl) (fun _ _ => Nbl rfl) ?_
   clear hx4 h
   rintro ⟨n4, s4⟩ h
   obtain ⟨n4, y4, rfl, h, hk4⟩ := Dc h
   unfold Cp at h
   refine csr (sv rfl (Bi rfl rfl) (Al (Bp (ccI h rfl (fun h => ?_) (fun h => ?_)))))
   ·refine Be (Ab (Bp (Bf (Bp (Ax ?_)))))
    obtain ⟨u5, hu5, h⟩ := Ag h
    refine sv rfl (Bw (f := A0) Aip (fun _ => rfl) rfl rfl rfl rfl hu5) ?_
    refine sv rfl (Bq (ys := [.sl u5.Lo.length (u5.Lo.flatMap eU8), .sl u5.Hi.length (u5.Hi.flatMap eU8), .b u5.Open]) Vd rfl (.cp _) rfl rfl) (Ce rfl Aj1 (A9 Aoi rfl rfl rfl rfl (Nbl rfl) (Cc [.box (EL.el a0), .arr 46 1 0 (b1.flatMap (eL eU8)), .box (EL.el u5)] rfl (Al (csr (sv rfl (Ap Vd rfl (.lp _ _ _ rfl) (Nbl rfl)) ?_))))))
    obtain ⟨v6, hv6, h⟩ := Ag h
    refine Bn rfl Aq0 (Ad rfl Aj) (A4 rfl) (Nn hv6) (sv rfl (B1 rfl) (Al (ccI h rfl (fun h => ?_) (fun h => ?_))))
    ·refine csr (rm 1 rfl (Al (Bo (Ao (Ah (Ah (Ao (Ah ?_))))))))
     obtain rfl := SJ h
     obtain rfl : Sum.inl _ = x4 := hk4
     replace ho4 : some _ = some _ := ho4
     obtain rfl := Option.some.inj ho4
     exact dnT rfl rfl rfl rfl
    ·refine Be (Am (Ab (Ax (sv rfl (Bj rfl rfl) (rm 1 rfl (Al ?_))))))
     obtain rfl := SJ h
     exact ⟨(n4, (wI (s4 + 1))), _, hk4, ⟨rfl, rfl, rfl, rfl, rfl, trivial⟩, rfl, Nat.lt_succ_self _⟩
   ·refine Dp (Aq (Aq (Bd (Ab ?_))))
    obtain rfl := SJ h
    obtain rfl : _ = x4 := hk4
    exact ⟨(), _, ho4, ⟨rfl, rfl, trivial⟩, rfl⟩
 ·skip
  refine Bf ?_
  obtain ⟨x8, hx8, ho8⟩ := Ag h
  refine Bs (G := Nat × (Int × (List (List UInt8)))) (fun g => [(1, .s (.one (.lp 0 0))), (3, .s (.one (.ls 1 g.2.2.length))), (9, .s (.one (.sl a0.Writes.length (a0.Writes.flatMap Ac)))), (10, .s (.one (Ii6 (a0.Writes.length : Int)))), (11, .s (.one (Ii6 g.2.1)))]) (fun g => [.box (EL.el a0), .arr 46 1 0 (g.2.2.flatMap (eL eU8))]) (fun g => Fc (Dt a0) g.1 g.2 = some x8) (fun g => g.1) (fuel, (0, ([] : List (List UInt8)))) hx8 ⟨rfl, rfl, rfl, rfl, rfl, trivial⟩ [] rfl (fun _ _ => Az rfl) (fun _ _ => Ak rfl) (fun _ _ => Nbl rfl) ?_
  clear hx8 h
  rintro ⟨n8, s8⟩ h
  obtain ⟨n8, y8, rfl, h, hk8⟩ := Dc h
  unfold Dt at h
  refine csr (sv rfl (Bi rfl rfl) (Al (Bp (ccI h rfl (fun h => ?_) (fun h => ?_)))))
  ·refine Be (Ab (Bp (Bf (Bp (Ax ?_)))))
   obtain ⟨u9, hu9, h⟩ := Ag h
   refine sv rfl (Bw (f := Ac) Qr (fun _ => rfl) rfl rfl rfl rfl hu9) ?_
   refine sv rfl (Bq (ys := [.sl u9.Key.length (u9.Key.flatMap eU8), .sl u9.Val.length (u9.Val.flatMap eU8), .b u9.Del]) Aas rfl (.cp _) rfl rfl) (Ce rfl Ag9 (A9 Amh rfl rfl rfl rfl (Nbl rfl) (Cc [.box (EL.el a0), .arr 46 1 0 (s8.2.flatMap (eL eU8)), .box (EL.el u9)] rfl (Al (Bp (csr (sv rfl (Ap Aas rfl (.lp _ _ _ rfl) (Nbl rfl)) ?_)))))))
   obtain ⟨v10, hv10, h⟩ := Ag h
   refine Bn rfl Arw (Ad rfl Aj) (A4 rfl) (Qq hv10) (sv rfl (B1 rfl) (Al (ccI h rfl (fun h => ?_) (fun h => ?_))))
   ·refine csr (rm 1 rfl (Al (Bo (Ah (Ao (Ah (Ah (Ao (Ah ?_)))))))))
    obtain rfl := SJ h
    obtain rfl : Sum.inl _ = x8 := hk8
    replace ho8 : some _ = some _ := ho8
    obtain rfl := Option.some.inj ho8
    exact dnT rfl rfl rfl rfl
   ·refine Be (Ab (Ax (rm 1 rfl (sv rfl (Aa J3 rfl) (sv rfl (Ae E6 rfl (.lp _ _ _ rfl) rfl) ?_)))))
    refine Fw rfl Tryz.underlying130 Ahb rfl rfl (List.all_eq_true.1 rfl) (by decide) ?_
    refine Cc [.box (EL.el a0), .arr 46 1 0 (s8.2.flatMap (eL eU8)), .box (EL.el u9), .arr 46 1 0 ([u9.Key].flatMap (eL eU8))] rfl ?_
    obtain ⟨hb11, h⟩ := Cl h
    refine Wx (f := (eL eU8)) (xs := s8.2) (us := [u9.Key]) rfl Tryz.underlying130 Ahb Ah1 (fun _ => rfl) rfl rfl (.one _ _ _ _ (.ls _ _ _ _ _ _ rfl (Ay (f := (eL eU8)) (fun _ => rfl) [u9.Key]).symm)) rfl rfl rfl (.sl _ _ _ (Ay (f := (eL eU8)) (fun _ => rfl) _)) rfl rfl hb11 (by decide) ?_
    refine rm 1 rfl (Hy (Am (Ab (Ax (sv rfl (Bj rfl rfl) (rm 1 rfl (Al ?_)))))))
    obtain rfl := SJ h
    exact ⟨(n8, ((wI (s8.1 + 1)), (s8.2 ++ [u9.Key]))), _, hk8, ⟨rfl, rfl, rfl, rfl, rfl, trivial⟩, rfl, Nat.lt_succ_self _⟩
  ·refine Dp (Aq (Aq (Bd (Ab ?_))))
   obtain rfl := SJ h
   obtain rfl : _ = x8 := hk8
   exact ⟨s8.2, _, ho8, ⟨rfl, rfl, trivial⟩, rfl⟩
def Jy (a0 : As) (a1 : Int) (a2 : Int) (a3 : Int) (a4 : List Ar) (a5 : List Af) : Option Bool :=
 if (decide (a0.Token = a1)) then (some true) else (some (decide (a0.Ts = a3)))
theorem Rr {a0 : As} {a1 : Int} {a2 : Int} {a3 : Int} {a4 : List Ar} {a5 : List Af} {r : Bool} (h : Jy a0 a1 a2 a3 a4 a5 = some r) : C3 Tryz.prog 45 [.box [Ii6 a1, Ii6 a2, Ii6 a3, .sl a4.length (a4.flatMap A0), .sl a5.length (a5.flatMap Ac)]] [.agg (EL.el a0), .one (.lp 0 0)] (fun y m' => y = .s (.one (.b r)) ∧ m' = [.box [Ii6 a1, Ii6 a2, Ii6 a3, .sl a4.length (a4.flatMap A0), .sl a5.length (a5.flatMap Ac)]]) := by
 unfold Jy at h
 refine B3 Tryz.func45 rfl (nt := 16) rfl (Nbl rfl) ?_
 intro w0 S0 X0 H0
 refine csr (Kp rfl rfl (rm 1 rfl (Al (csr (fl Ac7 ti3 rfl rfl rfl rfl rfl rfl (fl Ac7 ti3 rfl rfl rfl rfl rfl rfl (sv rfl (Bg rfl rfl) (rm 1 rfl (Bc 9 rfl (fun hc => ?_) (fun hc => ?_))))))))))
 ·replace h := Bt hc h
  clear hc
  refine rm 7 rfl (Al (Bo ?_))
  obtain rfl := SJ h
  exact ⟨Or.inr rfl, _, [0], [.one (.b true)], [.box [Ii6 a1, Ii6 a2, Ii6 a3, .sl a4.length (a4.flatMap A0), .sl a5.length (a5.flatMap Ac)]], (Ai (B9.tmp _ _ rfl) Au), rfl, rfl, ⟨by decide, rfl⟩, rfl, rfl, ⟨rfl, rfl⟩⟩
 ·replace h := Bu hc h
  clear hc
  refine son rfl rfl rfl (sv rfl (Aa Ra rfl) (son rfl rfl rfl (sv rfl (Ae ti3 rfl (.lp _ _ _ rfl) rfl) (son rfl rfl rfl (sv rfl (Aa Ra rfl) (son rfl rfl rfl (sv rfl (Ae ti3 rfl (.lp _ _ _ rfl) rfl) (son rfl rfl rfl (sv rfl (Bg rfl rfl) (rm 2 rfl (Al (Bo ?_))))))))))))
  obtain rfl := SJ h
  exact ⟨Or.inr rfl, _, [0], [.one (.b (decide (a0.Ts = a3)))], [.box [Ii6 a1, Ii6 a2, Ii6 a3, .sl a4.length (a4.flatMap A0), .sl a5.length (a5.flatMap Ac)]], (Ai (B9.tmp _ _ rfl) Au), rfl, rfl, ⟨by decide, rfl⟩, rfl, rfl, ⟨rfl, rfl⟩⟩
def Ho (b1 : Unit) : Option Int :=
 some (-1)
def C7 (a0 : List As) (a1 : Int) (a2 : Int) (a3 : Int) (a4 : List Ar) (a5 : List Af) (s2 : Int) : Option (LR (Int) (Unit) (Int)) :=
 if (decide (s2 < (a0.length : Int))) then ((idx a0 s2).bind fun u3 => (Jy u3 a1 a2 a3 a4 a5).bind fun v4 => if v4 then (some (.ret s2)) else (some (.cont (wI (s2 + 1))))) else (some (.brk ()))
def G3 (a0 : List As) (a1 : Int) (a2 : Int) (a3 : Int) (a4 : List Ar) (a5 : List Af) : Option Int :=
 (Fc (C7 a0 a1 a2 a3 a4 a5) fuel 0).bind fun x => match x with | .inl r => some r | .inr e5 => Ho e5
theorem Pr {a0 : List As} {a1 : Int} {a2 : Int} {a3 : Int} {a4 : List Ar} {a5 : List Af} {r : Int} (h : G3 a0 a1 a2 a3 a4 a5 = some r) : C3 Tryz.prog 105 [.box [Ii6 a1, Ii6 a2, Ii6 a3, .sl a4.length (a4.flatMap A0), .sl a5.length (a5.flatMap Ac)]] [.one (.sl a0.length (a0.flatMap A5)), .one (.fn 45 [] [.lp 0 0])] (fun y m' => y = .s (.one (Ii6 r)) ∧ m' = [.box [Ii6 a1, Ii6 a2, Ii6 a3, .sl a4.length (a4.flatMap A0), .sl a5.length (a5.flatMap Ac)]]) := by
 unfold G3 at h
 refine B3 Tryz.func105 rfl (nt := 19) rfl (Nbl rfl) ?_
 intro w0 S0 X0 H0
 refine csr (rm 1 rfl (Al (Bp (csr (rm 1 rfl (sv rfl (An Amu rfl) (rm 1 rfl (Al (C4 (Unit) (fun b1 => []) (fun b1 => [.box [Ii6 a1, Ii6 a2, Ii6 a3, .sl a4.length (a4.flatMap A0), .sl a5.length (a5.flatMap Ac)]]) (fun b1 => Ho b1 = some r) (fun _ _ => Az rfl) (fun _ _ => Ak rfl) (fun _ _ => Nbl rfl) (fun b1 h => ?_) ?_)))))))))
 ·unfold Ho at h
  refine csr (rm 1 rfl (Al (Bo ?_)))
  obtain rfl := SJ h
  exact ⟨Or.inr rfl, _, [0], [.one (Ii6 (-1))], [.box [Ii6 a1, Ii6 a2, Ii6 a3, .sl a4.length (a4.flatMap A0), .sl a5.length (a5.flatMap Ac)]], (Ai (B9.tmp _ _ rfl) Au), rfl, rfl, ⟨by decide, rfl⟩, rfl, rfl, ⟨rfl, rfl⟩⟩
 ·skip
  refine Bf ?_
  obtain ⟨x2, hx2, ho2⟩ := Ag h
  refine Bs (G := Nat × (Int)) (fun g => [(0, .s (.one (.sl a0.length (a0.flatMap A5)))), (1, .s (.one (.fn 45 [] [.lp 0 0]))), (7, .s (.one (Ii6 (a0.length : Int)))), (8, .s (.one (Ii6 g.2)))]) (fun g => [.box [Ii6 a1, Ii6 a2, Ii6 a3, .sl a4.length (a4.flatMap A0), .sl a5.length (a5.flatMap Ac)]]) (fun g => Fc (C7 a0 a1 a2 a3 a4 a5) g.1 g.2 = some x2) (fun g => g.1) (fuel, 0) hx2 ⟨rfl, rfl, rfl, rfl, trivial⟩ [] rfl (fun _ _ => Az rfl) (fun _ _ => Ak rfl) (fun _ _ => Nbl rfl) ?_
  clear hx2 h
  rintro ⟨n2, s2⟩ h
  obtain ⟨n2, y2, rfl, h, hk2⟩ := Dc h
  unfold C7 at h
  refine csr (sv rfl (Bi rfl rfl) (Al (Bp (ccI h rfl (fun h => ?_) (fun h => ?_)))))
  ·refine Be (Ab (Bp (Bf (csr (rm 2 rfl (Al (csr (rm 2 rfl (sv rfl (A3 rfl) ?_)))))))))
   obtain ⟨u3, hu3, h⟩ := Ag h
   refine sv rfl (Bw (f := A5) Amu (fun _ => rfl) rfl rfl rfl rfl hu3) ?_
   refine sv rfl (Bq (ys := [Ii6 u3.Token, Ii6 u3.Snap, Ii6 u3.Ts, .sl u3.Reads.length (u3.Reads.flatMap A0), .sl u3.Writes.length (u3.Writes.flatMap Ac)]) Uc rfl (.cp _) rfl rfl) ?_
   obtain ⟨v4, hv4, h⟩ := Ag h
   refine Dx (x' := .s (.one (.b v4))) (M' := [.box [Ii6 a1, Ii6 a2, Ii6 a3, .sl a4.length (a4.flatMap A0), .sl a5.length (a5.flatMap Ac)]]) [0] rfl Atp (.fn _ _ _ _ rfl) (Ad rfl Aj) (Rr hv4) rfl rfl (by decide) rfl rfl rfl ?_
   refine Al (ccI h rfl (fun h => ?_) (fun h => ?_))
   ·refine csr (rm 2 rfl (Al (Bo (Ao (Ah (Ah (Ao (Ah ?_))))))))
    obtain rfl := SJ h
    obtain rfl : Sum.inl _ = x2 := hk2
    replace ho2 : some _ = some _ := ho2
    obtain rfl := Option.some.inj ho2
    exact ⟨Or.inr rfl, _, [0], [.one (Ii6 s2)], [.box [Ii6 a1, Ii6 a2, Ii6 a3, .sl a4.length (a4.flatMap A0), .sl a5.length (a5.flatMap Ac)]], (Ai (B9.tmp _ _ rfl) Au), rfl, rfl, ⟨by decide, rfl⟩, rfl, rfl, ⟨rfl, rfl⟩⟩
   ·refine Be (Am (Ab (Ax (sv rfl (Bj rfl rfl) (rm 1 rfl (Al ?_))))))
    obtain rfl := SJ h
    exact ⟨(n2, (wI (s2 + 1))), _, hk2, ⟨rfl, rfl, rfl, rfl, trivial⟩, rfl, Nat.lt_succ_self _⟩
  ·refine Dp (Aq (Aq (Bd (Ab ?_))))
   obtain rfl := SJ h
   obtain rfl : _ = x2 := hk2
   exact ⟨(), _, ho2, trivial, rfl⟩
def Mh (a0 : List As) (a1 : Int) (a2 : Int) (a3 : Int) (a4 : List Ar) (a5 : List Af) : Option Int :=
 (G3 a0 a1 a2 a3 a4 a5).bind fun v1 => some v1
theorem Uz {a0 : List As} {a1 : Int} {a2 : Int} {a3 : Int} {a4 : List Ar} {a5 : List Af} {r : Int} (h : Mh a0 a1 a2 a3 a4 a5 = some r) : C3 Tryz.prog 82 [.box [Ii6 a1, Ii6 a2, Ii6 a3, .sl a4.length (a4.flatMap A0), .sl a5.length (a5.flatMap Ac)]] [.one (.sl a0.length (a0.flatMap A5)), .one (.fn 45 [] [.lp 0 0])] (fun y m' => y = .s (.one (Ii6 r)) ∧ m' = [.box [Ii6 a1, Ii6 a2, Ii6 a3, .sl a4.length (a4.flatMap A0), .sl a5.length (a5.flatMap Ac)]]) := by
 unfold Mh at h
 refine B3 Tryz.func82 rfl (nt := 8) rfl (Nbl rfl) ?_
 intro w0 S0 X0 H0
 refine csr (rm 1 rfl (Al (csr (rm 1 rfl (sv rfl (A3 rfl) ?_)))))
 obtain ⟨v1, hv1, h⟩ := Ag h
 refine Dx (x' := .s (.one (Ii6 v1))) (M' := [.box [Ii6 a1, Ii6 a2, Ii6 a3, .sl a4.length (a4.flatMap A0), .sl a5.length (a5.flatMap Ac)]]) [0] rfl Ap5 (.func _) (Ad rfl (Ad rfl Aj)) (Pr hv1) rfl rfl (by decide) rfl rfl rfl ?_
 refine rm 1 rfl (Al (Bo ?_))
 obtain rfl := SJ h
 exact ⟨Or.inr rfl, _, [0], [.one (Ii6 v1)], [.box [Ii6 a1, Ii6 a2, Ii6 a3, .sl a4.length (a4.flatMap A0), .sl a5.length (a5.flatMap Ac)]], (Ai (B9.tmp _ _ rfl) Au), rfl, rfl, ⟨by decide, rfl⟩, rfl, rfl, ⟨rfl, rfl⟩⟩
def J2 (a0 : List As) (a1 : Int) (a2 : Int) (a3 : Int) (a4 : List Ar) (a5 : List Af) : Option Bool :=
 (Mh a0 a1 a2 a3 a4 a5).bind fun v1 => some (decide (0 ≤ v1))
theorem Ur {a0 : List As} {a1 : Int} {a2 : Int} {a3 : Int} {a4 : List Ar} {a5 : List Af} {r : Bool} (h : J2 a0 a1 a2 a3 a4 a5 = some r) : C3 Tryz.prog 47 [.box [Ii6 a1, Ii6 a2, Ii6 a3, .sl a4.length (a4.flatMap A0), .sl a5.length (a5.flatMap Ac)]] [.one (.sl a0.length (a0.flatMap A5)), .one (.fn 45 [] [.lp 0 0])] (fun y m' => y = .s (.one (.b r)) ∧ m' = [.box [Ii6 a1, Ii6 a2, Ii6 a3, .sl a4.length (a4.flatMap A0), .sl a5.length (a5.flatMap Ac)]]) := by
 unfold J2 at h
 refine B3 Tryz.func47 rfl (nt := 9) rfl (Nbl rfl) ?_
 intro w0 S0 X0 H0
 refine csr (rm 1 rfl (Al (csr (rm 1 rfl (sv rfl (A3 rfl) ?_)))))
 obtain ⟨v1, hv1, h⟩ := Ag h
 refine Dx (x' := .s (.one (Ii6 v1))) (M' := [.box [Ii6 a1, Ii6 a2, Ii6 a3, .sl a4.length (a4.flatMap A0), .sl a5.length (a5.flatMap Ac)]]) [0] rfl Asy (.func _) (Ad rfl (Ad rfl Aj)) (Uz hv1) rfl rfl (by decide) rfl rfl rfl ?_
 refine sv rfl (G6 rfl rfl) (rm 1 rfl (Al (Bo ?_)))
 obtain rfl := SJ h
 exact ⟨Or.inr rfl, _, [0], [.one (.b (decide (0 ≤ v1)))], [.box [Ii6 a1, Ii6 a2, Ii6 a3, .sl a4.length (a4.flatMap A0), .sl a5.length (a5.flatMap Ac)]], (Ai (B9.tmp _ _ rfl) Au), rfl, rfl, ⟨by decide, rfl⟩, rfl, rfl, ⟨rfl, rfl⟩⟩
def Ml (a0 : List As) (b1 : Unit) : Option Bool :=
 some (decide ((a0.length : Int) ≤ 64))
def Ft (a0 : List As) (s2 : Int) : Option (LR (Int) (Unit) (Bool)) :=
 if (decide (s2 < (a0.length : Int))) then ((idx a0 s2).bind fun u3 => (Cq u3).bind fun v4 => if (!v4) then (some (.ret false)) else ((cut a0 0 s2).bind fun c5 => (J2 c5 u3.Token u3.Snap u3.Ts u3.Reads u3.Writes).bind fun v6 => if v6 then (some (.ret false)) else (some (.cont (wI (s2 + 1)))))) else (some (.brk ()))
def Ib (a0 : List As) : Option Bool :=
 (Fc (Ft a0) fuel 0).bind fun x => match x with | .inl r => some r | .inr e7 => Ml a0 e7
theorem Uf {a0 : List As} {r : Bool} (h : Ib a0 = some r) : Bz Tryz.prog 22 [.one (.sl a0.length (a0.flatMap A5))] (· = .s (.one (.b r))) := by
 unfold Ib at h
 refine A8 Tryz.func22 rfl (nt := 28) rfl (Nbl rfl) ?_
 intro w0 S0
 refine csr (rm 1 rfl (Al (Bp (csr (rm 1 rfl (sv rfl (An Al0 rfl) (rm 1 rfl (Al (C4 (Unit) (fun b1 => [(0, .s (.one (.sl a0.length (a0.flatMap A5))))]) (fun b1 => []) (fun b1 => Ml a0 b1 = some r) (fun _ _ => Az rfl) (fun _ _ => Ak rfl) (fun _ _ => Nbl rfl) (fun b1 h => ?_) ?_)))))))))
 ·unfold Ml at h
  refine csr (rm 1 rfl (sv rfl (An Al0 rfl) (sv rfl (Eb rfl rfl) (rm 1 rfl (Al (Bo ?_))))))
  obtain rfl := SJ h
  exact dnT rfl rfl rfl rfl
 ·skip
  refine Bf ?_
  obtain ⟨x2, hx2, ho2⟩ := Ag h
  refine Bs (G := Nat × (Int)) (fun g => [(0, .s (.one (.sl a0.length (a0.flatMap A5)))), (6, .s (.one (.sl a0.length (a0.flatMap A5)))), (7, .s (.one (Ii6 (a0.length : Int)))), (8, .s (.one (Ii6 g.2)))]) (fun g => []) (fun g => Fc (Ft a0) g.1 g.2 = some x2) (fun g => g.1) (fuel, 0) hx2 ⟨rfl, rfl, rfl, rfl, trivial⟩ [] rfl (fun _ _ => Az rfl) (fun _ _ => Ak rfl) (fun _ _ => Nbl rfl) ?_
  clear hx2 h
  rintro ⟨n2, s2⟩ h
  obtain ⟨n2, y2, rfl, h, hk2⟩ := Dc h
  unfold Ft at h
  refine csr (sv rfl (Bi rfl rfl) (Al (Bp (ccI h rfl (fun h => ?_) (fun h => ?_)))))
  ·refine Be (Ab (Bp (Bf (csr (sv rfl (A3 rfl) ?_)))))
   obtain ⟨u3, hu3, h⟩ := Ag h
   refine sv rfl (Bw (f := A5) Al0 (fun _ => rfl) rfl rfl rfl rfl hu3) ?_
   refine sv rfl (Bq (ys := [Ii6 u3.Token, Ii6 u3.Snap, Ii6 u3.Ts, .sl u3.Reads.length (u3.Reads.flatMap A0), .sl u3.Writes.length (u3.Writes.flatMap Ac)]) Uc rfl (.cp _) rfl rfl) (Ce rfl Amf (rm 1 rfl (A9 Ao8 rfl rfl rfl rfl (Nbl rfl) (Cc [.box (EL.el u3)] rfl (Al (csr (sv rfl (Hf D1 (Fy rfl rfl D1)) (rm 1 rfl (Al (csr (sv rfl (Ap Uc rfl (.lp _ _ _ rfl) (Nbl rfl)) ?_)))))))))))
   obtain ⟨v4, hv4, h⟩ := Ag h
   refine Bn rfl Ar5 (Ad rfl Aj) (A4 rfl) (Sv hv4) (sv rfl (B1 rfl) (rm 1 rfl (Bc 17 rfl (fun hc => ?_) (fun hc => ?_))))
   ·replace h := Bt hc h
    clear hc
    refine rm 6 rfl (Al (Cm rfl (fun _ => ?_) (fun hx => Bool.noConfusion hx)))
    refine csr (rm 1 rfl (Al (Bo (Ao (Ah (Ah (Ao (Ah ?_))))))))
    obtain rfl := SJ h
    obtain rfl : Sum.inl _ = x2 := hk2
    replace ho2 : some _ = some _ := ho2
    obtain rfl := Option.some.inj ho2
    exact dnT rfl rfl rfl rfl
   ·replace h := Bu hc h
    clear hc
    refine rm 2 rfl (son rfl rfl rfl ?_)
    obtain ⟨c5, hc5, h⟩ := Ag h
    refine sv rfl (S4 (f := A5) (lo := 0) (hi := s2) Al0 (fun _ => rfl) rfl rfl rfl Pq (Mz rfl (Int.le_trans (Pg hc5).1.1 (Pg hc5).1.2.1)) hc5) ?_
    refine rm 1 rfl (son rfl rfl rfl ?_)
    obtain ⟨v6, hv6, h⟩ := Ag h
    refine Dx (x' := .s (.one (.b v6))) (M' := [.box (EL.el u3)]) [0] rfl Atv (.func _) (Ad rfl (Ad rfl Aj)) (Ur hv6) rfl rfl (by decide) rfl rfl rfl ?_
    refine rm 1 rfl (Al (ccI h rfl (fun h => ?_) (fun h => ?_)))
    ·refine csr (rm 1 rfl (Al (Bo (Ao (Ah (Ah (Ao (Ah ?_))))))))
     obtain rfl := SJ h
     obtain rfl : Sum.inl _ = x2 := hk2
     replace ho2 : some _ = some _ := ho2
     obtain rfl := Option.some.inj ho2
     exact dnT rfl rfl rfl rfl
    ·refine Be (Am (Ab (Ax (sv rfl (Bj rfl rfl) (rm 1 rfl (Al ?_))))))
     obtain rfl := SJ h
     exact ⟨(n2, (wI (s2 + 1))), _, hk2, ⟨rfl, rfl, rfl, rfl, trivial⟩, rfl, Nat.lt_succ_self _⟩
  ·refine Dp (Aq (Aq (Bd (Ab ?_))))
   obtain rfl := SJ h
   obtain rfl : _ = x2 := hk2
   exact ⟨(), _, ho2, ⟨rfl, trivial⟩, rfl⟩
def Gl (a0 : List UInt8) (a1 : List UInt8) : Option Bool :=
 some (a0 == a1)
theorem Px {a0 : List UInt8} {a1 : List UInt8} {r : Bool} (h : Gl a0 a1 = some r) : Bz Tryz.prog 53 [.one (.sl a0.length (a0.flatMap eU8)), .one (.sl a1.length (a1.flatMap eU8))] (· = .s (.one (.b r))) := by
 unfold Gl at h
 refine A8 Tryz.func53 rfl (nt := 10) rfl (Nbl rfl) ?_
 intro w0 S0
 refine csr (rm 1 rfl (Al (csr (rm 1 rfl (sv rfl (O9 (l := a0) Tryz.underlying46 Tryz.underlying5 Tryz.underlying9 rfl rfl rfl) (rm 1 rfl (sv rfl (O9 (l := a1) Tryz.underlying46 Tryz.underlying5 Tryz.underlying9 rfl rfl rfl) (sv rfl (W7 rfl rfl) (rm 1 rfl (Al (Bo ?_)))))))))))
 obtain rfl := SJ h
 exact dnT rfl rfl rfl rfl
def Fb (a0 : Af) (a1 : List UInt8) (a2 : List UInt8) (a3 : Bool) : Option Bool :=
 (Gl a1 a0.Key).bind fun v1 => some v1
theorem Ny {a0 : Af} {a1 : List UInt8} {a2 : List UInt8} {a3 : Bool} {r : Bool} (h : Fb a0 a1 a2 a3 = some r) : C3 Tryz.prog 52 [.box [.sl a1.length (a1.flatMap eU8), .sl a2.length (a2.flatMap eU8), .b a3]] [.agg (EL.el a0), .one (.lp 0 0)] (fun y m' => y = .s (.one (.b r)) ∧ m' = [.box [.sl a1.length (a1.flatMap eU8), .sl a2.length (a2.flatMap eU8), .b a3]]) := by
 unfold Fb at h
 refine B3 Tryz.func52 rfl (nt := 9) rfl (Nbl rfl) ?_
 intro w0 S0 X0 H0
 refine csr (Kp rfl rfl (rm 1 rfl (Al (csr (fl J3 E6 rfl rfl rfl rfl rfl rfl (sv rfl (Aa J3 rfl) (sv rfl (Ae E6 rfl (.lp _ _ _ rfl) rfl) ?_)))))))
 obtain ⟨v1, hv1, h⟩ := Ag h
 refine Bn rfl Arl (Ad rfl (Ad rfl Aj)) (A4 rfl) (Px hv1) (rm 1 rfl (Al (Bo ?_)))
 obtain rfl := SJ h
 exact ⟨Or.inr rfl, _, [0], [.one (.b v1)], [.box [.sl a1.length (a1.flatMap eU8), .sl a2.length (a2.flatMap eU8), .b a3]], (Ai (B9.tmp _ _ rfl) Au), rfl, rfl, ⟨by decide, rfl⟩, rfl, rfl, ⟨rfl, rfl⟩⟩
def G4 (b1 : Unit) : Option Int :=
 some (-1)
def Cy (a0 : List Af) (a1 : List UInt8) (a2 : List UInt8) (a3 : Bool) (s2 : Int) : Option (LR (Int) (Unit) (Int)) :=
 if (decide (s2 < (a0.length : Int))) then ((idx a0 s2).bind fun u3 => (Fb u3 a1 a2 a3).bind fun v4 => if v4 then (some (.ret s2)) else (some (.cont (wI (s2 + 1))))) else (some (.brk ()))
def F6 (a0 : List Af) (a1 : List UInt8) (a2 : List UInt8) (a3 : Bool) : Option Int :=
 (Fc (Cy a0 a1 a2 a3) fuel 0).bind fun x => match x with | .inl r => some r | .inr e5 => G4 e5
theorem O0 {a0 : List Af} {a1 : List UInt8} {a2 : List UInt8} {a3 : Bool} {r : Int} (h : F6 a0 a1 a2 a3 = some r) : C3 Tryz.prog 106 [.box [.sl a1.length (a1.flatMap eU8), .sl a2.length (a2.flatMap eU8), .b a3]] [.one (.sl a0.length (a0.flatMap Ac)), .one (.fn 52 [] [.lp 0 0])] (fun y m' => y = .s (.one (Ii6 r)) ∧ m' = [.box [.sl a1.length (a1.flatMap eU8), .sl a2.length (a2.flatMap eU8), .b a3]]) := by
 unfold F6 at h
 refine B3 Tryz.func106 rfl (nt := 19) rfl (Nbl rfl) ?_
 intro w0 S0 X0 H0
 refine csr (rm 1 rfl (Al (Bp (csr (rm 1 rfl (sv rfl (An Ad5 rfl) (rm 1 rfl (Al (C4 (Unit) (fun b1 => []) (fun b1 => [.box [.sl a1.length (a1.flatMap eU8), .sl a2.length (a2.flatMap eU8), .b a3]]) (fun b1 => G4 b1 = some r) (fun _ _ => Az rfl) (fun _ _ => Ak rfl) (fun _ _ => Nbl rfl) (fun b1 h => ?_) ?_)))))))))
 ·unfold G4 at h
  refine csr (rm 1 rfl (Al (Bo ?_)))
  obtain rfl := SJ h
  exact ⟨Or.inr rfl, _, [0], [.one (Ii6 (-1))], [.box [.sl a1.length (a1.flatMap eU8), .sl a2.length (a2.flatMap eU8), .b a3]], (Ai (B9.tmp _ _ rfl) Au), rfl, rfl, ⟨by decide, rfl⟩, rfl, rfl, ⟨rfl, rfl⟩⟩
 ·skip
  refine Bf ?_
  obtain ⟨x2, hx2, ho2⟩ := Ag h
  refine Bs (G := Nat × (Int)) (fun g => [(0, .s (.one (.sl a0.length (a0.flatMap Ac)))), (1, .s (.one (.fn 52 [] [.lp 0 0]))), (7, .s (.one (Ii6 (a0.length : Int)))), (8, .s (.one (Ii6 g.2)))]) (fun g => [.box [.sl a1.length (a1.flatMap eU8), .sl a2.length (a2.flatMap eU8), .b a3]]) (fun g => Fc (Cy a0 a1 a2 a3) g.1 g.2 = some x2) (fun g => g.1) (fuel, 0) hx2 ⟨rfl, rfl, rfl, rfl, trivial⟩ [] rfl (fun _ _ => Az rfl) (fun _ _ => Ak rfl) (fun _ _ => Nbl rfl) ?_
  clear hx2 h
  rintro ⟨n2, s2⟩ h
  obtain ⟨n2, y2, rfl, h, hk2⟩ := Dc h
  unfold Cy at h
  refine csr (sv rfl (Bi rfl rfl) (Al (Bp (ccI h rfl (fun h => ?_) (fun h => ?_)))))
  ·refine Be (Ab (Bp (Bf (csr (rm 2 rfl (Al (csr (rm 2 rfl (sv rfl (A3 rfl) ?_)))))))))
   obtain ⟨u3, hu3, h⟩ := Ag h
   refine sv rfl (Bw (f := Ac) Ad5 (fun _ => rfl) rfl rfl rfl rfl hu3) ?_
   refine sv rfl (Bq (ys := [.sl u3.Key.length (u3.Key.flatMap eU8), .sl u3.Val.length (u3.Val.flatMap eU8), .b u3.Del]) Aas rfl (.cp _) rfl rfl) ?_
   obtain ⟨v4, hv4, h⟩ := Ag h
   refine Dx (x' := .s (.one (.b v4))) (M' := [.box [.sl a1.length (a1.flatMap eU8), .sl a2.length (a2.flatMap eU8), .b a3]]) [0] rfl Ary (.fn _ _ _ _ rfl) (Ad rfl Aj) (Ny hv4) rfl rfl (by decide) rfl rfl rfl ?_
   refine Al (ccI h rfl (fun h => ?_) (fun h => ?_))
   ·refine csr (rm 2 rfl (Al (Bo (Ao (Ah (Ah (Ao (Ah ?_))))))))
    obtain rfl := SJ h
    obtain rfl : Sum.inl _ = x2 := hk2
    replace ho2 : some _ = some _ := ho2
    obtain rfl := Option.some.inj ho2
    exact ⟨Or.inr rfl, _, [0], [.one (Ii6 s2)], [.box [.sl a1.length (a1.flatMap eU8), .sl a2.length (a2.flatMap eU8), .b a3]], (Ai (B9.tmp _ _ rfl) Au), rfl, rfl, ⟨by decide, rfl⟩, rfl, rfl, ⟨rfl, rfl⟩⟩
   ·refine Be (Am (Ab (Ax (sv rfl (Bj rfl rfl) (rm 1 rfl (Al ?_))))))
    obtain rfl := SJ h
    exact ⟨(n2, (wI (s2 + 1))), _, hk2, ⟨rfl, rfl, rfl, rfl, trivial⟩, rfl, Nat.lt_succ_self _⟩
  ·refine Dp (Aq (Aq (Bd (Ab ?_))))
   obtain rfl := SJ h
   obtain rfl : _ = x2 := hk2
   exact ⟨(), _, ho2, trivial, rfl⟩
def Lm (a0 : List Af) (a1 : List UInt8) (a2 : List UInt8) (a3 : Bool) : Option Int :=
 (F6 a0 a1 a2 a3).bind fun v1 => some v1
theorem Tq {a0 : List Af} {a1 : List UInt8} {a2 : List UInt8} {a3 : Bool} {r : Int} (h : Lm a0 a1 a2 a3 = some r) : C3 Tryz.prog 84 [.box [.sl a1.length (a1.flatMap eU8), .sl a2.length (a2.flatMap eU8), .b a3]] [.one (.sl a0.length (a0.flatMap Ac)), .one (.fn 52 [] [.lp 0 0])] (fun y m' => y = .s (.one (Ii6 r)) ∧ m' = [.box [.sl a1.length (a1.flatMap eU8), .sl a2.length (a2.flatMap eU8), .b a3]]) := by
 unfold Lm at h
 refine B3 Tryz.func84 rfl (nt := 8) rfl (Nbl rfl) ?_
 intro w0 S0 X0 H0
 refine csr (rm 1 rfl (Al (csr (rm 1 rfl (sv rfl (A3 rfl) ?_)))))
 obtain ⟨v1, hv1, h⟩ := Ag h
 refine Dx (x' := .s (.one (Ii6 v1))) (M' := [.box [.sl a1.length (a1.flatMap eU8), .sl a2.length (a2.flatMap eU8), .b a3]]) [0] rfl Ak2 (.func _) (Ad rfl (Ad rfl Aj)) (O0 hv1) rfl rfl (by decide) rfl rfl rfl ?_
 refine rm 1 rfl (Al (Bo ?_))
 obtain rfl := SJ h
 exact ⟨Or.inr rfl, _, [0], [.one (Ii6 v1)], [.box [.sl a1.length (a1.flatMap eU8), .sl a2.length (a2.flatMap eU8), .b a3]], (Ai (B9.tmp _ _ rfl) Au), rfl, rfl, ⟨by decide, rfl⟩, rfl, rfl, ⟨rfl, rfl⟩⟩
def Jj (a0 : List Af) (a1 : List UInt8) (a2 : List UInt8) (a3 : Bool) : Option Bool :=
 (Lm a0 a1 a2 a3).bind fun v1 => some (decide (0 ≤ v1))
theorem Tv {a0 : List Af} {a1 : List UInt8} {a2 : List UInt8} {a3 : Bool} {r : Bool} (h : Jj a0 a1 a2 a3 = some r) : C3 Tryz.prog 50 [.box [.sl a1.length (a1.flatMap eU8), .sl a2.length (a2.flatMap eU8), .b a3]] [.one (.sl a0.length (a0.flatMap Ac)), .one (.fn 52 [] [.lp 0 0])] (fun y m' => y = .s (.one (.b r)) ∧ m' = [.box [.sl a1.length (a1.flatMap eU8), .sl a2.length (a2.flatMap eU8), .b a3]]) := by
 unfold Jj at h
 refine B3 Tryz.func50 rfl (nt := 9) rfl (Nbl rfl) ?_
 intro w0 S0 X0 H0
 refine csr (rm 1 rfl (Al (csr (rm 1 rfl (sv rfl (A3 rfl) ?_)))))
 obtain ⟨v1, hv1, h⟩ := Ag h
 refine Dx (x' := .s (.one (Ii6 v1))) (M' := [.box [.sl a1.length (a1.flatMap eU8), .sl a2.length (a2.flatMap eU8), .b a3]]) [0] rfl Apj (.func _) (Ad rfl (Ad rfl Aj)) (Tq hv1) rfl rfl (by decide) rfl rfl rfl ?_
 refine sv rfl (G6 rfl rfl) (rm 1 rfl (Al (Bo ?_)))
 obtain rfl := SJ h
 exact ⟨Or.inr rfl, _, [0], [.one (.b (decide (0 ≤ v1)))], [.box [.sl a1.length (a1.flatMap eU8), .sl a2.length (a2.flatMap eU8), .b a3]], (Ai (B9.tmp _ _ rfl) Au), rfl, rfl, ⟨by decide, rfl⟩, rfl, rfl, ⟨rfl, rfl⟩⟩
def F8 (a0 : Af) (a1 : Int) (a2 : Int) (a3 : Int) (a4 : List Ar) (a5 : List Af) : Option Bool :=
 (Jj a5 a0.Key a0.Val a0.Del).bind fun v1 => some v1
theorem O3 {a0 : Af} {a1 : Int} {a2 : Int} {a3 : Int} {a4 : List Ar} {a5 : List Af} {r : Bool} (h : F8 a0 a1 a2 a3 a4 a5 = some r) : C3 Tryz.prog 51 [.box [Ii6 a1, Ii6 a2, Ii6 a3, .sl a4.length (a4.flatMap A0), .sl a5.length (a5.flatMap Ac)]] [.agg (EL.el a0), .one (.lp 0 0)] (fun y m' => y = .s (.one (.b r)) ∧ m' = [.box [Ii6 a1, Ii6 a2, Ii6 a3, .sl a4.length (a4.flatMap A0), .sl a5.length (a5.flatMap Ac)]]) := by
 unfold F8 at h
 refine B3 Tryz.func51 rfl (nt := 8) rfl (Nbl rfl) ?_
 intro w0 S0 X0 H0
 refine csr (Kp rfl rfl (rm 1 rfl (Al (csr (fl Acn Ry rfl rfl rfl rfl rfl rfl (sv rfl (Hf D1 (Fy rfl rfl D1)) ?_))))))
 obtain ⟨v1, hv1, h⟩ := Ag h
 refine Dx (x' := .s (.one (.b v1))) (M' := [.box [Ii6 a1, Ii6 a2, Ii6 a3, .sl a4.length (a4.flatMap A0), .sl a5.length (a5.flatMap Ac)], .box (EL.el a0)]) [1] rfl Aox (.func _) (Ad rfl (Ad rfl Aj)) (Tv hv1) rfl rfl (by decide) rfl rfl rfl ?_
 refine rm 1 rfl (Al (Bo ?_))
 obtain rfl := SJ h
 exact ⟨Or.inr rfl, _, [0], [.one (.b v1)], [.box [Ii6 a1, Ii6 a2, Ii6 a3, .sl a4.length (a4.flatMap A0), .sl a5.length (a5.flatMap Ac)]], (Ai (B9.tmp _ _ rfl) Au), rfl, rfl, ⟨by decide, rfl⟩, rfl, rfl, ⟨rfl, rfl⟩⟩
def Hp (b1 : Unit) : Option Int :=
 some (-1)
def Db (a0 : List Af) (a1 : Int) (a2 : Int) (a3 : Int) (a4 : List Ar) (a5 : List Af) (s2 : Int) : Option (LR (Int) (Unit) (Int)) :=
 if (decide (s2 < (a0.length : Int))) then ((idx a0 s2).bind fun u3 => (F8 u3 a1 a2 a3 a4 a5).bind fun v4 => if v4 then (some (.ret s2)) else (some (.cont (wI (s2 + 1))))) else (some (.brk ()))
def Gx (a0 : List Af) (a1 : Int) (a2 : Int) (a3 : Int) (a4 : List Ar) (a5 : List Af) : Option Int :=
 (Fc (Db a0 a1 a2 a3 a4 a5) fuel 0).bind fun x => match x with | .inl r => some r | .inr e5 => Hp e5
theorem Pd {a0 : List Af} {a1 : Int} {a2 : Int} {a3 : Int} {a4 : List Ar} {a5 : List Af} {r : Int} (h : Gx a0 a1 a2 a3 a4 a5 = some r) : C3 Tryz.prog 106 [.box [Ii6 a1, Ii6 a2, Ii6 a3, .sl a4.length (a4.flatMap A0), .sl a5.length (a5.flatMap Ac)]] [.one (.sl a0.length (a0.flatMap Ac)), .one (.fn 51 [] [.lp 0 0])] (fun y m' => y = .s (.one (Ii6 r)) ∧ m' = [.box [Ii6 a1, Ii6 a2, Ii6 a3, .sl a4.length (a4.flatMap A0), .sl a5.length (a5.flatMap Ac)]]) := by
 unfold Gx at h
 refine B3 Tryz.func106 rfl (nt := 19) rfl (Nbl rfl) ?_
 intro w0 S0 X0 H0
 refine csr (rm 1 rfl (Al (Bp (csr (rm 1 rfl (sv rfl (An Ad5 rfl) (rm 1 rfl (Al (C4 (Unit) (fun b1 => []) (fun b1 => [.box [Ii6 a1, Ii6 a2, Ii6 a3, .sl a4.length (a4.flatMap A0), .sl a5.length (a5.flatMap Ac)]]) (fun b1 => Hp b1 = some r) (fun _ _ => Az rfl) (fun _ _ => Ak rfl) (fun _ _ => Nbl rfl) (fun b1 h => ?_) ?_)))))))))
 ·unfold Hp at h
  refine csr (rm 1 rfl (Al (Bo ?_)))
  obtain rfl := SJ h
  exact ⟨Or.inr rfl, _, [0], [.one (Ii6 (-1))], [.box [Ii6 a1, Ii6 a2, Ii6 a3, .sl a4.length (a4.flatMap A0), .sl a5.length (a5.flatMap Ac)]], (Ai (B9.tmp _ _ rfl) Au), rfl, rfl, ⟨by decide, rfl⟩, rfl, rfl, ⟨rfl, rfl⟩⟩
 ·skip
  refine Bf ?_
  obtain ⟨x2, hx2, ho2⟩ := Ag h
  refine Bs (G := Nat × (Int)) (fun g => [(0, .s (.one (.sl a0.length (a0.flatMap Ac)))), (1, .s (.one (.fn 51 [] [.lp 0 0]))), (7, .s (.one (Ii6 (a0.length : Int)))), (8, .s (.one (Ii6 g.2)))]) (fun g => [.box [Ii6 a1, Ii6 a2, Ii6 a3, .sl a4.length (a4.flatMap A0), .sl a5.length (a5.flatMap Ac)]]) (fun g => Fc (Db a0 a1 a2 a3 a4 a5) g.1 g.2 = some x2) (fun g => g.1) (fuel, 0) hx2 ⟨rfl, rfl, rfl, rfl, trivial⟩ [] rfl (fun _ _ => Az rfl) (fun _ _ => Ak rfl) (fun _ _ => Nbl rfl) ?_
  clear hx2 h
  rintro ⟨n2, s2⟩ h
  obtain ⟨n2, y2, rfl, h, hk2⟩ := Dc h
  unfold Db at h
  refine csr (sv rfl (Bi rfl rfl) (Al (Bp (ccI h rfl (fun h => ?_) (fun h => ?_)))))
  ·refine Be (Ab (Bp (Bf (csr (rm 2 rfl (Al (csr (rm 2 rfl (sv rfl (A3 rfl) ?_)))))))))
   obtain ⟨u3, hu3, h⟩ := Ag h
   refine sv rfl (Bw (f := Ac) Ad5 (fun _ => rfl) rfl rfl rfl rfl hu3) ?_
   refine sv rfl (Bq (ys := [.sl u3.Key.length (u3.Key.flatMap eU8), .sl u3.Val.length (u3.Val.flatMap eU8), .b u3.Del]) Aas rfl (.cp _) rfl rfl) ?_
   obtain ⟨v4, hv4, h⟩ := Ag h
   refine Dx (x' := .s (.one (.b v4))) (M' := [.box [Ii6 a1, Ii6 a2, Ii6 a3, .sl a4.length (a4.flatMap A0), .sl a5.length (a5.flatMap Ac)]]) [0] rfl As2 (.fn _ _ _ _ rfl) (Ad rfl Aj) (O3 hv4) rfl rfl (by decide) rfl rfl rfl ?_
   refine Al (ccI h rfl (fun h => ?_) (fun h => ?_))
   ·refine csr (rm 2 rfl (Al (Bo (Ao (Ah (Ah (Ao (Ah ?_))))))))
    obtain rfl := SJ h
    obtain rfl : Sum.inl _ = x2 := hk2
    replace ho2 : some _ = some _ := ho2
    obtain rfl := Option.some.inj ho2
    exact ⟨Or.inr rfl, _, [0], [.one (Ii6 s2)], [.box [Ii6 a1, Ii6 a2, Ii6 a3, .sl a4.length (a4.flatMap A0), .sl a5.length (a5.flatMap Ac)]], (Ai (B9.tmp _ _ rfl) Au), rfl, rfl, ⟨by decide, rfl⟩, rfl, rfl, ⟨rfl, rfl⟩⟩
   ·refine Be (Am (Ab (Ax (sv rfl (Bj rfl rfl) (rm 1 rfl (Al ?_))))))
    obtain rfl := SJ h
    exact ⟨(n2, (wI (s2 + 1))), _, hk2, ⟨rfl, rfl, rfl, rfl, trivial⟩, rfl, Nat.lt_succ_self _⟩
  ·refine Dp (Aq (Aq (Bd (Ab ?_))))
   obtain rfl := SJ h
   obtain rfl : _ = x2 := hk2
   exact ⟨(), _, ho2, trivial, rfl⟩
def Ma (a0 : List Af) (a1 : Int) (a2 : Int) (a3 : Int) (a4 : List Ar) (a5 : List Af) : Option Int :=
 (Gx a0 a1 a2 a3 a4 a5).bind fun v1 => some v1
theorem Uq {a0 : List Af} {a1 : Int} {a2 : Int} {a3 : Int} {a4 : List Ar} {a5 : List Af} {r : Int} (h : Ma a0 a1 a2 a3 a4 a5 = some r) : C3 Tryz.prog 84 [.box [Ii6 a1, Ii6 a2, Ii6 a3, .sl a4.length (a4.flatMap A0), .sl a5.length (a5.flatMap Ac)]] [.one (.sl a0.length (a0.flatMap Ac)), .one (.fn 51 [] [.lp 0 0])] (fun y m' => y = .s (.one (Ii6 r)) ∧ m' = [.box [Ii6 a1, Ii6 a2, Ii6 a3, .sl a4.length (a4.flatMap A0), .sl a5.length (a5.flatMap Ac)]]) := by
 unfold Ma at h
 refine B3 Tryz.func84 rfl (nt := 8) rfl (Nbl rfl) ?_
 intro w0 S0 X0 H0
 refine csr (rm 1 rfl (Al (csr (rm 1 rfl (sv rfl (A3 rfl) ?_)))))
 obtain ⟨v1, hv1, h⟩ := Ag h
 refine Dx (x' := .s (.one (Ii6 v1))) (M' := [.box [Ii6 a1, Ii6 a2, Ii6 a3, .sl a4.length (a4.flatMap A0), .sl a5.length (a5.flatMap Ac)]]) [0] rfl Ak2 (.func _) (Ad rfl (Ad rfl Aj)) (Pd hv1) rfl rfl (by decide) rfl rfl rfl ?_
 refine rm 1 rfl (Al (Bo ?_))
 obtain rfl := SJ h
 exact ⟨Or.inr rfl, _, [0], [.one (Ii6 v1)], [.box [Ii6 a1, Ii6 a2, Ii6 a3, .sl a4.length (a4.flatMap A0), .sl a5.length (a5.flatMap Ac)]], (Ai (B9.tmp _ _ rfl) Au), rfl, rfl, ⟨by decide, rfl⟩, rfl, rfl, ⟨rfl, rfl⟩⟩
def L6 (a0 : List Af) (a1 : Int) (a2 : Int) (a3 : Int) (a4 : List Ar) (a5 : List Af) : Option Bool :=
 (Ma a0 a1 a2 a3 a4 a5).bind fun v1 => some (decide (0 ≤ v1))
theorem Uy {a0 : List Af} {a1 : Int} {a2 : Int} {a3 : Int} {a4 : List Ar} {a5 : List Af} {r : Bool} (h : L6 a0 a1 a2 a3 a4 a5 = some r) : C3 Tryz.prog 50 [.box [Ii6 a1, Ii6 a2, Ii6 a3, .sl a4.length (a4.flatMap A0), .sl a5.length (a5.flatMap Ac)]] [.one (.sl a0.length (a0.flatMap Ac)), .one (.fn 51 [] [.lp 0 0])] (fun y m' => y = .s (.one (.b r)) ∧ m' = [.box [Ii6 a1, Ii6 a2, Ii6 a3, .sl a4.length (a4.flatMap A0), .sl a5.length (a5.flatMap Ac)]]) := by
 unfold L6 at h
 refine B3 Tryz.func50 rfl (nt := 9) rfl (Nbl rfl) ?_
 intro w0 S0 X0 H0
 refine csr (rm 1 rfl (Al (csr (rm 1 rfl (sv rfl (A3 rfl) ?_)))))
 obtain ⟨v1, hv1, h⟩ := Ag h
 refine Dx (x' := .s (.one (Ii6 v1))) (M' := [.box [Ii6 a1, Ii6 a2, Ii6 a3, .sl a4.length (a4.flatMap A0), .sl a5.length (a5.flatMap Ac)]]) [0] rfl Apj (.func _) (Ad rfl (Ad rfl Aj)) (Uq hv1) rfl rfl (by decide) rfl rfl rfl ?_
 refine sv rfl (G6 rfl rfl) (rm 1 rfl (Al (Bo ?_)))
 obtain rfl := SJ h
 exact ⟨Or.inr rfl, _, [0], [.one (.b (decide (0 ≤ v1)))], [.box [Ii6 a1, Ii6 a2, Ii6 a3, .sl a4.length (a4.flatMap A0), .sl a5.length (a5.flatMap Ac)]], (Ai (B9.tmp _ _ rfl) Au), rfl, rfl, ⟨by decide, rfl⟩, rfl, rfl, ⟨rfl, rfl⟩⟩
def F3 (a0 : As) (a1 : As) : Option Bool :=
 (L6 a0.Writes a1.Token a1.Snap a1.Ts a1.Reads a1.Writes).bind fun v1 => some v1
theorem Qu {a0 : As} {a1 : As} {r : Bool} (h : F3 a0 a1 = some r) : Bz Tryz.prog 28 [.agg (EL.el a0), .agg (EL.el a1)] (· = .s (.one (.b r))) := by
 unfold F3 at h
 refine A8 Tryz.func28 rfl (nt := 9) rfl (Nbl rfl) ?_
 intro w0 S0
 refine csr (Kp rfl rfl (Kp rfl rfl (rm 1 rfl (Al (csr (fl Acn Ry rfl rfl rfl rfl rfl rfl (sv rfl (Hf D1 (Fy rfl rfl D1)) ?_)))))))
 obtain ⟨v1, hv1, h⟩ := Ag h
 refine Dx (x' := .s (.one (.b v1))) (M' := [.box (EL.el a0), .box (EL.el a1)]) [1] rfl Aox (.func _) (Ad rfl (Ad rfl Aj)) (Uy hv1) rfl rfl (by decide) rfl rfl rfl ?_
 refine rm 1 rfl (Al (Bo ?_))
 obtain rfl := SJ h
 exact dnT rfl rfl rfl rfl
def F9 (a0 : Ar) (a1 : List UInt8) (a2 : List UInt8) (a3 : Bool) : Option Bool :=
 (J7 a0 a1).bind fun v1 => some v1
theorem Ox {a0 : Ar} {a1 : List UInt8} {a2 : List UInt8} {a3 : Bool} {r : Bool} (h : F9 a0 a1 a2 a3 = some r) : C3 Tryz.prog 56 [.box [.sl a1.length (a1.flatMap eU8), .sl a2.length (a2.flatMap eU8), .b a3]] [.agg (EL.el a0), .one (.lp 0 0)] (fun y m' => y = .s (.one (.b r)) ∧ m' = [.box [.sl a1.length (a1.flatMap eU8), .sl a2.length (a2.flatMap eU8), .b a3]]) := by
 unfold F9 at h
 refine B3 Tryz.func56 rfl (nt := 8) rfl (Nbl rfl) ?_
 intro w0 S0 X0 H0
 refine csr (Kp rfl rfl (rm 1 rfl (Al (csr (sv rfl (Ap Vd rfl (.lp _ _ _ rfl) (Nbl rfl)) (sv rfl (Aa J3 rfl) (sv rfl (Ae E6 rfl (.lp _ _ _ rfl) rfl) ?_)))))))
 obtain ⟨v1, hv1, h⟩ := Ag h
 refine Bn rfl Aqb (Ad rfl (Ad rfl Aj)) (A4 rfl) (O2 hv1) (rm 1 rfl (Al (Bo ?_)))
 obtain rfl := SJ h
 exact ⟨Or.inr rfl, _, [0], [.one (.b v1)], [.box [.sl a1.length (a1.flatMap eU8), .sl a2.length (a2.flatMap eU8), .b a3]], (Ai (B9.tmp _ _ rfl) Au), rfl, rfl, ⟨by decide, rfl⟩, rfl, rfl, ⟨rfl, rfl⟩⟩
def Hw (b1 : Unit) : Option Int :=
 some (-1)
def Da (a0 : List Ar) (a1 : List UInt8) (a2 : List UInt8) (a3 : Bool) (s2 : Int) : Option (LR (Int) (Unit) (Int)) :=
 if (decide (s2 < (a0.length : Int))) then ((idx a0 s2).bind fun u3 => (F9 u3 a1 a2 a3).bind fun v4 => if v4 then (some (.ret s2)) else (some (.cont (wI (s2 + 1))))) else (some (.brk ()))
def G0 (a0 : List Ar) (a1 : List UInt8) (a2 : List UInt8) (a3 : Bool) : Option Int :=
 (Fc (Da a0 a1 a2 a3) fuel 0).bind fun x => match x with | .inl r => some r | .inr e5 => Hw e5
theorem Pu {a0 : List Ar} {a1 : List UInt8} {a2 : List UInt8} {a3 : Bool} {r : Int} (h : G0 a0 a1 a2 a3 = some r) : C3 Tryz.prog 107 [.box [.sl a1.length (a1.flatMap eU8), .sl a2.length (a2.flatMap eU8), .b a3]] [.one (.sl a0.length (a0.flatMap A0)), .one (.fn 56 [] [.lp 0 0])] (fun y m' => y = .s (.one (Ii6 r)) ∧ m' = [.box [.sl a1.length (a1.flatMap eU8), .sl a2.length (a2.flatMap eU8), .b a3]]) := by
 unfold G0 at h
 refine B3 Tryz.func107 rfl (nt := 19) rfl (Nbl rfl) ?_
 intro w0 S0 X0 H0
 refine csr (rm 1 rfl (Al (Bp (csr (rm 1 rfl (sv rfl (An Amk rfl) (rm 1 rfl (Al (C4 (Unit) (fun b1 => []) (fun b1 => [.box [.sl a1.length (a1.flatMap eU8), .sl a2.length (a2.flatMap eU8), .b a3]]) (fun b1 => Hw b1 = some r) (fun _ _ => Az rfl) (fun _ _ => Ak rfl) (fun _ _ => Nbl rfl) (fun b1 h => ?_) ?_)))))))))
 ·unfold Hw at h
  refine csr (rm 1 rfl (Al (Bo ?_)))
  obtain rfl := SJ h
  exact ⟨Or.inr rfl, _, [0], [.one (Ii6 (-1))], [.box [.sl a1.length (a1.flatMap eU8), .sl a2.length (a2.flatMap eU8), .b a3]], (Ai (B9.tmp _ _ rfl) Au), rfl, rfl, ⟨by decide, rfl⟩, rfl, rfl, ⟨rfl, rfl⟩⟩
 ·skip
  refine Bf ?_
  obtain ⟨x2, hx2, ho2⟩ := Ag h
  refine Bs (G := Nat × (Int)) (fun g => [(0, .s (.one (.sl a0.length (a0.flatMap A0)))), (1, .s (.one (.fn 56 [] [.lp 0 0]))), (7, .s (.one (Ii6 (a0.length : Int)))), (8, .s (.one (Ii6 g.2)))]) (fun g => [.box [.sl a1.length (a1.flatMap eU8), .sl a2.length (a2.flatMap eU8), .b a3]]) (fun g => Fc (Da a0 a1 a2 a3) g.1 g.2 = some x2) (fun g => g.1) (fuel, 0) hx2 ⟨rfl, rfl, rfl, rfl, trivial⟩ [] rfl (fun _ _ => Az rfl) (fun _ _ => Ak rfl) (fun _ _ => Nbl rfl) ?_
  clear hx2 h
  rintro ⟨n2, s2⟩ h
  obtain ⟨n2, y2, rfl, h, hk2⟩ := Dc h
  unfold Da at h
  refine csr (sv rfl (Bi rfl rfl) (Al (Bp (ccI h rfl (fun h => ?_) (fun h => ?_)))))
  ·refine Be (Ab (Bp (Bf (csr (rm 2 rfl (Al (csr (rm 2 rfl (sv rfl (A3 rfl) ?_)))))))))
   obtain ⟨u3, hu3, h⟩ := Ag h
   refine sv rfl (Bw (f := A0) Amk (fun _ => rfl) rfl rfl rfl rfl hu3) ?_
   refine sv rfl (Bq (ys := [.sl u3.Lo.length (u3.Lo.flatMap eU8), .sl u3.Hi.length (u3.Hi.flatMap eU8), .b u3.Open]) Vd rfl (.cp _) rfl rfl) ?_
   obtain ⟨v4, hv4, h⟩ := Ag h
   refine Dx (x' := .s (.one (.b v4))) (M' := [.box [.sl a1.length (a1.flatMap eU8), .sl a2.length (a2.flatMap eU8), .b a3]]) [0] rfl Ar2 (.fn _ _ _ _ rfl) (Ad rfl Aj) (Ox hv4) rfl rfl (by decide) rfl rfl rfl ?_
   refine Al (ccI h rfl (fun h => ?_) (fun h => ?_))
   ·refine csr (rm 2 rfl (Al (Bo (Ao (Ah (Ah (Ao (Ah ?_))))))))
    obtain rfl := SJ h
    obtain rfl : Sum.inl _ = x2 := hk2
    replace ho2 : some _ = some _ := ho2
    obtain rfl := Option.some.inj ho2
    exact ⟨Or.inr rfl, _, [0], [.one (Ii6 s2)], [.box [.sl a1.length (a1.flatMap eU8), .sl a2.length (a2.flatMap eU8), .b a3]], (Ai (B9.tmp _ _ rfl) Au), rfl, rfl, ⟨by decide, rfl⟩, rfl, rfl, ⟨rfl, rfl⟩⟩
   ·refine Be (Am (Ab (Ax (sv rfl (Bj rfl rfl) (rm 1 rfl (Al ?_))))))
    obtain rfl := SJ h
    exact ⟨(n2, (wI (s2 + 1))), _, hk2, ⟨rfl, rfl, rfl, rfl, trivial⟩, rfl, Nat.lt_succ_self _⟩
  ·refine Dp (Aq (Aq (Bd (Ab ?_))))
   obtain rfl := SJ h
   obtain rfl : _ = x2 := hk2
   exact ⟨(), _, ho2, trivial, rfl⟩
def Mj (a0 : List Ar) (a1 : List UInt8) (a2 : List UInt8) (a3 : Bool) : Option Int :=
 (G0 a0 a1 a2 a3).bind fun v1 => some v1
theorem Uh {a0 : List Ar} {a1 : List UInt8} {a2 : List UInt8} {a3 : Bool} {r : Int} (h : Mj a0 a1 a2 a3 = some r) : C3 Tryz.prog 85 [.box [.sl a1.length (a1.flatMap eU8), .sl a2.length (a2.flatMap eU8), .b a3]] [.one (.sl a0.length (a0.flatMap A0)), .one (.fn 56 [] [.lp 0 0])] (fun y m' => y = .s (.one (Ii6 r)) ∧ m' = [.box [.sl a1.length (a1.flatMap eU8), .sl a2.length (a2.flatMap eU8), .b a3]]) := by
 unfold Mj at h
 refine B3 Tryz.func85 rfl (nt := 8) rfl (Nbl rfl) ?_
 intro w0 S0 X0 H0
 refine csr (rm 1 rfl (Al (csr (rm 1 rfl (sv rfl (A3 rfl) ?_)))))
 obtain ⟨v1, hv1, h⟩ := Ag h
 refine Dx (x' := .s (.one (Ii6 v1))) (M' := [.box [.sl a1.length (a1.flatMap eU8), .sl a2.length (a2.flatMap eU8), .b a3]]) [0] rfl Ape (.func _) (Ad rfl (Ad rfl Aj)) (Pu hv1) rfl rfl (by decide) rfl rfl rfl ?_
 refine rm 1 rfl (Al (Bo ?_))
 obtain rfl := SJ h
 exact ⟨Or.inr rfl, _, [0], [.one (Ii6 v1)], [.box [.sl a1.length (a1.flatMap eU8), .sl a2.length (a2.flatMap eU8), .b a3]], (Ai (B9.tmp _ _ rfl) Au), rfl, rfl, ⟨by decide, rfl⟩, rfl, rfl, ⟨rfl, rfl⟩⟩
def J1 (a0 : List Ar) (a1 : List UInt8) (a2 : List UInt8) (a3 : Bool) : Option Bool :=
 (Mj a0 a1 a2 a3).bind fun v1 => some (decide (0 ≤ v1))
theorem Up {a0 : List Ar} {a1 : List UInt8} {a2 : List UInt8} {a3 : Bool} {r : Bool} (h : J1 a0 a1 a2 a3 = some r) : C3 Tryz.prog 55 [.box [.sl a1.length (a1.flatMap eU8), .sl a2.length (a2.flatMap eU8), .b a3]] [.one (.sl a0.length (a0.flatMap A0)), .one (.fn 56 [] [.lp 0 0])] (fun y m' => y = .s (.one (.b r)) ∧ m' = [.box [.sl a1.length (a1.flatMap eU8), .sl a2.length (a2.flatMap eU8), .b a3]]) := by
 unfold J1 at h
 refine B3 Tryz.func55 rfl (nt := 9) rfl (Nbl rfl) ?_
 intro w0 S0 X0 H0
 refine csr (rm 1 rfl (Al (csr (rm 1 rfl (sv rfl (A3 rfl) ?_)))))
 obtain ⟨v1, hv1, h⟩ := Ag h
 refine Dx (x' := .s (.one (Ii6 v1))) (M' := [.box [.sl a1.length (a1.flatMap eU8), .sl a2.length (a2.flatMap eU8), .b a3]]) [0] rfl Asu (.func _) (Ad rfl (Ad rfl Aj)) (Uh hv1) rfl rfl (by decide) rfl rfl rfl ?_
 refine sv rfl (G6 rfl rfl) (rm 1 rfl (Al (Bo ?_)))
 obtain rfl := SJ h
 exact ⟨Or.inr rfl, _, [0], [.one (.b (decide (0 ≤ v1)))], [.box [.sl a1.length (a1.flatMap eU8), .sl a2.length (a2.flatMap eU8), .b a3]], (Ai (B9.tmp _ _ rfl) Au), rfl, rfl, ⟨by decide, rfl⟩, rfl, rfl, ⟨rfl, rfl⟩⟩
def Hn (a0 : Af) (a1 : Int) (a2 : Int) (a3 : Int) (a4 : List Ar) (a5 : List Af) : Option Bool :=
 (J1 a4 a0.Key a0.Val a0.Del).bind fun v1 => some v1
theorem Qb {a0 : Af} {a1 : Int} {a2 : Int} {a3 : Int} {a4 : List Ar} {a5 : List Af} {r : Bool} (h : Hn a0 a1 a2 a3 a4 a5 = some r) : C3 Tryz.prog 54 [.box [Ii6 a1, Ii6 a2, Ii6 a3, .sl a4.length (a4.flatMap A0), .sl a5.length (a5.flatMap Ac)]] [.agg (EL.el a0), .one (.lp 0 0)] (fun y m' => y = .s (.one (.b r)) ∧ m' = [.box [Ii6 a1, Ii6 a2, Ii6 a3, .sl a4.length (a4.flatMap A0), .sl a5.length (a5.flatMap Ac)]]) := by
 unfold Hn at h
 refine B3 Tryz.func54 rfl (nt := 8) rfl (Nbl rfl) ?_
 intro w0 S0 X0 H0
 refine csr (Kp rfl rfl (rm 1 rfl (Al (csr (fl Ajf Ahc rfl rfl rfl rfl rfl rfl (sv rfl (Hf D1 (Fy rfl rfl D1)) ?_))))))
 obtain ⟨v1, hv1, h⟩ := Ag h
 refine Dx (x' := .s (.one (.b v1))) (M' := [.box [Ii6 a1, Ii6 a2, Ii6 a3, .sl a4.length (a4.flatMap A0), .sl a5.length (a5.flatMap Ac)], .box (EL.el a0)]) [1] rfl Arx (.func _) (Ad rfl (Ad rfl Aj)) (Up hv1) rfl rfl (by decide) rfl rfl rfl ?_
 refine rm 1 rfl (Al (Bo ?_))
 obtain rfl := SJ h
 exact ⟨Or.inr rfl, _, [0], [.one (.b v1)], [.box [Ii6 a1, Ii6 a2, Ii6 a3, .sl a4.length (a4.flatMap A0), .sl a5.length (a5.flatMap Ac)]], (Ai (B9.tmp _ _ rfl) Au), rfl, rfl, ⟨by decide, rfl⟩, rfl, rfl, ⟨rfl, rfl⟩⟩
def G5 (b1 : Unit) : Option Int :=
 some (-1)
def Cx (a0 : List Af) (a1 : Int) (a2 : Int) (a3 : Int) (a4 : List Ar) (a5 : List Af) (s2 : Int) : Option (LR (Int) (Unit) (Int)) :=
 if (decide (s2 < (a0.length : Int))) then ((idx a0 s2).bind fun u3 => (Hn u3 a1 a2 a3 a4 a5).bind fun v4 => if v4 then (some (.ret s2)) else (some (.cont (wI (s2 + 1))))) else (some (.brk ()))
def F7 (a0 : List Af) (a1 : Int) (a2 : Int) (a3 : Int) (a4 : List Ar) (a5 : List Af) : Option Int :=
 (Fc (Cx a0 a1 a2 a3 a4 a5) fuel 0).bind fun x => match x with | .inl r => some r | .inr e5 => G5 e5
theorem O6 {a0 : List Af} {a1 : Int} {a2 : Int} {a3 : Int} {a4 : List Ar} {a5 : List Af} {r : Int} (h : F7 a0 a1 a2 a3 a4 a5 = some r) : C3 Tryz.prog 106 [.box [Ii6 a1, Ii6 a2, Ii6 a3, .sl a4.length (a4.flatMap A0), .sl a5.length (a5.flatMap Ac)]] [.one (.sl a0.length (a0.flatMap Ac)), .one (.fn 54 [] [.lp 0 0])] (fun y m' => y = .s (.one (Ii6 r)) ∧ m' = [.box [Ii6 a1, Ii6 a2, Ii6 a3, .sl a4.length (a4.flatMap A0), .sl a5.length (a5.flatMap Ac)]]) := by
 unfold F7 at h
 refine B3 Tryz.func106 rfl (nt := 19) rfl (Nbl rfl) ?_
 intro w0 S0 X0 H0
 refine csr (rm 1 rfl (Al (Bp (csr (rm 1 rfl (sv rfl (An Ad5 rfl) (rm 1 rfl (Al (C4 (Unit) (fun b1 => []) (fun b1 => [.box [Ii6 a1, Ii6 a2, Ii6 a3, .sl a4.length (a4.flatMap A0), .sl a5.length (a5.flatMap Ac)]]) (fun b1 => G5 b1 = some r) (fun _ _ => Az rfl) (fun _ _ => Ak rfl) (fun _ _ => Nbl rfl) (fun b1 h => ?_) ?_)))))))))
 ·unfold G5 at h
  refine csr (rm 1 rfl (Al (Bo ?_)))
  obtain rfl := SJ h
  exact ⟨Or.inr rfl, _, [0], [.one (Ii6 (-1))], [.box [Ii6 a1, Ii6 a2, Ii6 a3, .sl a4.length (a4.flatMap A0), .sl a5.length (a5.flatMap Ac)]], (Ai (B9.tmp _ _ rfl) Au), rfl, rfl, ⟨by decide, rfl⟩, rfl, rfl, ⟨rfl, rfl⟩⟩
 ·skip
  refine Bf ?_
  obtain ⟨x2, hx2, ho2⟩ := Ag h
  refine Bs (G := Nat × (Int)) (fun g => [(0, .s (.one (.sl a0.length (a0.flatMap Ac)))), (1, .s (.one (.fn 54 [] [.lp 0 0]))), (7, .s (.one (Ii6 (a0.length : Int)))), (8, .s (.one (Ii6 g.2)))]) (fun g => [.box [Ii6 a1, Ii6 a2, Ii6 a3, .sl a4.length (a4.flatMap A0), .sl a5.length (a5.flatMap Ac)]]) (fun g => Fc (Cx a0 a1 a2 a3 a4 a5) g.1 g.2 = some x2) (fun g => g.1) (fuel, 0) hx2 ⟨rfl, rfl, rfl, rfl, trivial⟩ [] rfl (fun _ _ => Az rfl) (fun _ _ => Ak rfl) (fun _ _ => Nbl rfl) ?_
  clear hx2 h
  rintro ⟨n2, s2⟩ h
  obtain ⟨n2, y2, rfl, h, hk2⟩ := Dc h
  unfold Cx at h
  refine csr (sv rfl (Bi rfl rfl) (Al (Bp (ccI h rfl (fun h => ?_) (fun h => ?_)))))
  ·refine Be (Ab (Bp (Bf (csr (rm 2 rfl (Al (csr (rm 2 rfl (sv rfl (A3 rfl) ?_)))))))))
   obtain ⟨u3, hu3, h⟩ := Ag h
   refine sv rfl (Bw (f := Ac) Ad5 (fun _ => rfl) rfl rfl rfl rfl hu3) ?_
   refine sv rfl (Bq (ys := [.sl u3.Key.length (u3.Key.flatMap eU8), .sl u3.Val.length (u3.Val.flatMap eU8), .b u3.Del]) Aas rfl (.cp _) rfl rfl) ?_
   obtain ⟨v4, hv4, h⟩ := Ag h
   refine Dx (x' := .s (.one (.b v4))) (M' := [.box [Ii6 a1, Ii6 a2, Ii6 a3, .sl a4.length (a4.flatMap A0), .sl a5.length (a5.flatMap Ac)]]) [0] rfl Asa (.fn _ _ _ _ rfl) (Ad rfl Aj) (Qb hv4) rfl rfl (by decide) rfl rfl rfl ?_
   refine Al (ccI h rfl (fun h => ?_) (fun h => ?_))
   ·refine csr (rm 2 rfl (Al (Bo (Ao (Ah (Ah (Ao (Ah ?_))))))))
    obtain rfl := SJ h
    obtain rfl : Sum.inl _ = x2 := hk2
    replace ho2 : some _ = some _ := ho2
    obtain rfl := Option.some.inj ho2
    exact ⟨Or.inr rfl, _, [0], [.one (Ii6 s2)], [.box [Ii6 a1, Ii6 a2, Ii6 a3, .sl a4.length (a4.flatMap A0), .sl a5.length (a5.flatMap Ac)]], (Ai (B9.tmp _ _ rfl) Au), rfl, rfl, ⟨by decide, rfl⟩, rfl, rfl, ⟨rfl, rfl⟩⟩
   ·refine Be (Am (Ab (Ax (sv rfl (Bj rfl rfl) (rm 1 rfl (Al ?_))))))
    obtain rfl := SJ h
    exact ⟨(n2, (wI (s2 + 1))), _, hk2, ⟨rfl, rfl, rfl, rfl, trivial⟩, rfl, Nat.lt_succ_self _⟩
  ·refine Dp (Aq (Aq (Bd (Ab ?_))))
   obtain rfl := SJ h
   obtain rfl : _ = x2 := hk2
   exact ⟨(), _, ho2, trivial, rfl⟩
def Lh (a0 : List Af) (a1 : Int) (a2 : Int) (a3 : Int) (a4 : List Ar) (a5 : List Af) : Option Int :=
 (F7 a0 a1 a2 a3 a4 a5).bind fun v1 => some v1
theorem T7 {a0 : List Af} {a1 : Int} {a2 : Int} {a3 : Int} {a4 : List Ar} {a5 : List Af} {r : Int} (h : Lh a0 a1 a2 a3 a4 a5 = some r) : C3 Tryz.prog 84 [.box [Ii6 a1, Ii6 a2, Ii6 a3, .sl a4.length (a4.flatMap A0), .sl a5.length (a5.flatMap Ac)]] [.one (.sl a0.length (a0.flatMap Ac)), .one (.fn 54 [] [.lp 0 0])] (fun y m' => y = .s (.one (Ii6 r)) ∧ m' = [.box [Ii6 a1, Ii6 a2, Ii6 a3, .sl a4.length (a4.flatMap A0), .sl a5.length (a5.flatMap Ac)]]) := by
 unfold Lh at h
 refine B3 Tryz.func84 rfl (nt := 8) rfl (Nbl rfl) ?_
 intro w0 S0 X0 H0
 refine csr (rm 1 rfl (Al (csr (rm 1 rfl (sv rfl (A3 rfl) ?_)))))
 obtain ⟨v1, hv1, h⟩ := Ag h
 refine Dx (x' := .s (.one (Ii6 v1))) (M' := [.box [Ii6 a1, Ii6 a2, Ii6 a3, .sl a4.length (a4.flatMap A0), .sl a5.length (a5.flatMap Ac)]]) [0] rfl Ak2 (.func _) (Ad rfl (Ad rfl Aj)) (O6 hv1) rfl rfl (by decide) rfl rfl rfl ?_
 refine rm 1 rfl (Al (Bo ?_))
 obtain rfl := SJ h
 exact ⟨Or.inr rfl, _, [0], [.one (Ii6 v1)], [.box [Ii6 a1, Ii6 a2, Ii6 a3, .sl a4.length (a4.flatMap A0), .sl a5.length (a5.flatMap Ac)]], (Ai (B9.tmp _ _ rfl) Au), rfl, rfl, ⟨by decide, rfl⟩, rfl, rfl, ⟨rfl, rfl⟩⟩
def Lg (a0 : List Af) (a1 : Int) (a2 : Int) (a3 : Int) (a4 : List Ar) (a5 : List Af) : Option Bool :=
 (Lh a0 a1 a2 a3 a4 a5).bind fun v1 => some (decide (0 ≤ v1))
theorem Ua {a0 : List Af} {a1 : Int} {a2 : Int} {a3 : Int} {a4 : List Ar} {a5 : List Af} {r : Bool} (h : Lg a0 a1 a2 a3 a4 a5 = some r) : C3 Tryz.prog 50 [.box [Ii6 a1, Ii6 a2, Ii6 a3, .sl a4.length (a4.flatMap A0), .sl a5.length (a5.flatMap Ac)]] [.one (.sl a0.length (a0.flatMap Ac)), .one (.fn 54 [] [.lp 0 0])] (fun y m' => y = .s (.one (.b r)) ∧ m' = [.box [Ii6 a1, Ii6 a2, Ii6 a3, .sl a4.length (a4.flatMap A0), .sl a5.length (a5.flatMap Ac)]]) := by
 unfold Lg at h
 refine B3 Tryz.func50 rfl (nt := 9) rfl (Nbl rfl) ?_
 intro w0 S0 X0 H0
 refine csr (rm 1 rfl (Al (csr (rm 1 rfl (sv rfl (A3 rfl) ?_)))))
 obtain ⟨v1, hv1, h⟩ := Ag h
 refine Dx (x' := .s (.one (Ii6 v1))) (M' := [.box [Ii6 a1, Ii6 a2, Ii6 a3, .sl a4.length (a4.flatMap A0), .sl a5.length (a5.flatMap Ac)]]) [0] rfl Apj (.func _) (Ad rfl (Ad rfl Aj)) (T7 hv1) rfl rfl (by decide) rfl rfl rfl ?_
 refine sv rfl (G6 rfl rfl) (rm 1 rfl (Al (Bo ?_)))
 obtain rfl := SJ h
 exact ⟨Or.inr rfl, _, [0], [.one (.b (decide (0 ≤ v1)))], [.box [Ii6 a1, Ii6 a2, Ii6 a3, .sl a4.length (a4.flatMap A0), .sl a5.length (a5.flatMap Ac)]], (Ai (B9.tmp _ _ rfl) Au), rfl, rfl, ⟨by decide, rfl⟩, rfl, rfl, ⟨rfl, rfl⟩⟩
def Cu (a0 : As) (a1 : As) : Option Bool :=
 (Lg a1.Writes a0.Token a0.Snap a0.Ts a0.Reads a0.Writes).bind fun v1 => some v1
theorem Ey {a0 : As} {a1 : As} {r : Bool} (h : Cu a0 a1 = some r) : Bz Tryz.prog 29 [.agg (EL.el a0), .agg (EL.el a1)] (· = .s (.one (.b r))) := by
 unfold Cu at h
 refine A8 Tryz.func29 rfl (nt := 9) rfl (Nbl rfl) ?_
 intro w0 S0
 refine csr (Kp rfl rfl (Kp rfl rfl (rm 1 rfl (Al (csr (fl Acn Ry rfl rfl rfl rfl rfl rfl (sv rfl (Hf D1 (Fy rfl rfl D1)) ?_)))))))
 obtain ⟨v1, hv1, h⟩ := Ag h
 refine Dx (x' := .s (.one (.b v1))) (M' := [.box (EL.el a0), .box (EL.el a1)]) [0] rfl Aox (.func _) (Ad rfl (Ad rfl Aj)) (Ua hv1) rfl rfl (by decide) rfl rfl rfl ?_
 refine rm 1 rfl (Al (Bo ?_))
 obtain rfl := SJ h
 exact dnT rfl rfl rfl rfl
def F0 (a0 : As) (a1 : As) : Option Bool :=
 if (decide (a0.Token = a1.Token)) then (some false) else (if (decide (a0.Ts < a1.Ts)) then ((F3 a0 a1).bind fun v1 => if v1 then (some true) else (if (decide (a0.Ts ≤ a1.Snap)) then ((Cu a1 a0).bind fun v2 => if v2 then (some true) else (if (decide (a0.Snap < a1.Ts)) then ((Cu a0 a1).bind fun v3 => some v3) else (some false))) else (if (decide (a0.Snap < a1.Ts)) then ((Cu a0 a1).bind fun v4 => some v4) else (some false)))) else (if (decide (a0.Ts ≤ a1.Snap)) then ((Cu a1 a0).bind fun v5 => if v5 then (some true) else (if (decide (a0.Snap < a1.Ts)) then ((Cu a0 a1).bind fun v6 => some v6) else (some false))) else (if (decide (a0.Snap < a1.Ts)) then ((Cu a0 a1).bind fun v7 => some v7) else (some false))))
theorem L4 {a0 : As} {a1 : As} {r : Bool} (h : F0 a0 a1 = some r) : Bz Tryz.prog 13 [.agg (EL.el a0), .agg (EL.el a1)] (· = .s (.one (.b r))) := by
 unfold F0 at h
 refine A8 Tryz.func13 rfl (nt := 44) rfl (Nbl rfl) ?_
 intro w0 S0
 refine csr (Kp rfl rfl (Kp rfl rfl (rm 1 rfl (Al (Bp (csr (fl Ac7 ti3 rfl rfl rfl rfl rfl rfl (fl Ac7 ti3 rfl rfl rfl rfl rfl rfl (sv rfl (Bg rfl rfl) (Al (ccI h rfl (fun h => ?_) (fun h => ?_))))))))))))
 ·refine csr (rm 1 rfl (Al (Bo (Ah ?_))))
  obtain rfl := SJ h
  exact dnT rfl rfl rfl rfl
 ·refine Be (Ab (csr (fl Ra ti3 rfl rfl rfl rfl rfl rfl (fl Ra ti3 rfl rfl rfl rfl rfl rfl (sv rfl (Bi rfl rfl) (rm 1 rfl (Bc 15 rfl (fun hc => ?_) (fun hc => ?_))))))))
  ·replace h := Bt hc h
   clear hc
   refine son rfl rfl rfl (sv rfl (Ap Uc rfl (.lp _ _ _ rfl) (Nbl rfl)) (son rfl rfl rfl (sv rfl (Ap Uc rfl (.lp _ _ _ rfl) (Nbl rfl)) (son rfl rfl rfl ?_))))
   obtain ⟨v1, hv1, h⟩ := Ag h
   refine Bn rfl Atj (Ad rfl (Ad rfl Aj)) (A4 rfl) (Qu hv1) (rm 2 rfl (Bc 20 rfl (fun hc => ?_) (fun hc => ?_)))
   ·replace h := Bt hc h
    clear hc
    refine rm 6 rfl (Bh rfl rfl rfl (Bh rfl rfl rfl (Bh rfl rfl rfl (rm 9 rfl (Bh rfl rfl rfl (Bh rfl rfl rfl (Bh rfl rfl rfl (rm 3 rfl (Al (Bo ?_))))))))))
    obtain rfl := SJ h
    exact dnT rfl rfl rfl rfl
   ·replace h := Bu hc h
    clear hc
    refine son rfl rfl rfl (sv rfl (Aa Ra rfl) (son rfl rfl rfl (sv rfl (Ae ti3 rfl (.lp _ _ _ rfl) rfl) (son rfl rfl rfl (sv rfl (Aa T9 rfl) (son rfl rfl rfl (sv rfl (Ae ti3 rfl (.lp _ _ _ rfl) rfl) (son rfl rfl rfl (sv rfl (Eb rfl rfl) (rm 1 rfl (Bc 26 rfl (fun hc => ?_) (fun hc => ?_))))))))))))
    ·replace h := Bt hc h
     clear hc
     refine son rfl rfl rfl (sv rfl (Ap Uc rfl (.lp _ _ _ rfl) (Nbl rfl)) (son rfl rfl rfl (sv rfl (Ap Uc rfl (.lp _ _ _ rfl) (Nbl rfl)) (son rfl rfl rfl ?_))))
     obtain ⟨v2, hv2, h⟩ := Ag h
     refine Bn rfl Ame (Ad rfl (Ad rfl Aj)) (A4 rfl) (Ey hv2) (rm 3 rfl (Bc 32 rfl (fun hc => ?_) (fun hc => ?_)))
     ·replace h := Bt hc h
      clear hc
      refine rm 6 rfl (Bh rfl rfl rfl (Bh rfl rfl rfl (Bh rfl rfl rfl (rm 3 rfl (Al (Bo ?_))))))
      obtain rfl := SJ h
      exact dnT rfl rfl rfl rfl
     ·replace h := Bu hc h
      clear hc
      refine son rfl rfl rfl (sv rfl (Aa Ra rfl) (son rfl rfl rfl (sv rfl (Ae ti3 rfl (.lp _ _ _ rfl) rfl) (son rfl rfl rfl (sv rfl (Aa T9 rfl) (son rfl rfl rfl (sv rfl (Ae ti3 rfl (.lp _ _ _ rfl) rfl) (son rfl rfl rfl (sv rfl (B8 rfl rfl) (rm 1 rfl (Bc 38 rfl (fun hc => ?_) (fun hc => ?_))))))))))))
      ·replace h := Bt hc h
       clear hc
       refine son rfl rfl rfl (sv rfl (Ap Uc rfl (.lp _ _ _ rfl) (Nbl rfl)) (son rfl rfl rfl (sv rfl (Ap Uc rfl (.lp _ _ _ rfl) (Nbl rfl)) (son rfl rfl rfl ?_))))
       obtain ⟨v3, hv3, h⟩ := Ag h
       refine Bn rfl Ame (Ad rfl (Ad rfl Aj)) (A4 rfl) (Ey hv3) (rm 3 rfl (Al (Bo ?_)))
       obtain rfl := SJ h
       exact dnT rfl rfl rfl rfl
      ·replace h := Bu hc h
       clear hc
       refine rm 6 rfl (Al (Bo ?_))
       obtain rfl := SJ h
       exact dnT rfl rfl rfl rfl
    ·replace h := Bu hc h
     clear hc
     refine rm 6 rfl (son rfl rfl rfl (sv rfl (Aa Ra rfl) (son rfl rfl rfl (sv rfl (Ae ti3 rfl (.lp _ _ _ rfl) rfl) (son rfl rfl rfl (sv rfl (Aa T9 rfl) (son rfl rfl rfl (sv rfl (Ae ti3 rfl (.lp _ _ _ rfl) rfl) (son rfl rfl rfl (sv rfl (B8 rfl rfl) (rm 1 rfl (Bc 38 rfl (fun hc => ?_) (fun hc => ?_)))))))))))))
     ·replace h := Bt hc h
      clear hc
      refine son rfl rfl rfl (sv rfl (Ap Uc rfl (.lp _ _ _ rfl) (Nbl rfl)) (son rfl rfl rfl (sv rfl (Ap Uc rfl (.lp _ _ _ rfl) (Nbl rfl)) (son rfl rfl rfl ?_))))
      obtain ⟨v4, hv4, h⟩ := Ag h
      refine Bn rfl Ame (Ad rfl (Ad rfl Aj)) (A4 rfl) (Ey hv4) (rm 3 rfl (Al (Bo ?_)))
      obtain rfl := SJ h
      exact dnT rfl rfl rfl rfl
     ·replace h := Bu hc h
      clear hc
      refine rm 6 rfl (Al (Bo ?_))
      obtain rfl := SJ h
      exact dnT rfl rfl rfl rfl
  ·replace h := Bu hc h
   clear hc
   refine rm 5 rfl (son rfl rfl rfl (sv rfl (Aa Ra rfl) (son rfl rfl rfl (sv rfl (Ae ti3 rfl (.lp _ _ _ rfl) rfl) (son rfl rfl rfl (sv rfl (Aa T9 rfl) (son rfl rfl rfl (sv rfl (Ae ti3 rfl (.lp _ _ _ rfl) rfl) (son rfl rfl rfl (sv rfl (Eb rfl rfl) (rm 1 rfl (Bc 26 rfl (fun hc => ?_) (fun hc => ?_)))))))))))))
   ·replace h := Bt hc h
    clear hc
    refine son rfl rfl rfl (sv rfl (Ap Uc rfl (.lp _ _ _ rfl) (Nbl rfl)) (son rfl rfl rfl (sv rfl (Ap Uc rfl (.lp _ _ _ rfl) (Nbl rfl)) (son rfl rfl rfl ?_))))
    obtain ⟨v5, hv5, h⟩ := Ag h
    refine Bn rfl Ame (Ad rfl (Ad rfl Aj)) (A4 rfl) (Ey hv5) (rm 3 rfl (Bc 32 rfl (fun hc => ?_) (fun hc => ?_)))
    ·replace h := Bt hc h
     clear hc
     refine rm 6 rfl (Bh rfl rfl rfl (Bh rfl rfl rfl (Bh rfl rfl rfl (rm 3 rfl (Al (Bo ?_))))))
     obtain rfl := SJ h
     exact dnT rfl rfl rfl rfl
    ·replace h := Bu hc h
     clear hc
     refine son rfl rfl rfl (sv rfl (Aa Ra rfl) (son rfl rfl rfl (sv rfl (Ae ti3 rfl (.lp _ _ _ rfl) rfl) (son rfl rfl rfl (sv rfl (Aa T9 rfl) (son rfl rfl rfl (sv rfl (Ae ti3 rfl (.lp _ _ _ rfl) rfl) (son rfl rfl rfl (sv rfl (B8 rfl rfl) (rm 1 rfl (Bc 38 rfl (fun hc => ?_) (fun hc => ?_))))))))))))
     ·replace h := Bt hc h
      clear hc
      refine son rfl rfl rfl (sv rfl (Ap Uc rfl (.lp _ _ _ rfl) (Nbl rfl)) (son rfl rfl rfl (sv rfl (Ap Uc rfl (.lp _ _ _ rfl) (Nbl rfl)) (son rfl rfl rfl ?_))))
      obtain ⟨v6, hv6, h⟩ := Ag h
      refine Bn rfl Ame (Ad rfl (Ad rfl Aj)) (A4 rfl) (Ey hv6) (rm 3 rfl (Al (Bo ?_)))
      obtain rfl := SJ h
      exact dnT rfl rfl rfl rfl
     ·replace h := Bu hc h
      clear hc
      refine rm 6 rfl (Al (Bo ?_))
      obtain rfl := SJ h
      exact dnT rfl rfl rfl rfl
   ·replace h := Bu hc h
    clear hc
    refine rm 6 rfl (son rfl rfl rfl (sv rfl (Aa Ra rfl) (son rfl rfl rfl (sv rfl (Ae ti3 rfl (.lp _ _ _ rfl) rfl) (son rfl rfl rfl (sv rfl (Aa T9 rfl) (son rfl rfl rfl (sv rfl (Ae ti3 rfl (.lp _ _ _ rfl) rfl) (son rfl rfl rfl (sv rfl (B8 rfl rfl) (rm 1 rfl (Bc 38 rfl (fun hc => ?_) (fun hc => ?_)))))))))))))
    ·replace h := Bt hc h
     clear hc
     refine son rfl rfl rfl (sv rfl (Ap Uc rfl (.lp _ _ _ rfl) (Nbl rfl)) (son rfl rfl rfl (sv rfl (Ap Uc rfl (.lp _ _ _ rfl) (Nbl rfl)) (son rfl rfl rfl ?_))))
     obtain ⟨v7, hv7, h⟩ := Ag h
     refine Bn rfl Ame (Ad rfl (Ad rfl Aj)) (A4 rfl) (Ey hv7) (rm 3 rfl (Al (Bo ?_)))
     obtain rfl := SJ h
     exact dnT rfl rfl rfl rfl
    ·replace h := Bu hc h
     clear hc
     refine rm 6 rfl (Al (Bo ?_))
     obtain rfl := SJ h
     exact dnT rfl rfl rfl rfl
def Fe (a0 : Int) (a1 : List As) (a2 : Int) : Option Bool :=
 (idx a1 a0).bind fun u1 => (idx a1 a2).bind fun u2 => (F0 u1 u2).bind fun v3 => some v3
theorem P7 {a0 : Int} {a1 : List As} {a2 : Int} {r : Bool} (h : Fe a0 a1 a2 = some r) : C3 Tryz.prog 26 [.box [.sl a1.length (a1.flatMap A5)], .box [Ii6 a2]] [.one (Ii6 a0), .one (.lp 0 0), .one (.lp 1 0)] (fun y m' => y = .s (.one (.b r)) ∧ m' = [.box [.sl a1.length (a1.flatMap A5)], .box [Ii6 a2]]) := by
 unfold Fe at h
 refine B3 Tryz.func26 rfl (nt := 14) rfl (Nbl rfl) ?_
 intro w0 S0 X0 H0
 refine csr (rm 1 rfl (Al (Bp ?_)))
 refine Qc mixed (by kernel_rfl) ?_
 refine dv rfl (Ae Aol rfl (.lp _ _ _ rfl) rfl) (dv rfl (A3 rfl) ?_)
 obtain ⟨u1, hu1, h⟩ := Ag h
 refine dv rfl (Bw (f := A5) Al0 (fun _ => rfl) rfl rfl rfl rfl hu1) ?_
 refine dv rfl (Bq (ys := [Ii6 u1.Token, Ii6 u1.Snap, Ii6 u1.Ts, .sl u1.Reads.length (u1.Reads.flatMap A0), .sl u1.Writes.length (u1.Writes.flatMap Ac)]) Uc rfl (.cp _) rfl rfl) (dv rfl (Ae Aol rfl (.lp _ _ _ rfl) rfl) (dv rfl (Ae ti3 rfl (.lp _ _ _ rfl) rfl) ?_))
 obtain ⟨u2, hu2, h⟩ := Ag h
 refine dv rfl (Bw (f := A5) Al0 (fun _ => rfl) rfl rfl rfl rfl hu2) ?_
 refine dv rfl (Bq (ys := [Ii6 u2.Token, Ii6 u2.Snap, Ii6 u2.Ts, .sl u2.Reads.length (u2.Reads.flatMap A0), .sl u2.Writes.length (u2.Writes.flatMap Ac)]) Uc rfl (.cp _) rfl rfl) ?_
 obtain ⟨v3, hv3, h⟩ := Ag h
 refine dd rfl (C1 Apr (Ad rfl (Ad rfl Aj)) rfl (L4 hv3)) (dv rfl (E8 rfl) (Py (Ab (Bo ?_))))
 obtain rfl := SJ h
 exact ⟨Or.inr rfl, _, [0, 1], [.one (.b v3)], [.box [.sl a1.length (a1.flatMap A5)], .box [Ii6 a2]], (Ai (B9.tmp _ _ rfl) Au), rfl, rfl, ⟨by decide, rfl⟩, rfl, rfl, ⟨rfl, rfl⟩⟩
def Hr (b1 : Unit) : Option Int :=
 some (-1)
def C8 (a0 : List Int) (a1 : List As) (a2 : Int) (s2 : Int) : Option (LR (Int) (Unit) (Int)) :=
 if (decide (s2 < (a0.length : Int))) then ((idx a0 s2).bind fun u3 => (Fe u3 a1 a2).bind fun v4 => if v4 then (some (.ret s2)) else (some (.cont (wI (s2 + 1))))) else (some (.brk ()))
def Gy (a0 : List Int) (a1 : List As) (a2 : Int) : Option Int :=
 (Fc (C8 a0 a1 a2) fuel 0).bind fun x => match x with | .inl r => some r | .inr e5 => Hr e5
theorem Pp {a0 : List Int} {a1 : List As} {a2 : Int} {r : Int} (h : Gy a0 a1 a2 = some r) : C3 Tryz.prog 48 [.box [.sl a1.length (a1.flatMap A5)], .box [Ii6 a2]] [.one (.sl a0.length (a0.flatMap eI)), .one (.fn 26 [] [.lp 0 0, .lp 1 0])] (fun y m' => y = .s (.one (Ii6 r)) ∧ m' = [.box [.sl a1.length (a1.flatMap A5)], .box [Ii6 a2]]) := by
 unfold Gy at h
 refine B3 Tryz.func48 rfl (nt := 19) rfl (Nbl rfl) ?_
 intro w0 S0 X0 H0
 refine csr (rm 1 rfl (Al (Bp (csr (rm 1 rfl (sv rfl (An Abj rfl) (rm 1 rfl (Al (C4 (Unit) (fun b1 => []) (fun b1 => [.box [.sl a1.length (a1.flatMap A5)], .box [Ii6 a2]]) (fun b1 => Hr b1 = some r) (fun _ _ => Az rfl) (fun _ _ => Ak rfl) (fun _ _ => Nbl rfl) (fun b1 h => ?_) ?_)))))))))
 ·unfold Hr at h
  refine csr (rm 1 rfl (Al (Bo ?_)))
  obtain rfl := SJ h
  exact ⟨Or.inr rfl, _, [0, 1], [.one (Ii6 (-1))], [.box [.sl a1.length (a1.flatMap A5)], .box [Ii6 a2]], (Ai (B9.tmp _ _ rfl) Au), rfl, rfl, ⟨by decide, rfl⟩, rfl, rfl, ⟨rfl, rfl⟩⟩
 ·skip
  refine Bf ?_
  obtain ⟨x2, hx2, ho2⟩ := Ag h
  refine Bs (G := Nat × (Int)) (fun g => [(0, .s (.one (.sl a0.length (a0.flatMap eI)))), (1, .s (.one (.fn 26 [] [.lp 0 0, .lp 1 0]))), (7, .s (.one (Ii6 (a0.length : Int)))), (8, .s (.one (Ii6 g.2)))]) (fun g => [.box [.sl a1.length (a1.flatMap A5)], .box [Ii6 a2]]) (fun g => Fc (C8 a0 a1 a2) g.1 g.2 = some x2) (fun g => g.1) (fuel, 0) hx2 ⟨rfl, rfl, rfl, rfl, trivial⟩ [] rfl (fun _ _ => Az rfl) (fun _ _ => Ak rfl) (fun _ _ => Nbl rfl) ?_
  clear hx2 h
  rintro ⟨n2, s2⟩ h
  obtain ⟨n2, y2, rfl, h, hk2⟩ := Dc h
  unfold C8 at h
  refine csr (sv rfl (Bi rfl rfl) (Al (Bp (ccI h rfl (fun h => ?_) (fun h => ?_)))))
  ·refine Be (Ab (Bp (Bf (csr (rm 2 rfl (Al (csr (rm 2 rfl (sv rfl (A3 rfl) ?_)))))))))
   obtain ⟨u3, hu3, h⟩ := Ag h
   refine sv rfl (Bw (f := eI) Abj (fun _ => rfl) rfl rfl rfl rfl hu3) ?_
   refine sv rfl (Ae ti3 rfl (.cp _) rfl) ?_
   obtain ⟨v4, hv4, h⟩ := Ag h
   refine Dx (x' := .s (.one (.b v4))) (M' := [.box [.sl a1.length (a1.flatMap A5)], .box [Ii6 a2]]) [0, 1] rfl Ats (.fn _ _ _ _ rfl) (Ad rfl Aj) (P7 hv4) rfl rfl (by decide) rfl rfl rfl ?_
   refine Al (ccI h rfl (fun h => ?_) (fun h => ?_))
   ·refine csr (rm 2 rfl (Al (Bo (Ao (Ah (Ah (Ao (Ah ?_))))))))
    obtain rfl := SJ h
    obtain rfl : Sum.inl _ = x2 := hk2
    replace ho2 : some _ = some _ := ho2
    obtain rfl := Option.some.inj ho2
    exact ⟨Or.inr rfl, _, [0, 1], [.one (Ii6 s2)], [.box [.sl a1.length (a1.flatMap A5)], .box [Ii6 a2]], (Ai (B9.tmp _ _ rfl) Au), rfl, rfl, ⟨by decide, rfl⟩, rfl, rfl, ⟨rfl, rfl⟩⟩
   ·refine Be (Am (Ab (Ax (sv rfl (Bj rfl rfl) (rm 1 rfl (Al ?_))))))
    obtain rfl := SJ h
    exact ⟨(n2, (wI (s2 + 1))), _, hk2, ⟨rfl, rfl, rfl, rfl, trivial⟩, rfl, Nat.lt_succ_self _⟩
  ·refine Dp (Aq (Aq (Bd (Ab ?_))))
   obtain rfl := SJ h
   obtain rfl : _ = x2 := hk2
   exact ⟨(), _, ho2, trivial, rfl⟩
def Lk (a0 : List Int) (a1 : List As) (a2 : Int) : Option Int :=
 (Gy a0 a1 a2).bind fun v1 => some v1
theorem T6 {a0 : List Int} {a1 : List As} {a2 : Int} {r : Int} (h : Lk a0 a1 a2 = some r) : C3 Tryz.prog 23 [.box [.sl a1.length (a1.flatMap A5)], .box [Ii6 a2]] [.one (.sl a0.length (a0.flatMap eI)), .one (.fn 26 [] [.lp 0 0, .lp 1 0])] (fun y m' => y = .s (.one (Ii6 r)) ∧ m' = [.box [.sl a1.length (a1.flatMap A5)], .box [Ii6 a2]]) := by
 unfold Lk at h
 refine B3 Tryz.func23 rfl (nt := 8) rfl (Nbl rfl) ?_
 intro w0 S0 X0 H0
 refine csr (rm 1 rfl (Al (csr (rm 1 rfl (sv rfl (A3 rfl) ?_)))))
 obtain ⟨v1, hv1, h⟩ := Ag h
 refine Dx (x' := .s (.one (Ii6 v1))) (M' := [.box [.sl a1.length (a1.flatMap A5)], .box [Ii6 a2]]) [0, 1] rfl Aqx (.func _) (Ad rfl (Ad rfl Aj)) (Pp hv1) rfl rfl (by decide) rfl rfl rfl ?_
 refine rm 1 rfl (Al (Bo ?_))
 obtain rfl := SJ h
 exact ⟨Or.inr rfl, _, [0, 1], [.one (Ii6 v1)], [.box [.sl a1.length (a1.flatMap A5)], .box [Ii6 a2]], (Ai (B9.tmp _ _ rfl) Au), rfl, rfl, ⟨by decide, rfl⟩, rfl, rfl, ⟨rfl, rfl⟩⟩
def Kg (a0 : List Int) (a1 : List As) (a2 : Int) : Option Bool :=
 (Lk a0 a1 a2).bind fun v1 => some (decide (0 ≤ v1))
theorem Us {a0 : List Int} {a1 : List As} {a2 : Int} {r : Bool} (h : Kg a0 a1 a2 = some r) : C3 Tryz.prog 25 [.box [.sl a1.length (a1.flatMap A5)], .box [Ii6 a2]] [.one (.sl a0.length (a0.flatMap eI)), .one (.fn 26 [] [.lp 0 0, .lp 1 0])] (fun y m' => y = .s (.one (.b r)) ∧ m' = [.box [.sl a1.length (a1.flatMap A5)], .box [Ii6 a2]]) := by
 unfold Kg at h
 refine B3 Tryz.func25 rfl (nt := 9) rfl (Nbl rfl) ?_
 intro w0 S0 X0 H0
 refine csr (rm 1 rfl (Al (csr (rm 1 rfl (sv rfl (A3 rfl) ?_)))))
 obtain ⟨v1, hv1, h⟩ := Ag h
 refine Dx (x' := .s (.one (Ii6 v1))) (M' := [.box [.sl a1.length (a1.flatMap A5)], .box [Ii6 a2]]) [0, 1] rfl Arf (.func _) (Ad rfl (Ad rfl Aj)) (T6 hv1) rfl rfl (by decide) rfl rfl rfl ?_
 refine sv rfl (G6 rfl rfl) (rm 1 rfl (Al (Bo ?_)))
 obtain rfl := SJ h
 exact ⟨Or.inr rfl, _, [0, 1], [.one (.b (decide (0 ≤ v1)))], [.box [.sl a1.length (a1.flatMap A5)], .box [Ii6 a2]], (Ai (B9.tmp _ _ rfl) Au), rfl, rfl, ⟨by decide, rfl⟩, rfl, rfl, ⟨rfl, rfl⟩⟩
def Gq (a0 : Int) (a1 : List Int) (a2 : List As) : Option Bool :=
 (Kg a1 a2 a0).bind fun v1 => some (!v1)
theorem Re {a0 : Int} {a1 : List Int} {a2 : List As} {r : Bool} (h : Gq a0 a1 a2 = some r) : C3 Tryz.prog 24 [.box [.sl a1.length (a1.flatMap eI)], .box [.sl a2.length (a2.flatMap A5)]] [.one (Ii6 a0), .one (.lp 0 0), .one (.lp 1 0)] (fun y m' => y = .s (.one (.b r)) ∧ m' = [.box [.sl a1.length (a1.flatMap eI)], .box [.sl a2.length (a2.flatMap A5)]]) := by
 unfold Gq at h
 refine B3 Tryz.func24 rfl (nt := 9) rfl (Nbl rfl) ?_
 intro w0 S0 X0 H0
 refine csr (Kp rfl rfl (rm 1 rfl (Al (csr (sv rfl (Ae Aj8 rfl (.lp _ _ _ rfl) rfl) (sv rfl (Hf D1 (Fy rfl rfl (Fy rfl rfl D1))) ?_))))))
 obtain ⟨v1, hv1, h⟩ := Ag h
 refine Dx (x' := .s (.one (.b v1))) (M' := [.box [.sl a1.length (a1.flatMap eI)], .box [.sl a2.length (a2.flatMap A5)], .box [Ii6 a0]]) [1, 2] rfl Ase (.func _) (Ad rfl (Ad rfl Aj)) (Us hv1) rfl rfl (by decide) rfl rfl rfl ?_
 refine sv rfl (B1 rfl) (rm 1 rfl (Al (Bo ?_)))
 obtain rfl := SJ h
 exact ⟨Or.inr rfl, _, [0, 1], [.one (.b (!v1))], [.box [.sl a1.length (a1.flatMap eI)], .box [.sl a2.length (a2.flatMap A5)]], (Ai (B9.tmp _ _ rfl) Au), rfl, rfl, ⟨by decide, rfl⟩, rfl, rfl, ⟨rfl, rfl⟩⟩
def Im (b1 : Unit) : Option Int :=
 some (-1)
def B6 (a0 : List Int) (a1 : List Int) (a2 : List As) (s2 : Int) : Option (LR (Int) (Unit) (Int)) :=
 if (decide (s2 < (a0.length : Int))) then ((idx a0 s2).bind fun u3 => (Gq u3 a1 a2).bind fun v4 => if v4 then (some (.ret s2)) else (some (.cont (wI (s2 + 1))))) else (some (.brk ()))
def Fp (a0 : List Int) (a1 : List Int) (a2 : List As) : Option Int :=
 (Fc (B6 a0 a1 a2) fuel 0).bind fun x => match x with | .inl r => some r | .inr e5 => Im e5
theorem P6 {a0 : List Int} {a1 : List Int} {a2 : List As} {r : Int} (h : Fp a0 a1 a2 = some r) : C3 Tryz.prog 48 [.box [.sl a1.length (a1.flatMap eI)], .box [.sl a2.length (a2.flatMap A5)]] [.one (.sl a0.length (a0.flatMap eI)), .one (.fn 24 [] [.lp 0 0, .lp 1 0])] (fun y m' => y = .s (.one (Ii6 r)) ∧ m' = [.box [.sl a1.length (a1.flatMap eI)], .box [.sl a2.length (a2.flatMap A5)]]) := by
 unfold Fp at h
 refine B3 Tryz.func48 rfl (nt := 19) rfl (Nbl rfl) ?_
 intro w0 S0 X0 H0
 refine csr (rm 1 rfl (Al (Bp (csr (rm 1 rfl (sv rfl (An Abj rfl) (rm 1 rfl (Al (C4 (Unit) (fun b1 => []) (fun b1 => [.box [.sl a1.length (a1.flatMap eI)], .box [.sl a2.length (a2.flatMap A5)]]) (fun b1 => Im b1 = some r) (fun _ _ => Az rfl) (fun _ _ => Ak rfl) (fun _ _ => Nbl rfl) (fun b1 h => ?_) ?_)))))))))
 ·unfold Im at h
  refine csr (rm 1 rfl (Al (Bo ?_)))
  obtain rfl := SJ h
  exact ⟨Or.inr rfl, _, [0, 1], [.one (Ii6 (-1))], [.box [.sl a1.length (a1.flatMap eI)], .box [.sl a2.length (a2.flatMap A5)]], (Ai (B9.tmp _ _ rfl) Au), rfl, rfl, ⟨by decide, rfl⟩, rfl, rfl, ⟨rfl, rfl⟩⟩
 ·skip
  refine Bf ?_
  obtain ⟨x2, hx2, ho2⟩ := Ag h
  refine Bs (G := Nat × (Int)) (fun g => [(0, .s (.one (.sl a0.length (a0.flatMap eI)))), (1, .s (.one (.fn 24 [] [.lp 0 0, .lp 1 0]))), (7, .s (.one (Ii6 (a0.length : Int)))), (8, .s (.one (Ii6 g.2)))]) (fun g => [.box [.sl a1.length (a1.flatMap eI)], .box [.sl a2.length (a2.flatMap A5)]]) (fun g => Fc (B6 a0 a1 a2) g.1 g.2 = some x2) (fun g => g.1) (fuel, 0) hx2 ⟨rfl, rfl, rfl, rfl, trivial⟩ [] rfl (fun _ _ => Az rfl) (fun _ _ => Ak rfl) (fun _ _ => Nbl rfl) ?_
  clear hx2 h
  rintro ⟨n2, s2⟩ h
  obtain ⟨n2, y2, rfl, h, hk2⟩ := Dc h
  unfold B6 at h
  refine csr (sv rfl (Bi rfl rfl) (Al (Bp (ccI h rfl (fun h => ?_) (fun h => ?_)))))
  ·refine Be (Ab (Bp (Bf (csr (rm 2 rfl (Al (csr (rm 2 rfl (sv rfl (A3 rfl) ?_)))))))))
   obtain ⟨u3, hu3, h⟩ := Ag h
   refine sv rfl (Bw (f := eI) Abj (fun _ => rfl) rfl rfl rfl rfl hu3) ?_
   refine sv rfl (Ae ti3 rfl (.cp _) rfl) ?_
   obtain ⟨v4, hv4, h⟩ := Ag h
   refine Dx (x' := .s (.one (.b v4))) (M' := [.box [.sl a1.length (a1.flatMap eI)], .box [.sl a2.length (a2.flatMap A5)]]) [0, 1] rfl Ate (.fn _ _ _ _ rfl) (Ad rfl Aj) (Re hv4) rfl rfl (by decide) rfl rfl rfl ?_
   refine Al (ccI h rfl (fun h => ?_) (fun h => ?_))
   ·refine csr (rm 2 rfl (Al (Bo (Ao (Ah (Ah (Ao (Ah ?_))))))))
    obtain rfl := SJ h
    obtain rfl : Sum.inl _ = x2 := hk2
    replace ho2 : some _ = some _ := ho2
    obtain rfl := Option.some.inj ho2
    exact ⟨Or.inr rfl, _, [0, 1], [.one (Ii6 s2)], [.box [.sl a1.length (a1.flatMap eI)], .box [.sl a2.length (a2.flatMap A5)]], (Ai (B9.tmp _ _ rfl) Au), rfl, rfl, ⟨by decide, rfl⟩, rfl, rfl, ⟨rfl, rfl⟩⟩
   ·refine Be (Am (Ab (Ax (sv rfl (Bj rfl rfl) (rm 1 rfl (Al ?_))))))
    obtain rfl := SJ h
    exact ⟨(n2, (wI (s2 + 1))), _, hk2, ⟨rfl, rfl, rfl, rfl, trivial⟩, rfl, Nat.lt_succ_self _⟩
  ·refine Dp (Aq (Aq (Bd (Ab ?_))))
   obtain rfl := SJ h
   obtain rfl : _ = x2 := hk2
   exact ⟨(), _, ho2, trivial, rfl⟩
def Em (a0 : List Int) (a1 : List Int) (a2 : List As) : Option Int :=
 (Fp a0 a1 a2).bind fun v1 => some v1
theorem Uv {a0 : List Int} {a1 : List Int} {a2 : List As} {r : Int} (h : Em a0 a1 a2 = some r) : C3 Tryz.prog 23 [.box [.sl a1.length (a1.flatMap eI)], .box [.sl a2.length (a2.flatMap A5)]] [.one (.sl a0.length (a0.flatMap eI)), .one (.fn 24 [] [.lp 0 0, .lp 1 0])] (fun y m' => y = .s (.one (Ii6 r)) ∧ m' = [.box [.sl a1.length (a1.flatMap eI)], .box [.sl a2.length (a2.flatMap A5)]]) := by
 unfold Em at h
 refine B3 Tryz.func23 rfl (nt := 8) rfl (Nbl rfl) ?_
 intro w0 S0 X0 H0
 refine csr (rm 1 rfl (Al (csr (rm 1 rfl (sv rfl (A3 rfl) ?_)))))
 obtain ⟨v1, hv1, h⟩ := Ag h
 refine Dx (x' := .s (.one (Ii6 v1))) (M' := [.box [.sl a1.length (a1.flatMap eI)], .box [.sl a2.length (a2.flatMap A5)]]) [0, 1] rfl Aqx (.func _) (Ad rfl (Ad rfl Aj)) (P6 hv1) rfl rfl (by decide) rfl rfl rfl ?_
 refine rm 1 rfl (Al (Bo ?_))
 obtain rfl := SJ h
 exact ⟨Or.inr rfl, _, [0, 1], [.one (Ii6 v1)], [.box [.sl a1.length (a1.flatMap eI)], .box [.sl a2.length (a2.flatMap A5)]], (Ai (B9.tmp _ _ rfl) Au), rfl, rfl, ⟨by decide, rfl⟩, rfl, rfl, ⟨rfl, rfl⟩⟩
def I7 (a0 : Int) (b1 : Unit) : Option (List Int) :=
 if (decide (0 < (wI (a0 - (wI (0 - 0)))))) then (if 0 < (wI (a0 - (wI (0 - 0)))) ∧ (wI (a0 - (wI (0 - 0)))) * ((8 : Nat) : Int) ≤ 281474976710656 then (if (0 : Int) ≤ 0 ∧ 0 ≤ ((List.replicate (wI (a0 - (wI (0 - 0)))).toNat (0 : Int)).length : Int) then (some ((List.replicate (wI (a0 - (wI (0 - 0)))).toNat (0 : Int)).take (0 : Int).toNat)) else none) else none) else (some ([] : List Int))
def Jm (a0 : Int) : Option (List Int) :=
 if (decide (a0 < 0)) then none else (I7 a0 ())
theorem Tw {a0 : Int} {r : (List Int)} (h : Jm a0 = some r) : C3 Tryz.prog 83 [] [.one (Znl), .one (Ii6 a0)] (fun y m' => y = .s (.one (.ls 0 r.length)) ∧ m' = [.arr 3 1 0 (r.flatMap eI)]) := by
 unfold Jm at h
 refine B3 Tryz.func83 rfl (nt := 27) rfl (Nbl rfl) ?_
 intro w0 S0 X0 H0
 refine csr (rm 1 rfl (Al (Bp (csr (rm 1 rfl (sv rfl (Bi rfl rfl) (Al (C4 (Unit) (fun b1 => [(0, .s (.one (Znl))), (1, .s (.one (Ii6 a0)))]) (fun b1 => []) (fun b1 => I7 a0 b1 = some r) (fun _ _ => Az rfl) (fun _ _ => Ak rfl) (fun _ _ => Nbl rfl) (fun b1 h => ?_) ?_))))))))
 ·unfold I7 at h
  refine Bp (csr (rm 2 rfl (sv rfl (Qg Abj rfl) (rm 1 rfl (sv rfl (Qe Abj rfl) (sv rfl (Qi rfl rfl) (sv rfl (Qi rfl rfl) (rm 1 rfl (Al (csr (rm 1 rfl (sv rfl (B8 rfl rfl) (Al (ccI h rfl (fun h => ?_) (fun h => ?_)))))))))))))))
  ·refine Ax (rm 2 rfl (sv rfl (Qg Abj rfl) (sv rfl (Tp Abj rfl rfl) (sv rfl (A3 rfl) ?_))))
   obtain ⟨hm2, h⟩ := Cl h
   refine Anw (f := eI) (z := (0 : Int)) rfl Tryz.underlying80 ei3 Tryz.underlying3 (fun _ => rfl) rfl rfl rfl hm2 (by decide) ?_
   refine rm 1 rfl (sv rfl (Qe Abj rfl) ?_)
   obtain ⟨hs3, h⟩ := Cl h
   refine Ajn (f := eI) rfl Abj (fun _ => rfl) rfl rfl rfl rfl rfl hs3 ?_
   refine rm 1 rfl (Al (csr (rm 2 rfl (Al (Bo ?_)))))
   obtain rfl := SJ h
   exact ⟨Or.inr rfl, _, [1], [.one (.ls 0 ((List.replicate (wI (a0 - (wI (0 - 0)))).toNat (0 : Int)).take (0 : Int).toNat).length)], [.arr 3 1 0 (((List.replicate (wI (a0 - (wI (0 - 0)))).toNat (0 : Int)).take (0 : Int).toNat).flatMap eI)], (Ai (B9.tmp _ _ rfl) Au), rfl, rfl, ⟨by decide, rfl⟩, rfl, rfl, ⟨rfl, rfl⟩⟩
  ·refine Be (Ab (csr (rm 2 rfl (Al ?_))))
   refine H6 3 1 4 (by decide) rfl ?_
   refine Bo ?_
   obtain rfl := SJ h
   exact ⟨Or.inr rfl, _, [0], [.one (.ls 0 ([] : List Int).length)], [.arr 3 1 0 (([] : List Int).flatMap eI)], (Ai (B9.tmp _ _ rfl) Au), rfl, rfl, ⟨by decide, rfl⟩, rfl, rfl, ⟨rfl, rfl⟩⟩
 ·skip
  refine ccI h rfl (fun h => ?_) (fun h => ?_)
  ·cases h
  ·refine Be (Ab ?_)
   exact ⟨(), _, h, ⟨rfl, rfl, trivial⟩, rfl⟩
def K2 (b3 : (List Int)) : Option (List Int) :=
 some b3
def E0 (a0 : List (List Int)) (s4 : Int × (List Int)) : Option (LB (Int × (List Int)) ((List Int))) :=
 if (decide (s4.1 < (a0.length : Int))) then ((idx a0 s4.1).bind fun u5 => if (s4.2.length + u5.length) * 8 ≤ 140737488355328 then (some (.cont ((wI (s4.1 + 1)), (s4.2 ++ u5)))) else none) else (some (.brk s4.2))
def Hz (a0 : List (List Int)) (b1 : Int) : Option (List Int) :=
 (Jm b1).bind fun v2 => (Cw (E0 a0) fuel (0, v2)).bind fun e7 => K2 e7
def E1 (a0 : List (List Int)) (s8 : Int × Int) : Option (LB (Int × Int) (Int)) :=
 if (decide (s8.2 < (a0.length : Int))) then ((idx a0 s8.2).bind fun u9 => if (decide ((wI (s8.1 + (u9.length : Int))) < 0)) then none else (some (.cont ((wI (s8.1 + (u9.length : Int))), (wI (s8.2 + 1)))))) else (some (.brk s8.1))
def H7 (a0 : List (List Int)) : Option (List Int) :=
 (Cw (E1 a0) fuel (0, 0)).bind fun e10 => Hz a0 e10
theorem Sp {a0 : List (List Int)} {r : (List Int)} (h : H7 a0 = some r) : Bz Tryz.prog 49 [.one (.sl a0.length (a0.flatMap (eL eI)))] (· = .s (.one (.sl r.length (r.flatMap eI)))) := by
 unfold H7 at h
 refine A8 Tryz.func49 rfl (nt := 36) rfl (Nbl rfl) ?_
 intro w0 S0
 refine csr (rm 1 rfl (Al (csr (rm 1 rfl (Al (Bp (csr (rm 1 rfl (sv rfl (An Ah9 rfl) (rm 1 rfl (Al (C4 (Int) (fun b1 => [(0, .s (.one (.sl a0.length (a0.flatMap (eL eI))))), (3, .s (.one (Ii6 b1)))]) (fun b1 => []) (fun b1 => Hz a0 b1 = some r) (fun _ _ => Az rfl) (fun _ _ => Ak rfl) (fun _ _ => Nbl rfl) (fun b1 h => ?_) ?_))))))))))))
 ·unfold Hz at h
  refine csr (sv rfl (A3 rfl) ?_)
  obtain ⟨v2, hv2, h⟩ := Ag h
  refine Dx (x' := .s (.one (.ls 0 v2.length))) (M' := [.arr 3 1 0 (v2.flatMap eI)]) [] rfl Asd (.func _) (Ad rfl (Ad rfl Aj)) (Tw hv2) rfl rfl (by decide) rfl rfl rfl ?_
  refine rm 1 rfl (Al (Bp (csr (rm 1 rfl (sv rfl (An Ah9 rfl) (rm 1 rfl (Al (C4 ((List Int)) (fun b3 => [(6, .s (.one (.ls 0 b3.length)))]) (fun b3 => [.arr 3 1 0 (b3.flatMap eI)]) (fun b3 => K2 b3 = some r) (fun _ _ => Az rfl) (fun _ _ => Ak rfl) (fun _ _ => Nbl rfl) (fun b3 h => ?_) ?_))))))))
  ·unfold K2 at h
   refine csr (rm 2 rfl (Al (Bo ?_)))
   obtain rfl := SJ h
   refine ⟨Or.inr rfl, _, _, _, (Ai (B9.tmp _ _ rfl) Au), (by (repeat' first | exact Ga.nil _ | apply Ga.cons | apply F5.one | apply F5.agg | exact Ci.nil | exact Ci.ls _ _ _ _ _ _ rfl (Ay (f := eI) (fun _ => rfl) _).symm | exact Ci.id _ rfl | exact Cg.nil _ | apply Cg.cons)), ?_⟩
   rfl
  ·skip
   refine Bf ?_
   obtain ⟨x4, hx4, ho4⟩ := Ag h
   refine Bs (G := Nat × (Int × (List Int))) (fun g => [(6, .s (.one (.ls 0 g.2.2.length))), (25, .s (.one (.sl a0.length (a0.flatMap (eL eI))))), (26, .s (.one (Ii6 (a0.length : Int)))), (27, .s (.one (Ii6 g.2.1)))]) (fun g => [.arr 3 1 0 (g.2.2.flatMap eI)]) (fun g => Cw (E0 a0) g.1 g.2 = some x4) (fun g => g.1) (fuel, (0, v2)) hx4 ⟨rfl, rfl, rfl, rfl, trivial⟩ [] rfl (fun _ _ => Az rfl) (fun _ _ => Ak rfl) (fun _ _ => Nbl rfl) ?_
   clear hx4 h
   rintro ⟨n4, s4⟩ h
   obtain ⟨n4, y4, rfl, h, hk4⟩ := Dw h
   unfold E0 at h
   refine csr (sv rfl (Bi rfl rfl) (Al (Bp (ccI h rfl (fun h => ?_) (fun h => ?_)))))
   ·refine Be (Ab (Bp (Bf (Bp (Ax ?_)))))
    obtain ⟨u5, hu5, h⟩ := Ag h
    refine sv rfl (Bw (f := (eL eI)) Ah9 (fun _ => rfl) rfl rfl rfl rfl hu5) ?_
    refine sv rfl (Ae Aj8 rfl (.cp _) rfl) (rm 1 rfl (Al (Ax (rm 1 rfl (sv rfl (A3 rfl) ?_)))))
    obtain ⟨hb6, h⟩ := Cl h
    refine Wx (f := eI) (xs := s4.2) (us := u5) rfl Tryz.underlying80 ei3 Arp (fun _ => rfl) rfl rfl (.one _ _ _ _ (.id _ rfl)) rfl rfl rfl (.sl _ _ _ (Ay (f := eI) (fun _ => rfl) _)) rfl rfl hb6 (by decide) ?_
    refine rm 1 rfl (Hy (Am (Ab (Ax (sv rfl (Bj rfl rfl) (rm 1 rfl (Al ?_)))))))
    obtain rfl := SJ h
    exact ⟨(n4, ((wI (s4.1 + 1)), (s4.2 ++ u5))), _, hk4, ⟨rfl, rfl, rfl, rfl, trivial⟩, rfl, Nat.lt_succ_self _⟩
   ·refine Dp (Aq (Aq (Bd (Ab ?_))))
    obtain rfl := SJ h
    obtain rfl : _ = x4 := hk4
    exact ⟨s4.2, _, ho4, ⟨rfl, trivial⟩, rfl⟩
 ·skip
  refine Bf ?_
  obtain ⟨x8, hx8, ho8⟩ := Ag h
  refine Bs (G := Nat × (Int × Int)) (fun g => [(0, .s (.one (.sl a0.length (a0.flatMap (eL eI))))), (3, .s (.one (Ii6 g.2.1))), (9, .s (.one (.sl a0.length (a0.flatMap (eL eI))))), (10, .s (.one (Ii6 (a0.length : Int)))), (11, .s (.one (Ii6 g.2.2)))]) (fun g => []) (fun g => Cw (E1 a0) g.1 g.2 = some x8) (fun g => g.1) (fuel, (0, 0)) hx8 ⟨rfl, rfl, rfl, rfl, rfl, trivial⟩ [] rfl (fun _ _ => Az rfl) (fun _ _ => Ak rfl) (fun _ _ => Nbl rfl) ?_
  clear hx8 h
  rintro ⟨n8, s8⟩ h
  obtain ⟨n8, y8, rfl, h, hk8⟩ := Dw h
  unfold E1 at h
  refine csr (sv rfl (Bi rfl rfl) (Al (Bp (ccI h rfl (fun h => ?_) (fun h => ?_)))))
  ·refine Be (Ab (Bp (Bf (Bp (Ax ?_)))))
   obtain ⟨u9, hu9, h⟩ := Ag h
   refine sv rfl (Bw (f := (eL eI)) Ah9 (fun _ => rfl) rfl rfl rfl rfl hu9) ?_
   refine sv rfl (Ae Aj8 rfl (.cp _) rfl) (rm 1 rfl (Al (csr (rm 2 rfl (sv rfl (An Abj rfl) (sv rfl (Bj rfl rfl) (rm 1 rfl (Al (csr (rm 1 rfl (sv rfl (Bi rfl rfl) (Al (ccI h rfl (fun h => ?_) (fun h => ?_))))))))))))))
   ·cases h
   ·refine Be (Am (Ab (Ax (sv rfl (Bj rfl rfl) (rm 1 rfl (Al ?_))))))
    obtain rfl := SJ h
    exact ⟨(n8, ((wI (s8.1 + (u9.length : Int))), (wI (s8.2 + 1)))), _, hk8, ⟨rfl, rfl, rfl, rfl, rfl, trivial⟩, rfl, Nat.lt_succ_self _⟩
  ·refine Dp (Aq (Aq (Bd (Ab ?_))))
   obtain rfl := SJ h
   obtain rfl : _ = x8 := hk8
   exact ⟨s8.1, _, ho8, ⟨rfl, rfl, trivial⟩, rfl⟩
def K6 (a0 : List Int) (a1 : Int) : Option (List Int) :=
 (cut a0 0 a1).bind fun c1 => (cut a0 (wI (a1 + 1)) (a0.length : Int)).bind fun c2 => (H7 ([c1, c2] : List (List Int))).bind fun v3 => some v3
theorem Vi {a0 : List Int} {a1 : Int} {r : (List Int)} (h : K6 a0 a1 = some r) : Bz Tryz.prog 27 [.one (.sl a0.length (a0.flatMap eI)), .one (Ii6 a1)] (· = .s (.one (.sl r.length (r.flatMap eI)))) := by
 unfold K6 at h
 refine A8 Tryz.func27 rfl (nt := 14) rfl (Nbl rfl) ?_
 intro w0 S0
 refine csr (rm 1 rfl (Al (Bp ?_)))
 refine Qc mixed (by kernel_rfl) ?_
 refine dv rfl (A3 rfl) (dv rfl (A3 rfl) ?_)
 obtain ⟨c1, hc1, h⟩ := Ag h
 refine dv rfl (S4 (f := eI) (lo := 0) (hi := a1) Abj (fun _ => rfl) rfl rfl rfl Pq (Mz rfl (Int.le_trans (Pg hc1).1.1 (Pg hc1).1.2.1)) hc1) ?_
 refine dv rfl (A3 rfl) (dv rfl (A3 rfl) (dv rfl (Bj rfl rfl) ?_))
 obtain ⟨c2, hc2, h⟩ := Ag h
 refine dv rfl (S4 (f := eI) (lo := (wI (a1 + 1))) (hi := (a0.length : Int)) Abj (fun _ => rfl) rfl rfl rfl (Mz rfl (Pg hc2).1.1) (by exact rfl) hc2) ?_
 refine dd rfl (Acd (out := ([c1, c2] : List (List Int)).flatMap (eL eI)) Tryz.underlying149 As3 (A1 rfl (A1 rfl Ba)) (.cons _ _ _ _ _ _ _ rfl rfl (Nbl rfl) (.cons _ _ _ _ _ _ _ rfl rfl (Nbl rfl) (.nil _))) rfl (by decide)) ?_
 obtain ⟨v3, hv3, h⟩ := Ag h
 refine dd rfl (C1 Aso (Ad rfl Aj) rfl (Sp hv3)) (dv rfl (E8 rfl) (Py (Ab (Bo ?_))))
 obtain rfl := SJ h
 exact dnT rfl rfl rfl rfl
def Ls (b3 : (List Int) × (List Int) × (List Int)) : Option ((List Int) × Bool) :=
 some (b3.2.2, true)
def Gs (a0 : List As) (s4 : (List Int) × (List Int) × (List Int)) : Option (LR ((List Int) × (List Int) × (List Int)) ((List Int) × (List Int) × (List Int)) ((List Int) × Bool)) :=
 if (decide (0 < (s4.1.length : Int))) then ((Em s4.1 s4.1 a0).bind fun v5 => if (decide (v5 < 0)) then (some (.ret (s4.2.2, false))) else ((idx s4.1 v5).bind fun u6 => if (s4.2.2.length + [u6].length) * 8 ≤ 140737488355328 then ((K6 s4.1 v5).bind fun v8 => some (.cont (v8, s4.2.1, (s4.2.2 ++ [u6])))) else none)) else (some (.brk (s4.1, s4.2.1, s4.2.2)))
def I5 (a0 : List As) (b2 : (List Int)) : Option ((List Int) × Bool) :=
 (Fc (Gs a0) fuel (b2, b2, ([] : List Int))).bind fun x => match x with | .inl r => some r | .inr e9 => Ls e9
def Ez (a0 : List As) (s10 : Int × (List Int)) : Option (LB (Int × (List Int)) ((List Int))) :=
 if (decide (s10.1 < (a0.length : Int))) then (if (s10.2.length + [s10.1].length) * 8 ≤ 140737488355328 then (some (.cont ((wI (s10.1 + 1)), (s10.2 ++ [s10.1])))) else none) else (some (.brk s10.2))
def D7 (a0 : List As) : Option ((List Int) × Bool) :=
 (Ib a0).bind fun v1 => if (!v1) then (some (([] : List Int), false)) else ((Cw (Ez a0) fuel (0, ([] : List Int))).bind fun e12 => I5 a0 e12)
theorem Mb {a0 : List As} {r : (List Int) × Bool} (h : D7 a0 = some r) : Bz Tryz.prog 12 [.one (.sl a0.length (a0.flatMap A5))] (· = .tup [.one (.sl r.1.length (r.1.flatMap eI)), .one (.b r.2)]) := by
 unfold D7 at h
 refine A8 Tryz.func12 rfl (nt := 41) rfl (Nbl rfl) ?_
 intro w0 S0
 refine csr (Kp rfl rfl (rm 2 rfl (Al (Bp (csr (sv rfl (Ae Aol rfl (.lp _ _ _ rfl) rfl) ?_))))))
 obtain ⟨v1, hv1, h⟩ := Ag h
 refine Bn rfl Ar3 (Ad rfl Aj) (A4 rfl) (Uf hv1) (sv rfl (B1 rfl) (Al (ccI h rfl (fun h => ?_) (fun h => ?_))))
 ·refine csr (rm 2 rfl (Al (Bo (Ah ?_))))
  obtain rfl := SJ h
  refine ⟨Or.inr rfl, _, _, _, (Ai (B9.tmp _ _ rfl) (Ai (B9.tmp _ _ rfl) Au)), (Sj rfl), ?_⟩
  rfl
 ·refine Be (Ab (csr (Ce rfl Ar0 (Al (Bp (csr (sv rfl (Ae Aol rfl (.lp _ _ _ rfl) rfl) (sv rfl (An Al0 rfl) (rm 1 rfl (Al ?_))))))))))
  refine Q1 3 1 1 0 (by decide) rfl rfl ?_
  refine C4 ((List Int)) (fun b2 => [(1, .s (.one (.lp 0 0))), (4, .s (.one (.lp 1 0)))]) (fun b2 => [.box [.sl a0.length (a0.flatMap A5)], .box [.ls 2 b2.length], .arr 3 1 0 (b2.flatMap eI)]) (fun b2 => I5 a0 b2 = some r) (fun _ _ => Az rfl) (fun _ _ => Ak rfl) (fun _ _ => Nbl rfl) (fun b2 h => ?_) ?_
  ·unfold I5 at h
   refine csr (rm 1 rfl (Al (Bp ?_)))
   refine H6 3 1 6 (by decide) rfl ?_
   refine C4 ((List Int) × (List Int) × (List Int)) (fun b3 => [(6, .s (.one (.ls 3 b3.2.2.length)))]) (fun b3 => [.box [.sl a0.length (a0.flatMap A5)], .box [.sl b3.1.length (b3.1.flatMap eI)], .arr 3 1 (b3.2.1.flatMap eI).length (b3.2.1.flatMap eI), .arr 3 1 0 (b3.2.2.flatMap eI)]) (fun b3 => Ls b3 = some r) (fun _ _ => Az rfl) (fun _ _ => Ak rfl) (fun _ _ => Nbl rfl) (fun b3 h => ?_) ?_
   ·unfold Ls at h
    refine csr (rm 3 rfl (Al (Bo ?_)))
    obtain rfl := SJ h
    refine ⟨Or.inr rfl, _, _, _, (Ai (B9.tmp _ _ rfl) (Ai (B9.tmp _ _ rfl) Au)), (by (repeat' first | exact Ga.nil _ | apply Ga.cons | apply F5.one | apply F5.agg | exact Ci.nil | exact Ci.ls _ _ _ _ _ _ rfl (Ay (f := eI) (fun _ => rfl) _).symm | exact Ci.id _ rfl | exact Cg.nil _ | apply Cg.cons)), ?_⟩
    rfl
   ·skip
    refine Bf (O5 1 0 rfl rfl (Ci.ls _ _ _ _ _ _ rfl (Ay (f := eI) (fun _ => rfl) (b2 : List Int)).symm) rfl ?_)
    obtain ⟨x4, hx4, ho4⟩ := Ag h
    refine Bs (G := Nat × ((List Int) × (List Int) × (List Int))) (fun g => [(1, .s (.one (.lp 0 0))), (4, .s (.one (.lp 1 0))), (6, .s (.one (.ls 3 g.2.2.2.length)))]) (fun g => [.box [.sl a0.length (a0.flatMap A5)], .box [.sl g.2.1.length (g.2.1.flatMap eI)], .arr 3 1 (g.2.2.1.flatMap eI).length (g.2.2.1.flatMap eI), .arr 3 1 0 (g.2.2.2.flatMap eI)]) (fun g => Fc (Gs a0) g.1 g.2 = some x4) (fun g => g.1) (fuel, (b2, b2, ([] : List Int))) hx4 ⟨rfl, rfl, rfl, trivial⟩ [] rfl (fun _ _ => Az rfl) (fun _ _ => Ak rfl) (fun _ _ => Nbl rfl) ?_
    clear hx4 h
    rintro ⟨n4, s4⟩ h
    obtain ⟨n4, y4, rfl, h, hk4⟩ := Dc h
    unfold Gs at h
    refine Bp (csr (sv rfl (Ae Aj8 rfl (.lp _ _ _ rfl) rfl) (sv rfl (An Abj rfl) (sv rfl (B8 rfl rfl) (Al (ccI h rfl (fun h => ?_) (fun h => ?_)))))))
    ·refine Be (Ab (Bf (csr (sv rfl (Ae Aj8 rfl (.lp _ _ _ rfl) rfl) (sv rfl (Hf D1 (Fy rfl rfl (Fy rfl rfl D1))) ?_)))))
     obtain ⟨v5, hv5, h⟩ := Ag h
     refine Dx (x' := .s (.one (Ii6 v5))) (M' := [.box [.sl a0.length (a0.flatMap A5)], .box [.sl s4.1.length (s4.1.flatMap eI)], .arr 3 1 (s4.2.1.flatMap eI).length (s4.2.1.flatMap eI), .arr 3 1 0 (s4.2.2.flatMap eI)]) [1, 0] rfl Arf (.func _) (Ad rfl (Ad rfl Aj)) (Uv hv5) rfl rfl (by decide) rfl rfl rfl ?_
     refine rm 1 rfl (Al (Bp (csr (rm 1 rfl (sv rfl (Bi rfl rfl) (Al (ccI h rfl (fun h => ?_) (fun h => ?_))))))))
     ·refine csr (rm 3 rfl (Al (Bo (Ah (Ao (Ah (Ao (Ah ?_))))))))
      obtain rfl := SJ h
      obtain rfl : Sum.inl _ = x4 := hk4
      replace ho4 : some _ = some _ := ho4
      obtain rfl := Option.some.inj ho4
      refine ⟨Or.inr rfl, _, _, _, (Ai (B9.tmp _ _ rfl) (Ai (B9.tmp _ _ rfl) Au)), (by (repeat' first | exact Ga.nil _ | apply Ga.cons | apply F5.one | apply F5.agg | exact Ci.nil | exact Ci.ls _ _ _ _ _ _ rfl (Ay (f := eI) (fun _ => rfl) _).symm | exact Ci.id _ rfl | exact Cg.nil _ | apply Cg.cons)), ?_⟩
      rfl
     ·refine Be (Ab (csr (rm 1 rfl (sv rfl (Ae Aj8 rfl (.lp _ _ _ rfl) rfl) (sv rfl (A3 rfl) ?_)))))
      obtain ⟨u6, hu6, h⟩ := Ag h
      refine sv rfl (Bw (f := eI) Abj (fun _ => rfl) rfl rfl rfl rfl hu6) ?_
      refine sv rfl (Ae ti3 rfl (.cp _) rfl) ?_
      refine Fw rfl Tryz.underlying50 ei3 rfl rfl (List.all_eq_true.1 rfl) (by decide) ?_
      refine Cc [.box [.sl a0.length (a0.flatMap A5)], .box [.sl s4.1.length (s4.1.flatMap eI)], .arr 3 1 (s4.2.1.flatMap eI).length (s4.2.1.flatMap eI), .arr 3 1 0 (s4.2.2.flatMap eI), .arr 3 1 0 ([u6].flatMap eI)] rfl ?_
      obtain ⟨hb7, h⟩ := Cl h
      refine Wx (f := eI) (xs := s4.2.2) (us := [u6]) rfl Tryz.underlying50 ei3 Aq8 (fun _ => rfl) rfl rfl (.one _ _ _ _ (.ls _ _ _ _ _ _ rfl (Ay (f := eI) (fun _ => rfl) [u6]).symm)) rfl rfl rfl (.sl _ _ _ (Ay (f := eI) (fun _ => rfl) _)) rfl rfl hb7 (by decide) ?_
      refine rm 1 rfl (Al (Ax (sv rfl (Ae Aj8 rfl (.lp _ _ _ rfl) rfl) (sv rfl (A3 rfl) ?_))))
      obtain ⟨v8, hv8, h⟩ := Ag h
      refine Bn rfl Arv (Ad rfl (Ad rfl Aj)) (A4 rfl) (Vi hv8) (A9 Ard rfl rfl rfl rfl (Nbl rfl) (Cc [.box [.sl a0.length (a0.flatMap A5)], .box [.sl v8.length (v8.flatMap eI)], .arr 3 1 (s4.2.1.flatMap eI).length (s4.2.1.flatMap eI), .arr 3 1 0 ((s4.2.2 ++ [u6]).flatMap eI), .arr 3 1 ([u6].flatMap eI).length ([u6].flatMap eI)] rfl (Hy (Am (Ab ?_)))))
      obtain rfl := SJ h
      exact ⟨(n4, (v8, s4.2.1, (s4.2.2 ++ [u6]))), _, hk4, ⟨rfl, rfl, rfl, trivial⟩, rfl, Nat.lt_succ_self _⟩
    ·refine Dp (Aq (Aq (Bd (Ab ?_))))
     obtain rfl := SJ h
     obtain rfl : _ = x4 := hk4
     exact ⟨(s4.1, s4.2.1, s4.2.2), _, ho4, ⟨rfl, trivial⟩, rfl⟩
  ·skip
   refine Bf ?_
   obtain ⟨x10, hx10, ho10⟩ := Ag h
   refine Bs (G := Nat × (Int × (List Int))) (fun g => [(1, .s (.one (.lp 0 0))), (4, .s (.one (.lp 1 0))), (12, .s (.one (Ii6 (a0.length : Int)))), (13, .s (.one (Ii6 g.2.1)))]) (fun g => [.box [.sl a0.length (a0.flatMap A5)], .box [.ls 2 g.2.2.length], .arr 3 1 0 (g.2.2.flatMap eI)]) (fun g => Cw (Ez a0) g.1 g.2 = some x10) (fun g => g.1) (fuel, (0, ([] : List Int))) hx10 ⟨rfl, rfl, rfl, rfl, trivial⟩ [] rfl (fun _ _ => Az rfl) (fun _ _ => Ak rfl) (fun _ _ => Nbl rfl) ?_
   clear hx10 h
   rintro ⟨n10, s10⟩ h
   obtain ⟨n10, y10, rfl, h, hk10⟩ := Dw h
   unfold Ez at h
   refine csr (sv rfl (Bi rfl rfl) (Al (Bp (ccI h rfl (fun h => ?_) (fun h => ?_)))))
   ·refine Be (Ab (Bp (Bf (csr (rm 2 rfl (Al (Ax (sv rfl (Ae Aj8 rfl (.lp _ _ _ rfl) rfl) (sv rfl (A3 rfl) ?_)))))))))
    refine Fw rfl Tryz.underlying80 ei3 rfl rfl (List.all_eq_true.1 rfl) (by decide) ?_
    refine Cc [.box [.sl a0.length (a0.flatMap A5)], .box [.ls 2 s10.2.length], .arr 3 1 0 (s10.2.flatMap eI), .arr 3 1 0 ([s10.1].flatMap eI)] rfl ?_
    obtain ⟨hb11, h⟩ := Cl h
    refine Wx (f := eI) (xs := s10.2) (us := [s10.1]) rfl Tryz.underlying80 ei3 Arp (fun _ => rfl) rfl rfl (.one _ _ _ _ (.ls _ _ _ _ _ _ rfl (Ay (f := eI) (fun _ => rfl) [s10.1]).symm)) rfl rfl rfl (.sl _ _ _ (Ay (f := eI) (fun _ => rfl) _)) rfl rfl hb11 (by decide) ?_
    refine A9 Ard rfl rfl rfl rfl (Nbl rfl) (Cc [.box [.sl a0.length (a0.flatMap A5)], .box [.ls 2 (s10.2 ++ [s10.1]).length], .arr 3 1 0 ((s10.2 ++ [s10.1]).flatMap eI), .arr 3 1 ([s10.1].flatMap eI).length ([s10.1].flatMap eI)] rfl (Hy (Am (Ab (Ax (sv rfl (Bj rfl rfl) (rm 1 rfl (Al ?_))))))))
    obtain rfl := SJ h
    exact ⟨(n10, ((wI (s10.1 + 1)), (s10.2 ++ [s10.1]))), _, hk10, ⟨rfl, rfl, rfl, rfl, trivial⟩, rfl, Nat.lt_succ_self _⟩
   ·refine Dp (Aq (Aq (Bd (Ab ?_))))
    obtain rfl := SJ h
    obtain rfl : _ = x10 := hk10
    exact ⟨s10.2, _, ho10, ⟨rfl, rfl, trivial⟩, rfl⟩
def Ov  : Option Bool :=
 (P2 ([120] : List UInt8)).bind fun v1 => (P2 ([121] : List UInt8)).bind fun v2 => (D7 [(As.mk 1 0 1 v1 [(Af.mk [(UInt8.ofBitVec (121#8))] ([] : List UInt8) false)]), (As.mk 2 0 2 v2 [(Af.mk [(UInt8.ofBitVec (120#8))] ([] : List UInt8) false)])]).bind fun v3 => (D7 [(As.mk 2 1 2 v2 [(Af.mk [(UInt8.ofBitVec (120#8))] ([] : List UInt8) false)]), (As.mk 1 0 1 v1 [(Af.mk [(UInt8.ofBitVec (121#8))] ([] : List UInt8) false)])]).bind fun v4 => if (!v3.2) then (if v4.2 then (if (decide ((v4.1.length : Int) = 2)) then ((idx v4.1 0).bind fun u5 => if (decide (u5 = 1)) then ((F0 (As.mk 1 0 1 v1 [(Af.mk [(UInt8.ofBitVec (121#8))] ([] : List UInt8) false)]) (As.mk 2 1 2 v2 [(Af.mk [(UInt8.ofBitVec (120#8))] ([] : List UInt8) false)])).bind fun v6 => if v6 then ((F0 (As.mk 2 1 2 v2 [(Af.mk [(UInt8.ofBitVec (120#8))] ([] : List UInt8) false)]) (As.mk 1 0 1 v1 [(Af.mk [(UInt8.ofBitVec (121#8))] ([] : List UInt8) false)])).bind fun v7 => some (!v7)) else (some false)) else (some false)) else (some false)) else (some false)) else (some false)
theorem Xk  {r : Bool} (h : Ov = some r) : Bz Tryz.prog 4 [] (· = .s (.one (.b r))) := by
 unfold Ov at h
 refine A8 Tryz.func4 rfl (nt := 61) rfl (Nbl rfl) ?_
 intro w0 S0
 refine csr (rm 1 rfl (Al (Bp (Ax ?_))))
 obtain ⟨v1, hv1, h⟩ := Ag h
 refine Bn rfl Aq1 (Ad rfl Aj) (A4 rfl) (T1 hv1) ?_
 refine Fw rfl Tryz.underlying46 ei5 rfl rfl (List.all_eq_true.1 rfl) (by decide) ?_
 refine Cc [.arr 5 1 0 ([(UInt8.ofBitVec (121#8))].flatMap eU8)] rfl ?_
 refine Adh rfl Tryz.underlying46 Tryz.underlying5 rfl rfl (Ay (f := eU8) (fun _ => rfl) [(UInt8.ofBitVec (121#8))]).symm (by decide) ?_
 refine sv rfl (Bl Ag9 Amx (A1 rfl Ba) (.cons _ _ _ _ _ _ _ rfl rfl (Nbl rfl) (.nil _))) ?_
 refine Vy 10 rfl (by (repeat' first | exact Ga.nil _ | apply Ga.cons | apply F5.one | apply F5.agg | exact Ci.nil | exact Ci.id _ rfl | exact Cg.nil _ | apply Cg.cons)) ?_
 refine Fw rfl Tryz.underlying26 Ael rfl rfl (List.all_eq_true.1 rfl) (by decide) ?_
 refine Cc [.dead, .arr 48 3 0 ([(Af.mk [(UInt8.ofBitVec (121#8))] ([] : List UInt8) false)].flatMap Ac)] rfl (sv rfl (Bl Amf Ao9 (A1 rfl (A1 rfl (A1 rfl (A1 rfl Ba)))) (.cons _ _ _ _ _ _ _ rfl rfl (Nbl rfl) (.cons _ _ _ _ _ _ _ rfl rfl (Nbl rfl) (.cons _ _ _ _ _ _ _ rfl rfl (Nbl rfl) (.cons _ _ _ _ _ _ _ rfl rfl (Nbl rfl) (.nil _)))))) (Ce rfl Amf (A9 Ao8 rfl rfl rfl rfl (Nbl rfl) (Cc [.dead, .arr 48 3 0 ([(Af.mk [(UInt8.ofBitVec (121#8))] ([] : List UInt8) false)].flatMap Ac), .box [Ii6 1, Ii6 0, Ii6 1, .sl v1.length (v1.flatMap A0), .ls 1 [(Af.mk [(UInt8.ofBitVec (121#8))] ([] : List UInt8) false)].length]] rfl (Al (Bp (Ax ?_)))))))
 obtain ⟨v2, hv2, h⟩ := Ag h
 refine Bn rfl Aq1 (Ad rfl Aj) (A4 rfl) (T1 hv2) ?_
 refine Fw rfl Tryz.underlying46 ei5 rfl rfl (List.all_eq_true.1 rfl) (by decide) ?_
 refine Cc [.dead, .arr 48 3 0 ([(Af.mk [(UInt8.ofBitVec (121#8))] ([] : List UInt8) false)].flatMap Ac), .box [Ii6 1, Ii6 0, Ii6 1, .sl v1.length (v1.flatMap A0), .ls 1 [(Af.mk [(UInt8.ofBitVec (121#8))] ([] : List UInt8) false)].length], .arr 5 1 0 ([(UInt8.ofBitVec (120#8))].flatMap eU8)] rfl ?_
 refine Adh rfl Tryz.underlying46 Tryz.underlying5 rfl rfl (Ay (f := eU8) (fun _ => rfl) [(UInt8.ofBitVec (120#8))]).symm (by decide) ?_
 refine sv rfl (Bl Ag9 Amx (A1 rfl Ba) (.cons _ _ _ _ _ _ _ rfl rfl (Nbl rfl) (.nil _))) ?_
 refine Vy 16 rfl (by (repeat' first | exact Ga.nil _ | apply Ga.cons | apply F5.one | apply F5.agg | exact Ci.nil | exact Ci.ls _ _ _ _ _ _ rfl (Ay (f := Ac) (fun _ => rfl) _).symm | exact Ci.id _ rfl | exact Cg.nil _ | apply Cg.cons)) ?_
 refine Fw rfl Tryz.underlying26 Ael rfl rfl (List.all_eq_true.1 rfl) (by decide) ?_
 refine Cc [.dead, .arr 48 3 0 ([(Af.mk [(UInt8.ofBitVec (121#8))] ([] : List UInt8) false)].flatMap Ac), .box [Ii6 1, Ii6 0, Ii6 1, .sl v1.length (v1.flatMap A0), .ls 1 [(Af.mk [(UInt8.ofBitVec (121#8))] ([] : List UInt8) false)].length], .dead, .arr 48 3 0 ([(Af.mk [(UInt8.ofBitVec (120#8))] ([] : List UInt8) false)].flatMap Ac)] rfl (sv rfl (Bl Amf Ao9 (A1 rfl (A1 rfl (A1 rfl (A1 rfl Ba)))) (.cons _ _ _ _ _ _ _ rfl rfl (Nbl rfl) (.cons _ _ _ _ _ _ _ rfl rfl (Nbl rfl) (.cons _ _ _ _ _ _ _ rfl rfl (Nbl rfl) (.cons _ _ _ _ _ _ _ rfl rfl (Nbl rfl) (.nil _)))))) (Ce rfl Amf (A9 Ao8 rfl rfl rfl rfl (Nbl rfl) (Cc [.dead, .arr 48 3 0 ([(Af.mk [(UInt8.ofBitVec (121#8))] ([] : List UInt8) false)].flatMap Ac), .box [Ii6 1, Ii6 0, Ii6 1, .sl v1.length (v1.flatMap A0), .ls 1 [(Af.mk [(UInt8.ofBitVec (121#8))] ([] : List UInt8) false)].length], .dead, .arr 48 3 0 ([(Af.mk [(UInt8.ofBitVec (120#8))] ([] : List UInt8) false)].flatMap Ac), .box [Ii6 2, Ii6 0, Ii6 2, .sl v2.length (v2.flatMap A0), .ls 4 [(Af.mk [(UInt8.ofBitVec (120#8))] ([] : List UInt8) false)].length]] rfl (Al (csr (sv rfl (Ap Uc rfl (.lp _ _ _ rfl) (Nbl rfl)) (sv rfl (Ap Uc rfl (.lp _ _ _ rfl) (Nbl rfl)) ?_))))))))
 refine Vy 20 rfl (by (repeat' first | exact Ga.nil _ | apply Ga.cons | apply F5.one | apply F5.agg | exact Ci.nil | exact Ci.ls _ _ _ _ _ _ rfl (Ay (f := Ac) (fun _ => rfl) ([(Af.mk [(UInt8.ofBitVec (121#8))] ([] : List UInt8) false)] : List Af)).symm | exact Ci.ls _ _ _ _ _ _ rfl (Ay (f := Ac) (fun _ => rfl) _).symm | exact Ci.id _ rfl | exact Cg.nil _ | apply Cg.cons)) ?_
 refine Vy 21 rfl (by (repeat' first | exact Ga.nil _ | apply Ga.cons | apply F5.one | apply F5.agg | exact Ci.nil | exact Ci.ls _ _ _ _ _ _ rfl (Ay (f := Ac) (fun _ => rfl) ([(Af.mk [(UInt8.ofBitVec (120#8))] ([] : List UInt8) false)] : List Af)).symm | exact Ci.ls _ _ _ _ _ _ rfl (Ay (f := Ac) (fun _ => rfl) _).symm | exact Ci.id _ rfl | exact Cg.nil _ | apply Cg.cons)) ?_
 refine W6 (out := ([(As.mk 1 0 1 v1 [(Af.mk [(UInt8.ofBitVec (121#8))] ([] : List UInt8) false)]), (As.mk 2 0 2 v2 [(Af.mk [(UInt8.ofBitVec (120#8))] ([] : List UInt8) false)])] : List As).flatMap A5) rfl Tryz.underlying53 Aod (A1 rfl (A1 rfl Ba)) (.cons _ _ _ _ _ _ _ rfl rfl (Nbl rfl) (.cons _ _ _ _ _ _ _ rfl rfl (Nbl rfl) (.nil _))) rfl (by decide) ?_
 refine Vy 22 rfl (by (repeat' first | exact Ga.nil _ | apply Ga.cons | apply F5.one | apply F5.agg | exact Ci.nil | exact Ci.ls _ _ _ _ _ _ rfl (Ay (f := A5) (fun _ => rfl) ([(As.mk 1 0 1 v1 [(Af.mk [(UInt8.ofBitVec (121#8))] ([] : List UInt8) false)]), (As.mk 2 0 2 v2 [(Af.mk [(UInt8.ofBitVec (120#8))] ([] : List UInt8) false)])] : List As)).symm | exact Ci.ls _ _ _ _ _ _ rfl (Ay (f := Ac) (fun _ => rfl) _).symm | exact Ci.ls _ _ _ _ _ _ rfl (Ay (f := A5) (fun _ => rfl) _).symm | exact Ci.id _ rfl | exact Cg.nil _ | apply Cg.cons)) ?_
 obtain ⟨v3, hv3, h⟩ := Ag h
 refine Bn rfl Apt (Ad rfl Aj) (A4 rfl) (Mb hv3) (sv rfl (Jx rfl) (sv rfl (Bm rfl rfl) (sv rfl (Bm rfl rfl) (rm 2 rfl (Al (csr (sv rfl (Aa T9 rfl) (A9 sz3 rfl rfl rfl rfl (Nbl rfl) (Cc [.dead, .arr 48 3 ([(Af.mk [(UInt8.ofBitVec (121#8))] ([] : List UInt8) false)].flatMap Ac).length ([(Af.mk [(UInt8.ofBitVec (121#8))] ([] : List UInt8) false)].flatMap Ac), .box [Ii6 1, Ii6 0, Ii6 1, .sl v1.length (v1.flatMap A0), .ls 1 [(Af.mk [(UInt8.ofBitVec (121#8))] ([] : List UInt8) false)].length], .dead, .arr 48 3 ([(Af.mk [(UInt8.ofBitVec (120#8))] ([] : List UInt8) false)].flatMap Ac).length ([(Af.mk [(UInt8.ofBitVec (120#8))] ([] : List UInt8) false)].flatMap Ac), .box [Ii6 2, Ii6 1, Ii6 2, .sl v2.length (v2.flatMap A0), .ls 4 [(Af.mk [(UInt8.ofBitVec (120#8))] ([] : List UInt8) false)].length], .arr 49 5 ([(As.mk 1 0 1 v1 [(Af.mk [(UInt8.ofBitVec (121#8))] ([] : List UInt8) false)]), (As.mk 2 0 2 v2 [(Af.mk [(UInt8.ofBitVec (120#8))] ([] : List UInt8) false)])].flatMap A5).length ([(As.mk 1 0 1 v1 [(Af.mk [(UInt8.ofBitVec (121#8))] ([] : List UInt8) false)]), (As.mk 2 0 2 v2 [(Af.mk [(UInt8.ofBitVec (120#8))] ([] : List UInt8) false)])].flatMap A5)] rfl (Al (csr (sv rfl (Ap Uc rfl (.lp _ _ _ rfl) (Nbl rfl)) (sv rfl (Ap Uc rfl (.lp _ _ _ rfl) (Nbl rfl)) ?_)))))))))))))
 refine Vy 28 rfl (by (repeat' first | exact Ga.nil _ | apply Ga.cons | apply F5.one | apply F5.agg | exact Ci.nil | exact Ci.ls _ _ _ _ _ _ rfl (Ay (f := Ac) (fun _ => rfl) ([(Af.mk [(UInt8.ofBitVec (120#8))] ([] : List UInt8) false)] : List Af)).symm | exact Ci.ls _ _ _ _ _ _ rfl (Ay (f := Ac) (fun _ => rfl) _).symm | exact Ci.ls _ _ _ _ _ _ rfl (Ay (f := A5) (fun _ => rfl) _).symm | exact Ci.id _ rfl | exact Cg.nil _ | apply Cg.cons)) ?_
 refine Vy 29 rfl (by (repeat' first | exact Ga.nil _ | apply Ga.cons | apply F5.one | apply F5.agg | exact Ci.nil | exact Ci.ls _ _ _ _ _ _ rfl (Ay (f := Ac) (fun _ => rfl) ([(Af.mk [(UInt8.ofBitVec (121#8))] ([] : List UInt8) false)] : List Af)).symm | exact Ci.ls _ _ _ _ _ _ rfl (Ay (f := Ac) (fun _ => rfl) _).symm | exact Ci.ls _ _ _ _ _ _ rfl (Ay (f := A5) (fun _ => rfl) _).symm | exact Ci.id _ rfl | exact Cg.nil _ | apply Cg.cons)) ?_
 refine W6 (out := ([(As.mk 2 1 2 v2 [(Af.mk [(UInt8.ofBitVec (120#8))] ([] : List UInt8) false)]), (As.mk 1 0 1 v1 [(Af.mk [(UInt8.ofBitVec (121#8))] ([] : List UInt8) false)])] : List As).flatMap A5) rfl Tryz.underlying53 Aod (A1 rfl (A1 rfl Ba)) (.cons _ _ _ _ _ _ _ rfl rfl (Nbl rfl) (.cons _ _ _ _ _ _ _ rfl rfl (Nbl rfl) (.nil _))) rfl (by decide) ?_
 refine Vy 30 rfl (by (repeat' first | exact Ga.nil _ | apply Ga.cons | apply F5.one | apply F5.agg | exact Ci.nil | exact Ci.ls _ _ _ _ _ _ rfl (Ay (f := A5) (fun _ => rfl) ([(As.mk 2 1 2 v2 [(Af.mk [(UInt8.ofBitVec (120#8))] ([] : List UInt8) false)]), (As.mk 1 0 1 v1 [(Af.mk [(UInt8.ofBitVec (121#8))] ([] : List UInt8) false)])] : List As)).symm | exact Ci.ls _ _ _ _ _ _ rfl (Ay (f := Ac) (fun _ => rfl) _).symm | exact Ci.ls _ _ _ _ _ _ rfl (Ay (f := A5) (fun _ => rfl) _).symm | exact Ci.id _ rfl | exact Cg.nil _ | apply Cg.cons)) ?_
 obtain ⟨v4, hv4, h⟩ := Ag h
 refine Bn rfl Apt (Ad rfl Aj) (A4 rfl) (Mb hv4) (sv rfl (Jx rfl) (sv rfl (Bm rfl rfl) (sv rfl (Bm rfl rfl) (rm 2 rfl (Al (csr (rm 1 rfl (sv rfl (B1 rfl) (rm 1 rfl (Bc 36 rfl (fun hc => ?_) (fun hc => ?_)))))))))))
 ·replace h := Bt hc h
  clear hc
  refine rm 3 rfl (Bc 39 rfl (fun hc => ?_) (fun hc => ?_))
  ·replace h := Bt hc h
   clear hc
   refine rm 1 rfl (son rfl rfl rfl (sv rfl (An Ajd rfl) (son rfl rfl rfl (sv rfl (Bg rfl rfl) (rm 2 rfl (Bc 44 rfl (fun hc => ?_) (fun hc => ?_)))))))
   ·replace h := Bt hc h
    clear hc
    refine rm 1 rfl (son rfl rfl rfl ?_)
    obtain ⟨u5, hu5, h⟩ := Ag h
    refine sv rfl (Bw (f := eI) Ajd (fun _ => rfl) rfl rfl rfl rfl hu5) ?_
    refine son rfl rfl rfl (sv rfl (Ae ti3 rfl (.cp _) rfl) (son rfl rfl rfl (sv rfl (Bg rfl rfl) (rm 2 rfl (Bc 50 rfl (fun hc => ?_) (fun hc => ?_))))))
    ·replace h := Bt hc h
     clear hc
     refine son rfl rfl rfl (sv rfl (Ap Uc rfl (.lp _ _ _ rfl) (Nbl rfl)) (son rfl rfl rfl (sv rfl (Ap Uc rfl (.lp _ _ _ rfl) (Nbl rfl)) (son rfl rfl rfl ?_))))
     refine Vy 51 rfl (by (repeat' first | exact Ga.nil _ | apply Ga.cons | apply F5.one | apply F5.agg | exact Ci.nil | exact Ci.ls _ _ _ _ _ _ rfl (Ay (f := Ac) (fun _ => rfl) ([(Af.mk [(UInt8.ofBitVec (121#8))] ([] : List UInt8) false)] : List Af)).symm | exact Ci.ls _ _ _ _ _ _ rfl (Ay (f := Ac) (fun _ => rfl) _).symm | exact Ci.ls _ _ _ _ _ _ rfl (Ay (f := A5) (fun _ => rfl) _).symm | exact Ci.id _ rfl | exact Cg.nil _ | apply Cg.cons)) ?_
     refine Vy 52 rfl (by (repeat' first | exact Ga.nil _ | apply Ga.cons | apply F5.one | apply F5.agg | exact Ci.nil | exact Ci.ls _ _ _ _ _ _ rfl (Ay (f := Ac) (fun _ => rfl) ([(Af.mk [(UInt8.ofBitVec (120#8))] ([] : List UInt8) false)] : List Af)).symm | exact Ci.ls _ _ _ _ _ _ rfl (Ay (f := Ac) (fun _ => rfl) _).symm | exact Ci.ls _ _ _ _ _ _ rfl (Ay (f := A5) (fun _ => rfl) _).symm | exact Ci.id _ rfl | exact Cg.nil _ | apply Cg.cons)) ?_
     obtain ⟨v6, hv6, h⟩ := Ag h
     refine Bn rfl Apr (Ad rfl (Ad rfl Aj)) (A4 rfl) (L4 hv6) (rm 2 rfl (Bc 55 rfl (fun hc => ?_) (fun hc => ?_)))
     ·replace h := Bt hc h
      clear hc
      refine son rfl rfl rfl (sv rfl (Ap Uc rfl (.lp _ _ _ rfl) (Nbl rfl)) (son rfl rfl rfl (sv rfl (Ap Uc rfl (.lp _ _ _ rfl) (Nbl rfl)) (son rfl rfl rfl ?_))))
      refine Vy 56 rfl (by (repeat' first | exact Ga.nil _ | apply Ga.cons | apply F5.one | apply F5.agg | exact Ci.nil | exact Ci.ls _ _ _ _ _ _ rfl (Ay (f := Ac) (fun _ => rfl) ([(Af.mk [(UInt8.ofBitVec (120#8))] ([] : List UInt8) false)] : List Af)).symm | exact Ci.ls _ _ _ _ _ _ rfl (Ay (f := Ac) (fun _ => rfl) _).symm | exact Ci.ls _ _ _ _ _ _ rfl (Ay (f := A5) (fun _ => rfl) _).symm | exact Ci.id _ rfl | exact Cg.nil _ | apply Cg.cons)) ?_
      refine Vy 57 rfl (by (repeat' first | exact Ga.nil _ | apply Ga.cons | apply F5.one | apply F5.agg | exact Ci.nil | exact Ci.ls _ _ _ _ _ _ rfl (Ay (f := Ac) (fun _ => rfl) ([(Af.mk [(UInt8.ofBitVec (121#8))] ([] : List UInt8) false)] : List Af)).symm | exact Ci.ls _ _ _ _ _ _ rfl (Ay (f := Ac) (fun _ => rfl) _).symm | exact Ci.ls _ _ _ _ _ _ rfl (Ay (f := A5) (fun _ => rfl) _).symm | exact Ci.id _ rfl | exact Cg.nil _ | apply Cg.cons)) ?_
      obtain ⟨v7, hv7, h⟩ := Ag h
      refine Bn rfl Apr (Ad rfl (Ad rfl Aj)) (A4 rfl) (L4 hv7) (son rfl rfl rfl (sv rfl (B1 rfl) (rm 2 rfl (Al (Bo ?_)))))
      obtain rfl := SJ h
      exact dnT rfl rfl rfl rfl
     ·replace h := Bu hc h
      clear hc
      refine rm 6 rfl (Al (Bo ?_))
      obtain rfl := SJ h
      exact dnT rfl rfl rfl rfl
    ·replace h := Bu hc h
     clear hc
     refine rm 11 rfl (Al (Bo ?_))
     obtain rfl := SJ h
     exact dnT rfl rfl rfl rfl
   ·replace h := Bu hc h
    clear hc
    refine rm 17 rfl (Al (Bo ?_))
    obtain rfl := SJ h
    exact dnT rfl rfl rfl rfl
  ·replace h := Bu hc h
   clear hc
   refine rm 22 rfl (Al (Bo ?_))
   obtain rfl := SJ h
   exact dnT rfl rfl rfl rfl
 ·replace h := Bu hc h
  clear hc
  refine rm 25 rfl (Al (Bo ?_))
  obtain rfl := SJ h
  exact dnT rfl rfl rfl rfl
def De (a0 : Ar) : Option Bool :=
 if (decide ((a0.Lo.length : Int) ≤ 100)) then (some (decide ((a0.Hi.length : Int) ≤ 100))) else (some false)
theorem Qw {a0 : Ar} {r : Bool} (h : De a0 = some r) : Bz Tryz.prog 14 [.agg (EL.el a0)] (· = .s (.one (.b r))) := by
 unfold De at h
 refine A8 Tryz.func14 rfl (nt := 13) rfl (Nbl rfl) ?_
 intro w0 S0
 refine csr (Kp rfl rfl (rm 1 rfl (Al (csr (fl Pm E6 rfl rfl rfl rfl rfl rfl (sv rfl (An Ku rfl) (sv rfl (Eb rfl rfl) (rm 1 rfl (Bc 7 rfl (fun hc => ?_) (fun hc => ?_))))))))))
 ·replace h := Bt hc h
  clear hc
  refine son rfl rfl rfl (sv rfl (Aa Ng rfl) (son rfl rfl rfl (sv rfl (Ae E6 rfl (.lp _ _ _ rfl) rfl) (son rfl rfl rfl (sv rfl (An Ku rfl) (son rfl rfl rfl (sv rfl (Eb rfl rfl) (rm 2 rfl (Al (Bo ?_))))))))))
  obtain rfl := SJ h
  exact dnT rfl rfl rfl rfl
 ·replace h := Bu hc h
  clear hc
  refine rm 6 rfl (Al (Bo ?_))
  obtain rfl := SJ h
  exact dnT rfl rfl rfl rfl
def P1 (b1 : Unit) : Option Bool :=
 some true
def Kq (a0 : Cb) (s2 : Int) : Option (LR (Int) (Unit) (Bool)) :=
 if (decide (s2 < (a0.Ops.length : Int))) then ((idx a0.Ops s2).bind fun u3 => if (decide (50 < (u3.Key.length : Int))) then (some (.ret false)) else ((idx a0.Ops s2).bind fun u4 => (De u4.Rng).bind fun v5 => if (!v5) then (some (.ret false)) else (some (.cont (wI (s2 + 1)))))) else (some (.brk ()))
def Pl (a0 : Cb) : Option Bool :=
 if (decide (40 < (a0.Ops.length : Int))) then (some false) else ((Fc (Kq a0) fuel 0).bind fun x => match x with | .inl r => some r | .inr e6 => P1 e6)
theorem Z6 {a0 : Cb} {r : Bool} (h : Pl a0 = some r) : Bz Tryz.prog 5 [.agg (EL.el a0)] (· = .s (.one (.b r))) := by
 unfold Pl at h
 refine A8 Tryz.func5 rfl (nt := 33) rfl (Nbl rfl) ?_
 intro w0 S0
 refine csr (Kp rfl rfl (rm 1 rfl (Al (Bp (csr (fl Oa Ab5 rfl rfl rfl rfl rfl rfl (sv rfl (An Abz rfl) (sv rfl (B8 rfl rfl) (Al (ccI h rfl (fun h => ?_) (fun h => ?_)))))))))))
 ·refine csr (rm 1 rfl (Al (Bo (Ah ?_))))
  obtain rfl := SJ h
  exact dnT rfl rfl rfl rfl
 ·refine Be (Ab (Bp (csr (rm 1 rfl (Al (C4 (Unit) (fun b1 => []) (fun b1 => [.box (EL.el a0)]) (fun b1 => P1 b1 = some r) (fun _ _ => Az rfl) (fun _ _ => Ak rfl) (fun _ _ => Nbl rfl) (fun b1 h => ?_) ?_))))))
  ·unfold P1 at h
   refine csr (rm 1 rfl (Al (Bo ?_)))
   obtain rfl := SJ h
   exact dnT rfl rfl rfl rfl
  ·skip
   refine Bf ?_
   obtain ⟨x2, hx2, ho2⟩ := Ag h
   refine Bs (G := Nat × (Int)) (fun g => [(1, .s (.one (.lp 0 0))), (3, .s (.one (Ii6 g.2)))]) (fun g => [.box (EL.el a0)]) (fun g => Fc (Kq a0) g.1 g.2 = some x2) (fun g => g.1) (fuel, 0) hx2 ⟨rfl, rfl, trivial⟩ [] rfl (fun _ _ => Az rfl) (fun _ _ => Ak rfl) (fun _ _ => Nbl rfl) ?_
   clear hx2 h
   rintro ⟨n2, s2⟩ h
   obtain ⟨n2, y2, rfl, h, hk2⟩ := Dc h
   unfold Kq at h
   refine Bp (csr (rm 1 rfl (fl Oa Ab5 rfl rfl rfl rfl rfl rfl (sv rfl (An Abz rfl) (sv rfl (Bi rfl rfl) (Al (ccI h rfl (fun h => ?_) (fun h => ?_))))))))
   ·refine Be (Ab (Bp (Bf (csr (fl Oa Ab5 rfl rfl rfl rfl rfl rfl (sv rfl (A3 rfl) ?_))))))
    obtain ⟨u3, hu3, h⟩ := Ag h
    refine sv rfl (Bw (f := Md) Abz (fun _ => rfl) rfl rfl rfl rfl hu3) ?_
    refine sv rfl (A6 U2 rfl) (sv rfl (Ae E6 rfl (.cp _) rfl) (sv rfl (An Ku rfl) (sv rfl (B8 rfl rfl) (rm 1 rfl (Bc 23 rfl (fun hc => ?_) (fun hc => ?_))))))
    ·replace h := Bt hc h
     clear hc
     refine rm 9 rfl (Al (Cm rfl (fun _ => ?_) (fun hx => Bool.noConfusion hx)))
     refine csr (rm 1 rfl (Al (Bo (Ao (Ah (Ah (Ao (Ah ?_))))))))
     obtain rfl := SJ h
     obtain rfl : Sum.inl _ = x2 := hk2
     replace ho2 : some _ = some _ := ho2
     obtain rfl := Option.some.inj ho2
     exact dnT rfl rfl rfl rfl
    ·replace h := Bu hc h
     clear hc
     refine son rfl rfl rfl (sv rfl (Aa Oa rfl) (son rfl rfl rfl (sv rfl (Ae Ab5 rfl (.lp _ _ _ rfl) rfl) (rm 1 rfl (son rfl rfl rfl ?_)))))
     obtain ⟨u4, hu4, h⟩ := Ag h
     refine sv rfl (Bw (f := Md) Abz (fun _ => rfl) rfl rfl rfl rfl hu4) ?_
     refine son rfl rfl rfl (sv rfl (A6 Si rfl) (son rfl rfl rfl (sv rfl (Bq (ys := [.sl u4.Rng.Lo.length (u4.Rng.Lo.flatMap eU8), .sl u4.Rng.Hi.length (u4.Rng.Hi.flatMap eU8), .b u4.Rng.Open]) Vd rfl (.cp _) rfl rfl) (son rfl rfl rfl ?_))))
     obtain ⟨v5, hv5, h⟩ := Ag h
     refine Bn rfl Aq6 (Ad rfl Aj) (A4 rfl) (Qw hv5) (son rfl rfl rfl (sv rfl (B1 rfl) (rm 1 rfl (Al (ccI h rfl (fun h => ?_) (fun h => ?_))))))
     ·refine csr (rm 1 rfl (Al (Bo (Ao (Ah (Ah (Ao (Ah ?_))))))))
      obtain rfl := SJ h
      obtain rfl : Sum.inl _ = x2 := hk2
      replace ho2 : some _ = some _ := ho2
      obtain rfl := Option.some.inj ho2
      exact dnT rfl rfl rfl rfl
     ·refine Be (Am (Ab (Ax (rm 1 rfl (sv rfl (Bj rfl rfl) (rm 1 rfl (Al ?_)))))))
      obtain rfl := SJ h
      exact ⟨(n2, (wI (s2 + 1))), _, hk2, ⟨rfl, rfl, trivial⟩, rfl, Nat.lt_succ_self _⟩
   ·refine Dp (Aq (Aq (Bd (Ab ?_))))
    obtain rfl := SJ h
    obtain rfl : _ = x2 := hk2
    exact ⟨(), _, ho2, trivial, rfl⟩
def K1 (b1 : Unit) : Option Bool :=
 some true
def E2 (a0 : List Af) (s2 : Int) : Option (LR (Int) (Unit) (Bool)) :=
 if (decide (s2 < (a0.length : Int))) then ((idx a0 s2).bind fun u3 => if (decide (50 < (u3.Key.length : Int))) then (some (.ret false)) else ((idx a0 s2).bind fun u4 => if (decide (100 < (u4.Val.length : Int))) then (some (.ret false)) else (some (.cont (wI (s2 + 1)))))) else (some (.brk ()))
def Gd (a0 : List Af) : Option Bool :=
 if (decide (140 < (a0.length : Int))) then (some false) else ((Fc (E2 a0) fuel 0).bind fun x => match x with | .inl r => some r | .inr e5 => K1 e5)
theorem Ta {a0 : List Af} {r : Bool} (h : Gd a0 = some r) : Bz Tryz.prog 15 [.one (.sl a0.length (a0.flatMap Ac))] (· = .s (.one (.b r))) := by
 unfold Gd at h
 refine A8 Tryz.func15 rfl (nt := 29) rfl (Nbl rfl) ?_
 intro w0 S0
 refine csr (rm 1 rfl (Al (Bp (csr (rm 1 rfl (sv rfl (An Qr rfl) (sv rfl (B8 rfl rfl) (Al (ccI h rfl (fun h => ?_) (fun h => ?_))))))))))
 ·refine csr (rm 1 rfl (Al (Bo (Ah ?_))))
  obtain rfl := SJ h
  exact dnT rfl rfl rfl rfl
 ·refine Be (Ab (Bp (csr (rm 1 rfl (Al (C4 (Unit) (fun b1 => []) (fun b1 => []) (fun b1 => K1 b1 = some r) (fun _ _ => Az rfl) (fun _ _ => Ak rfl) (fun _ _ => Nbl rfl) (fun b1 h => ?_) ?_))))))
  ·unfold K1 at h
   refine csr (rm 1 rfl (Al (Bo ?_)))
   obtain rfl := SJ h
   exact dnT rfl rfl rfl rfl
  ·skip
   refine Bf ?_
   obtain ⟨x2, hx2, ho2⟩ := Ag h
   refine Bs (G := Nat × (Int)) (fun g => [(0, .s (.one (.sl a0.length (a0.flatMap Ac)))), (3, .s (.one (Ii6 g.2)))]) (fun g => []) (fun g => Fc (E2 a0) g.1 g.2 = some x2) (fun g => g.1) (fuel, 0) hx2 ⟨rfl, rfl, trivial⟩ [] rfl (fun _ _ => Az rfl) (fun _ _ => Ak rfl) (fun _ _ => Nbl rfl) ?_
   clear hx2 h
   rintro ⟨n2, s2⟩ h
   obtain ⟨n2, y2, rfl, h, hk2⟩ := Dc h
   unfold E2 at h
   refine Bp (csr (rm 2 rfl (sv rfl (An Qr rfl) (sv rfl (Bi rfl rfl) (Al (ccI h rfl (fun h => ?_) (fun h => ?_)))))))
   ·refine Be (Ab (Bp (Bf (csr (rm 1 rfl (sv rfl (A3 rfl) ?_))))))
    obtain ⟨u3, hu3, h⟩ := Ag h
    refine sv rfl (Bw (f := Ac) Qr (fun _ => rfl) rfl rfl rfl rfl hu3) ?_
    refine sv rfl (A6 J3 rfl) (sv rfl (Ae E6 rfl (.cp _) rfl) (sv rfl (An Ku rfl) (sv rfl (B8 rfl rfl) (rm 1 rfl (Bc 20 rfl (fun hc => ?_) (fun hc => ?_))))))
    ·replace h := Bt hc h
     clear hc
     refine rm 8 rfl (Al (Cm rfl (fun _ => ?_) (fun hx => Bool.noConfusion hx)))
     refine csr (rm 1 rfl (Al (Bo (Ao (Ah (Ah (Ao (Ah ?_))))))))
     obtain rfl := SJ h
     obtain rfl : Sum.inl _ = x2 := hk2
     replace ho2 : some _ = some _ := ho2
     obtain rfl := Option.some.inj ho2
     exact dnT rfl rfl rfl rfl
    ·replace h := Bu hc h
     clear hc
     refine rm 2 rfl (son rfl rfl rfl ?_)
     obtain ⟨u4, hu4, h⟩ := Ag h
     refine sv rfl (Bw (f := Ac) Qr (fun _ => rfl) rfl rfl rfl rfl hu4) ?_
     refine son rfl rfl rfl (sv rfl (A6 Q3 rfl) (son rfl rfl rfl (sv rfl (Ae E6 rfl (.cp _) rfl) (son rfl rfl rfl (sv rfl (An Ku rfl) (son rfl rfl rfl (sv rfl (B8 rfl rfl) (rm 1 rfl (Al (ccI h rfl (fun h => ?_) (fun h => ?_)))))))))))
     ·refine csr (rm 1 rfl (Al (Bo (Ao (Ah (Ah (Ao (Ah ?_))))))))
      obtain rfl := SJ h
      obtain rfl : Sum.inl _ = x2 := hk2
      replace ho2 : some _ = some _ := ho2
      obtain rfl := Option.some.inj ho2
      exact dnT rfl rfl rfl rfl
     ·refine Be (Am (Ab (Ax (rm 1 rfl (sv rfl (Bj rfl rfl) (rm 1 rfl (Al ?_)))))))
      obtain rfl := SJ h
      exact ⟨(n2, (wI (s2 + 1))), _, hk2, ⟨rfl, rfl, trivial⟩, rfl, Nat.lt_succ_self _⟩
   ·refine Dp (Aq (Aq (Bd (Ab ?_))))
    obtain rfl := SJ h
    obtain rfl : _ = x2 := hk2
    exact ⟨(), _, ho2, trivial, rfl⟩
def P0 (b1 : Unit) : Option Bool :=
 some true
def Mf (s2 : Int) (b4 : Unit) : Option (LR (Int) (Unit) (Bool)) :=
 some (.cont (wI (s2 + 1)))
def Ha (a0 : List Ca) (s2 : Int) (s5 : Int) : Option (LR (Int) (Unit) (Bool)) :=
 (idx a0 s2).bind fun u6 => if (decide (s5 < (u6.Reads.length : Int))) then ((idx a0 s2).bind fun u7 => (idx u7.Reads s5).bind fun u8 => (De u8).bind fun v9 => if (!v9) then (some (.ret false)) else (some (.cont (wI (s5 + 1))))) else (some (.brk ()))
def Nq (a0 : List Ca) (s2 : Int) (b3 : Unit) : Option (LR (Int) (Unit) (Bool)) :=
 (Fc (Ha a0 s2) fuel 0).bind fun x => match x with | .inl r => some (.ret r) | .inr e10 => Mf s2 e10
def Kr (a0 : List Ca) (s2 : Int) : Option (LR (Int) (Unit) (Bool)) :=
 if (decide (s2 < (a0.length : Int))) then ((idx a0 s2).bind fun u11 => if (decide (20 < (u11.Reads.length : Int))) then (some (.ret false)) else ((idx a0 s2).bind fun u12 => (Gd u12.Writes).bind fun v13 => if (!v13) then (some (.ret false)) else ((idx a0 s2).bind fun u14 => if (decide (20 < (u14.Writes.length : Int))) then (some (.ret false)) else (Nq a0 s2 ())))) else (some (.brk ()))
def Pk (a0 : List Ca) : Option Bool :=
 if (decide (70 < (a0.length : Int))) then (some false) else ((Fc (Kr a0) fuel 0).bind fun x => match x with | .inl r => some r | .inr e15 => P0 e15)
theorem Aat {a0 : List Ca} {r : Bool} (h : Pk a0 = some r) : Bz Tryz.prog 6 [.one (.sl a0.length (a0.flatMap B4))] (· = .s (.one (.b r))) := by
 unfold Pk at h
 refine A8 Tryz.func6 rfl (nt := 59) rfl (Nbl rfl) ?_
 intro w0 S0
 refine csr (rm 1 rfl (Al (Bp (csr (rm 1 rfl (sv rfl (An Zg rfl) (sv rfl (B8 rfl rfl) (Al (ccI h rfl (fun h => ?_) (fun h => ?_))))))))))
 ·refine csr (rm 1 rfl (Al (Bo (Ah ?_))))
  obtain rfl := SJ h
  exact dnT rfl rfl rfl rfl
 ·refine Be (Ab (Bp (csr (rm 1 rfl (Al (C4 (Unit) (fun b1 => []) (fun b1 => []) (fun b1 => P0 b1 = some r) (fun _ _ => Az rfl) (fun _ _ => Ak rfl) (fun _ _ => Nbl rfl) (fun b1 h => ?_) ?_))))))
  ·unfold P0 at h
   refine csr (rm 1 rfl (Al (Bo ?_)))
   obtain rfl := SJ h
   exact dnT rfl rfl rfl rfl
  ·skip
   refine Bf ?_
   obtain ⟨x2, hx2, ho2⟩ := Ag h
   refine Bs (G := Nat × (Int)) (fun g => [(0, .s (.one (.sl a0.length (a0.flatMap B4)))), (3, .s (.one (Ii6 g.2)))]) (fun g => []) (fun g => Fc (Kr a0) g.1 g.2 = some x2) (fun g => g.1) (fuel, 0) hx2 ⟨rfl, rfl, trivial⟩ [] rfl (fun _ _ => Az rfl) (fun _ _ => Ak rfl) (fun _ _ => Nbl rfl) ?_
   clear hx2 h
   rintro ⟨n2, s2⟩ h
   obtain ⟨n2, y2, rfl, h, hk2⟩ := Dc h
   unfold Kr at h
   refine Bp (csr (rm 2 rfl (sv rfl (An Zg rfl) (sv rfl (Bi rfl rfl) (Al (ccI h rfl (fun h => ?_) (fun h => ?_)))))))
   ·refine Be (Ab (Bp (Bf (Bp (Bp (I0 (Unit) (fun b3 => [(0, .s (.one (.sl a0.length (a0.flatMap B4)))), (3, .s (.one (Ii6 s2)))]) (fun b3 => []) (fun b3 => Nq a0 s2 b3 = some y2) (fun _ _ => Az rfl) (fun _ _ => Ak rfl) (fun _ _ => Nbl rfl) (fun b3 h => ?_) ?_))))))
    ·unfold Nq at h
     refine csr (rm 1 rfl (Al (Ac1 (Unit) (fun b4 => [(0, .s (.one (.sl a0.length (a0.flatMap B4)))), (3, .s (.one (Ii6 s2)))]) (fun b4 => []) (fun b4 => Mf s2 b4 = some y2) (fun _ _ => Az rfl) (fun _ _ => Ak rfl) (fun _ _ => Nbl rfl) (fun b4 h => ?_) ?_)))
     ·unfold Mf at h
      refine Ax (rm 1 rfl (sv rfl (Bj rfl rfl) (rm 1 rfl (Al ?_))))
      obtain rfl := SJ h
      exact ⟨(n2, (wI (s2 + 1))), _, hk2, ⟨rfl, rfl, trivial⟩, rfl, Nat.lt_succ_self _⟩
     ·skip
      refine Bf ?_
      obtain ⟨x5, hx5, ho5⟩ := Ag h
      refine Bs (G := Nat × (Int)) (fun g => [(0, .s (.one (.sl a0.length (a0.flatMap B4)))), (3, .s (.one (Ii6 s2))), (4, .s (.one (Ii6 g.2)))]) (fun g => []) (fun g => Fc (Ha a0 s2) g.1 g.2 = some x5) (fun g => g.1) (fuel, 0) hx5 ⟨rfl, rfl, rfl, trivial⟩ [] rfl (fun _ _ => Az rfl) (fun _ _ => Ak rfl) (fun _ _ => Nbl rfl) ?_
      clear hx5 h
      rintro ⟨n5, s5⟩ h
      obtain ⟨n5, y5, rfl, h, hk5⟩ := Dc h
      unfold Ha at h
      refine Bp (csr (rm 2 rfl (sv rfl (A3 rfl) ?_)))
      obtain ⟨u6, hu6, h⟩ := Ag h
      refine sv rfl (Bw (f := B4) Zg (fun _ => rfl) rfl rfl rfl rfl hu6) ?_
      refine sv rfl (A6 U5 rfl) (sv rfl (Ae Ahc rfl (.cp _) rfl) (sv rfl (An Aip rfl) (sv rfl (Bi rfl rfl) (Al (ccI h rfl (fun h => ?_) (fun h => ?_))))))
      ·refine Be (Ab (Bp (Bf (csr (rm 1 rfl (sv rfl (A3 rfl) ?_))))))
       obtain ⟨u7, hu7, h⟩ := Ag h
       refine sv rfl (Bw (f := B4) Zg (fun _ => rfl) rfl rfl rfl rfl hu7) ?_
       refine sv rfl (A6 U5 rfl) (sv rfl (Ae Ahc rfl (.cp _) rfl) (sv rfl (A3 rfl) ?_))
       obtain ⟨u8, hu8, h⟩ := Ag h
       refine sv rfl (Bw (f := A0) Aip (fun _ => rfl) rfl rfl rfl rfl hu8) ?_
       refine sv rfl (Bq (ys := [.sl u8.Lo.length (u8.Lo.flatMap eU8), .sl u8.Hi.length (u8.Hi.flatMap eU8), .b u8.Open]) Vd rfl (.cp _) rfl rfl) ?_
       obtain ⟨v9, hv9, h⟩ := Ag h
       refine Bn rfl Aq6 (Ad rfl Aj) (A4 rfl) (Qw hv9) (sv rfl (B1 rfl) (Al (ccI h rfl (fun h => ?_) (fun h => ?_))))
       ·refine csr (rm 1 rfl (Al (Bo (Ao (Ah (Ah (Ao (Ao (Ah (Ah (Ao (Ah ?_))))))))))))
        obtain rfl := SJ h
        obtain rfl : Sum.inl _ = x5 := hk5
        replace ho5 : some _ = some _ := ho5
        obtain rfl := Option.some.inj ho5
        obtain rfl : Sum.inl _ = x2 := hk2
        replace ho2 : some _ = some _ := ho2
        obtain rfl := Option.some.inj ho2
        exact dnT rfl rfl rfl rfl
       ·refine Be (Am (Ab (Ax (rm 1 rfl (sv rfl (Bj rfl rfl) (rm 1 rfl (Al ?_)))))))
        obtain rfl := SJ h
        exact ⟨(n5, (wI (s5 + 1))), _, hk5, ⟨rfl, rfl, rfl, trivial⟩, rfl, Nat.lt_succ_self _⟩
      ·refine Dp (Aq (Aq (Bd (Am (Ab ?_)))))
       obtain rfl := SJ h
       obtain rfl : _ = x5 := hk5
       exact ⟨(), _, ho5, ⟨rfl, rfl, trivial⟩, rfl⟩
    ·skip
     refine Ax (rm 1 rfl (sv rfl (A3 rfl) ?_))
     obtain ⟨u11, hu11, h⟩ := Ag h
     refine sv rfl (Bw (f := B4) Zg (fun _ => rfl) rfl rfl rfl rfl hu11) ?_
     refine sv rfl (A6 U5 rfl) (sv rfl (Ae Ahc rfl (.cp _) rfl) (sv rfl (An Aip rfl) (sv rfl (B8 rfl rfl) (rm 1 rfl (Bc 21 rfl (fun hc => ?_) (fun hc => ?_))))))
     ·replace h := Bt hc h
      clear hc
      refine rm 17 rfl (Al (Cm rfl (fun _ => ?_) (fun hx => Bool.noConfusion hx)))
      refine csr (rm 1 rfl (Al (Bo (Ah (Ao (Ah (Ah (Ao (Ah ?_)))))))))
      obtain rfl := SJ h
      obtain rfl : Sum.inl _ = x2 := hk2
      replace ho2 : some _ = some _ := ho2
      obtain rfl := Option.some.inj ho2
      exact dnT rfl rfl rfl rfl
     ·replace h := Bu hc h
      clear hc
      refine rm 2 rfl (son rfl rfl rfl ?_)
      obtain ⟨u12, hu12, h⟩ := Ag h
      refine sv rfl (Bw (f := B4) Zg (fun _ => rfl) rfl rfl rfl rfl hu12) ?_
      refine son rfl rfl rfl (sv rfl (A6 Qk rfl) (son rfl rfl rfl (sv rfl (Ae Ry rfl (.cp _) rfl) (son rfl rfl rfl ?_))))
      obtain ⟨v13, hv13, h⟩ := Ag h
      refine Bn rfl Ata (Ad rfl Aj) (A4 rfl) (Ta hv13) (son rfl rfl rfl (sv rfl (B1 rfl) (rm 2 rfl (Bc 30 rfl (fun hc => ?_) (fun hc => ?_)))))
      ·replace h := Bt hc h
       clear hc
       refine rm 8 rfl (Al (Cm rfl (fun _ => ?_) (fun hx => Bool.noConfusion hx)))
       refine csr (rm 1 rfl (Al (Bo (Ah (Ao (Ah (Ah (Ao (Ah ?_)))))))))
       obtain rfl := SJ h
       obtain rfl : Sum.inl _ = x2 := hk2
       replace ho2 : some _ = some _ := ho2
       obtain rfl := Option.some.inj ho2
       exact dnT rfl rfl rfl rfl
      ·replace h := Bu hc h
       clear hc
       refine rm 2 rfl (son rfl rfl rfl ?_)
       obtain ⟨u14, hu14, h⟩ := Ag h
       refine sv rfl (Bw (f := B4) Zg (fun _ => rfl) rfl rfl rfl rfl hu14) ?_
       refine son rfl rfl rfl (sv rfl (A6 Qk rfl) (son rfl rfl rfl (sv rfl (Ae Ry rfl (.cp _) rfl) (son rfl rfl rfl (sv rfl (An Qr rfl) (son rfl rfl rfl (sv rfl (B8 rfl rfl) (rm 1 rfl (Al (ccI h rfl (fun h => ?_) (fun h => ?_)))))))))))
       ·refine csr (rm 1 rfl (Al (Bo (Ah (Ao (Ah (Ah (Ao (Ah ?_)))))))))
        obtain rfl := SJ h
        obtain rfl : Sum.inl _ = x2 := hk2
        replace ho2 : some _ = some _ := ho2
        obtain rfl := Option.some.inj ho2
        exact dnT rfl rfl rfl rfl
       ·refine Be (Ab ?_)
        exact ⟨(), _, h, ⟨rfl, rfl, trivial⟩, rfl⟩
   ·refine Dp (Aq (Aq (Bd (Ab ?_))))
    obtain rfl := SJ h
    obtain rfl : _ = x2 := hk2
    exact ⟨(), _, ho2, trivial, rfl⟩
def L9 (a0 : Cb) (b1 : (List Cz)) : Option Cn :=
 some (Cn.mk a0.RO b1)
def He (a0 : Cb) (s2 : Int × (List Cz)) : Option (LB (Int × (List Cz)) ((List Cz))) :=
 if (decide (s2.1 < (a0.Ops.length : Int))) then ((idx a0.Ops s2.1).bind fun u3 => if (s2.2.length + [(Cz.mk u3.What u3.A u3.B u3.N u3.Key u3.Rng)].length) * 112 ≤ 140737488355328 then (some (.cont ((wI (s2.1 + 1)), (s2.2 ++ [(Cz.mk u3.What u3.A u3.B u3.N u3.Key u3.Rng)])))) else none) else (some (.brk s2.2))
end Go.Proofs.YtphgpfgibpgfiaaGreat.Abs
