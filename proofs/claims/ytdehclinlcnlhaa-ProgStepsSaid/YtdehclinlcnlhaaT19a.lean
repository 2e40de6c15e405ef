/-
  t
-/
import Derived.Test.YtdehclinlcnlhaaAbsC
import Derived.Test.YtdehclinlcnlhaaProg
namespace Go.Proofs.Ytdehclinlcnlhaa.Abs
open Go.RowKit Go.Proofs
structure GApiWrite where
  Key : List UInt8
  Val : List UInt8
  Del : Bool
def eGApiWrite (x : GApiWrite) : List Lf := [.sl x.Key.length (x.Key.flatMap eU8), .sl x.Val.length (x.Val.flatMap eU8), .b x.Del]

structure GBufferBuf where
  L : List GApiWrite
def eGBufferBuf (x : GBufferBuf) : List Lf := [.sl x.L.length (x.L.flatMap eGApiWrite)]

structure GApiKV where
  Key : List UInt8
  Val : List UInt8
def eGApiKV (x : GApiKV) : List Lf := [.sl x.Key.length (x.Key.flatMap eU8), .sl x.Val.length (x.Val.flatMap eU8)]

structure GApiRange where
  Lo : List UInt8
  Hi : List UInt8
  Open : Bool
def eGApiRange (x : GApiRange) : List Lf := [.sl x.Lo.length (x.Lo.flatMap eU8), .sl x.Hi.length (x.Hi.flatMap eU8), .b x.Open]

structure GR19Op where
  What : Int
  A : Int
  B : Int
  N : Int
  Key : List UInt8
  Rng : GApiRange
def eGR19Op (x : GR19Op) : List Lf := [.i .i64 x.What, .i .i64 x.A, .i .i64 x.B, .i .i64 x.N, .sl x.Key.length (x.Key.flatMap eU8), .sl x.Rng.Lo.length (x.Rng.Lo.flatMap eU8), .sl x.Rng.Hi.length (x.Rng.Hi.flatMap eU8), .b x.Rng.Open]

structure GR19Prog where
  RO : Bool
  Ops : List GR19Op
def eGR19Prog (x : GR19Prog) : List Lf := [.b x.RO, .sl x.Ops.length (x.Ops.flatMap eGR19Op)]

structure GProgOp where
  What : Int
  A : Int
  B : Int
  N : Int
  Key : List UInt8
  Rng : GApiRange
def eGProgOp (x : GProgOp) : List Lf := [.i .i64 x.What, .i .i64 x.A, .i .i64 x.B, .i .i64 x.N, .sl x.Key.length (x.Key.flatMap eU8), .sl x.Rng.Lo.length (x.Rng.Lo.flatMap eU8), .sl x.Rng.Hi.length (x.Rng.Hi.flatMap eU8), .b x.Rng.Open]

structure GAnon33 where
  R0 : Int
  R1 : Int
  R2 : Int
  R3 : Int
  R4 : Int
  R5 : Int
  R6 : Int
  R7 : Int
def eGAnon33 (x : GAnon33) : List Lf := [.i .i64 x.R0, .i .i64 x.R1, .i .i64 x.R2, .i .i64 x.R3, .i .i64 x.R4, .i .i64 x.R5, .i .i64 x.R6, .i .i64 x.R7]

structure GProgState where
  PC : Int
  Regs : GAnon33
  Stopped : Bool
def eGProgState (x : GProgState) : List Lf := [.i .i64 x.PC, .i .i64 x.Regs.R0, .i .i64 x.Regs.R1, .i .i64 x.Regs.R2, .i .i64 x.Regs.R3, .i .i64 x.Regs.R4, .i .i64 x.Regs.R5, .i .i64 x.Regs.R6, .i .i64 x.Regs.R7, .b x.Stopped]

structure GProgProg where
  RO : Bool
  Ops : List GProgOp
def eGProgProg (x : GProgProg) : List Lf := [.b x.RO, .sl x.Ops.length (x.Ops.flatMap eGProgOp)]

structure GProgFlags where
  R0 : Bool
  R1 : Bool
  R2 : Bool
def eGProgFlags (x : GProgFlags) : List Lf := [.b x.R0, .b x.R1, .b x.R2]

structure GMsgReq where
  Kind : Int
  Seq : Int
  Token : Int
  Attempt : Int
  RO : Bool
  Key : List UInt8
  Val : List UInt8
  Rng : GApiRange
def eGMsgReq (x : GMsgReq) : List Lf := [.i .i64 x.Kind, .i .i64 x.Seq, .i .i64 x.Token, .i .i64 x.Attempt, .b x.RO, .sl x.Key.length (x.Key.flatMap eU8), .sl x.Val.length (x.Val.flatMap eU8), .sl x.Rng.Lo.length (x.Rng.Lo.flatMap eU8), .sl x.Rng.Hi.length (x.Rng.Hi.flatMap eU8), .b x.Rng.Open]

def putGAnon33 (a : GAnon33) (j : Int) (v : Int) : Option GAnon33 :=
  if j = 0 then some ⟨v, a.R1, a.R2, a.R3, a.R4, a.R5, a.R6, a.R7⟩ else if j = 1 then some ⟨a.R0, v, a.R2, a.R3, a.R4, a.R5, a.R6, a.R7⟩ else if j = 2 then some ⟨a.R0, a.R1, v, a.R3, a.R4, a.R5, a.R6, a.R7⟩ else if j = 3 then some ⟨a.R0, a.R1, a.R2, v, a.R4, a.R5, a.R6, a.R7⟩ else if j = 4 then some ⟨a.R0, a.R1, a.R2, a.R3, v, a.R5, a.R6, a.R7⟩ else if j = 5 then some ⟨a.R0, a.R1, a.R2, a.R3, a.R4, v, a.R6, a.R7⟩ else if j = 6 then some ⟨a.R0, a.R1, a.R2, a.R3, a.R4, a.R5, v, a.R7⟩ else if j = 7 then some ⟨a.R0, a.R1, a.R2, a.R3, a.R4, a.R5, a.R6, v⟩ else none

structure GProgAlone where
  base_ : List GApiKV
  buf_ : GBufferBuf
def eGProgAlone (x : GProgAlone) : List Lf := [.sl x.base_.length (x.base_.flatMap eGApiKV), .sl x.buf_.L.length (x.buf_.L.flatMap eGApiWrite)]

structure GMsgReply where
  Kind : Int
  Seq : Int
  Code : Int
  N : Int
  Found : Bool
  Val : List UInt8
  List : List GApiKV
def eGMsgReply (x : GMsgReply) : List Lf := [.i .i64 x.Kind, .i .i64 x.Seq, .i .i64 x.Code, .i .i64 x.N, .b x.Found, .sl x.Val.length (x.Val.flatMap eU8), .sl x.List.length (x.List.flatMap eGApiKV)]

structure GR19State where
  PC : Int
  Regs : GAnon33
  Stopped : Bool
def eGR19State (x : GR19State) : List Lf := [.i .i64 x.PC, .i .i64 x.Regs.R0, .i .i64 x.Regs.R1, .i .i64 x.Regs.R2, .i .i64 x.Regs.R3, .i .i64 x.Regs.R4, .i .i64 x.Regs.R5, .i .i64 x.Regs.R6, .i .i64 x.Regs.R7, .b x.Stopped]

structure GR09Buf where
  L : List GApiWrite
def eGR09Buf (x : GR09Buf) : List Lf := [.sl x.L.length (x.L.flatMap eGApiWrite)]

instance : Coe GApiWrite (List Lf) := ⟨eGApiWrite⟩
instance : Coe GBufferBuf (List Lf) := ⟨eGBufferBuf⟩
instance : Coe GApiKV (List Lf) := ⟨eGApiKV⟩
instance : Coe GApiRange (List Lf) := ⟨eGApiRange⟩
instance : Coe GR19Op (List Lf) := ⟨eGR19Op⟩
instance : Coe GR19Prog (List Lf) := ⟨eGR19Prog⟩
instance : Coe GProgOp (List Lf) := ⟨eGProgOp⟩
instance : Coe GAnon33 (List Lf) := ⟨eGAnon33⟩
instance : Coe GProgState (List Lf) := ⟨eGProgState⟩
instance : Coe GProgProg (List Lf) := ⟨eGProgProg⟩
instance : Coe GProgFlags (List Lf) := ⟨eGProgFlags⟩
instance : Coe GMsgReq (List Lf) := ⟨eGMsgReq⟩
instance : Coe GProgAlone (List Lf) := ⟨eGProgAlone⟩
instance : Coe GMsgReply (List Lf) := ⟨eGMsgReply⟩
instance : Coe GR19State (List Lf) := ⟨eGR19State⟩
instance : Coe GR09Buf (List Lf) := ⟨eGR09Buf⟩
theorem fi76_0 : FI Try.prog 76 0 0 := ⟨⟨_, _, 1, Try.underlying76, rfl, rfl, by kernel_rfl, by decide⟩⟩
theorem ti74 : TI Try.prog 74 false 1 := ⟨⟨_, Try.underlying74, rfl⟩, by kernel_rfl⟩
theorem si74 : SI Try.prog 74 88 3 := ⟨Try.underlying74, by kernel_rfl, by decide⟩
theorem ti88 : TI Try.prog 88 true 3 := ⟨⟨_, Try.underlying88, rfl⟩, by kernel_rfl⟩
theorem zi88 : ZI Try.prog 88 ([.raw (.slice none 0 0), .raw (.slice none 0 0), .b false]) := zi_of (by kernel_rfl)
theorem sz88 : (Try.prog.info? 88).map (·.size) = some 3 := by kernel_rfl
theorem fi88_0 : FI Try.prog 88 0 0 := ⟨⟨_, _, 1, Try.underlying88, rfl, rfl, by kernel_rfl, by decide⟩⟩
theorem ti42 : TI Try.prog 42 false 1 := ⟨⟨_, Try.underlying42, rfl⟩, by kernel_rfl⟩
theorem si42 : SI Try.prog 42 5 1 := ⟨Try.underlying42, by kernel_rfl, by decide⟩
theorem fn48 : FnI Try.prog 48 := ⟨⟨_, Try.func48, by kernel_rfl, by kernel_rfl⟩⟩
theorem fi88_1 : FI Try.prog 88 1 1 := ⟨⟨_, _, 1, Try.underlying88, rfl, rfl, by kernel_rfl, by decide⟩⟩
theorem fi88_2 : FI Try.prog 88 2 2 := ⟨⟨_, _, 1, Try.underlying88, rfl, rfl, by kernel_rfl, by decide⟩⟩
theorem ti4 : TI Try.prog 4 false 1 := ⟨⟨_, Try.underlying4, rfl⟩, by kernel_rfl⟩
theorem fn60 : FnI Try.prog 60 := ⟨⟨_, Try.func60, by kernel_rfl, by kernel_rfl⟩⟩
theorem ti76 : TI Try.prog 76 true 1 := ⟨⟨_, Try.underlying76, rfl⟩, by kernel_rfl⟩
theorem ei42 : EI Try.prog 42 1 24 [.raw (.slice none 0 0)] := ei_of (by kernel_rfl) (by decide)
theorem ni98 : NI Try.prog 98 := ⟨.inl ⟨_, Try.underlying98⟩⟩
theorem fn62 : FnI Try.prog 62 := ⟨⟨_, Try.func62, by kernel_rfl, by kernel_rfl⟩⟩
theorem si98 : SI Try.prog 98 42 1 := ⟨Try.underlying98, by kernel_rfl, by decide⟩
theorem mixed : Try.prog.follows .mixedOrders = true := by kernel_rfl
theorem xi81 : XI Try.prog 81 Extern.BytealgCompare.compare := ⟨⟨Try.f81, Try.func81, by kernel_rfl, by kernel_rfl, by kernel_rfl, by kernel_rfl⟩⟩
theorem fn70 : FnI Try.prog 70 := ⟨⟨_, Try.func70, by kernel_rfl, by kernel_rfl⟩⟩
theorem fn57 : FnI Try.prog 57 := ⟨⟨_, Try.func57, by kernel_rfl, by kernel_rfl⟩⟩
theorem fn42 : FnI Try.prog 42 := ⟨⟨_, Try.func42, by kernel_rfl, by kernel_rfl⟩⟩
theorem si25 : SI Try.prog 25 65 2 := ⟨Try.underlying25, by kernel_rfl, by decide⟩
theorem ti65 : TI Try.prog 65 true 2 := ⟨⟨_, Try.underlying65, rfl⟩, by kernel_rfl⟩
theorem zi65 : ZI Try.prog 65 ([.raw (.slice none 0 0), .raw (.slice none 0 0)]) := zi_of (by kernel_rfl)
theorem sz65 : (Try.prog.info? 65).map (·.size) = some 2 := by kernel_rfl
theorem fi65_0 : FI Try.prog 65 0 0 := ⟨⟨_, _, 1, Try.underlying65, rfl, rfl, by kernel_rfl, by decide⟩⟩
theorem fi44_0 : FI Try.prog 44 0 0 := ⟨⟨_, _, 1, Try.underlying44, rfl, rfl, by kernel_rfl, by decide⟩⟩
theorem fi44_2 : FI Try.prog 44 2 2 := ⟨⟨_, _, 1, Try.underlying44, rfl, rfl, by kernel_rfl, by decide⟩⟩
theorem fi44_1 : FI Try.prog 44 1 1 := ⟨⟨_, _, 1, Try.underlying44, rfl, rfl, by kernel_rfl, by decide⟩⟩
theorem sz76 : (Try.prog.info? 76).map (·.size) = some 1 := by kernel_rfl
theorem ti44 : TI Try.prog 44 true 3 := ⟨⟨_, Try.underlying44, rfl⟩, by kernel_rfl⟩
theorem sz44 : (Try.prog.info? 44).map (·.size) = some 3 := by kernel_rfl
theorem ei65 : EI Try.prog 65 2 48 [.raw (.slice none 0 0), .raw (.slice none 0 0)] := ei_of (by kernel_rfl) (by decide)
theorem ni25 : NI Try.prog 25 := ⟨.inl ⟨_, Try.underlying25⟩⟩
theorem fi65_1 : FI Try.prog 65 1 1 := ⟨⟨_, _, 1, Try.underlying65, rfl, rfl, by kernel_rfl, by decide⟩⟩
theorem pi65 : PI Try.prog 65 [(0, 1), (1, 1)] := pi_of Try.underlying65 (by kernel_rfl) (by kernel_rfl)
theorem fn59 : FnI Try.prog 59 := ⟨⟨_, Try.func59, by kernel_rfl, by kernel_rfl⟩⟩
theorem fn71 : FnI Try.prog 71 := ⟨⟨_, Try.func71, by kernel_rfl, by kernel_rfl⟩⟩
theorem fn72 : FnI Try.prog 72 := ⟨⟨_, Try.func72, by kernel_rfl, by kernel_rfl⟩⟩
theorem fn73 : FnI Try.prog 73 := ⟨⟨_, Try.func73, by kernel_rfl, by kernel_rfl⟩⟩
theorem ei5 : EI Try.prog 5 1 1 [.i .u8 0] := ei_of (by kernel_rfl) (by decide)
theorem zi71 : ZI Try.prog 71 ([.i .i64 0, .i .i64 0, .i .i64 0, .i .i64 0, .raw (.slice none 0 0), .raw (.slice none 0 0), .raw (.slice none 0 0), .b false]) := zi_of (by kernel_rfl)
theorem pi71 : PI Try.prog 71 [(0, 1), (1, 1), (2, 1), (3, 1), (4, 1), (5, 3)] := pi_of Try.underlying71 (by kernel_rfl) (by kernel_rfl)
theorem ei71 : EI Try.prog 71 8 112 [.i .i64 0, .i .i64 0, .i .i64 0, .i .i64 0, .raw (.slice none 0 0), .raw (.slice none 0 0), .raw (.slice none 0 0), .b false] := ei_of (by kernel_rfl) (by decide)
theorem zi31 : ZI Try.prog 31 ([.b false, .raw (.slice none 0 0)]) := zi_of (by kernel_rfl)
theorem pi31 : PI Try.prog 31 [(0, 1), (1, 1)] := pi_of Try.underlying31 (by kernel_rfl) (by kernel_rfl)
theorem sz31 : (Try.prog.info? 31).map (·.size) = some 2 := by kernel_rfl
theorem ti31 : TI Try.prog 31 true 2 := ⟨⟨_, Try.underlying31, rfl⟩, by kernel_rfl⟩
theorem zi35 : ZI Try.prog 35 ([.i .i64 0, .i .i64 0, .i .i64 0, .i .i64 0, .i .i64 0, .i .i64 0, .i .i64 0, .i .i64 0, .i .i64 0, .b false]) := zi_of (by kernel_rfl)
theorem fi31_1 : FI Try.prog 31 1 1 := ⟨⟨_, _, 1, Try.underlying31, rfl, rfl, by kernel_rfl, by decide⟩⟩
theorem ti29 : TI Try.prog 29 false 1 := ⟨⟨_, Try.underlying29, rfl⟩, by kernel_rfl⟩
theorem si29 : SI Try.prog 29 71 8 := ⟨Try.underlying29, by kernel_rfl, by decide⟩
theorem ti71 : TI Try.prog 71 true 8 := ⟨⟨_, Try.underlying71, rfl⟩, by kernel_rfl⟩
theorem sz71 : (Try.prog.info? 71).map (·.size) = some 8 := by kernel_rfl
theorem fi31_0 : FI Try.prog 31 0 0 := ⟨⟨_, _, 1, Try.underlying31, rfl, rfl, by kernel_rfl, by decide⟩⟩
theorem fi71_0 : FI Try.prog 71 0 0 := ⟨⟨_, _, 1, Try.underlying71, rfl, rfl, by kernel_rfl, by decide⟩⟩
theorem ti3 : TI Try.prog 3 false 1 := ⟨⟨_, Try.underlying3, rfl⟩, by kernel_rfl⟩
theorem fn37 : FnI Try.prog 37 := ⟨⟨_, Try.func37, by kernel_rfl, by kernel_rfl⟩⟩
theorem fi71_1 : FI Try.prog 71 1 1 := ⟨⟨_, _, 1, Try.underlying71, rfl, rfl, by kernel_rfl, by decide⟩⟩
theorem fi71_2 : FI Try.prog 71 2 2 := ⟨⟨_, _, 1, Try.underlying71, rfl, rfl, by kernel_rfl, by decide⟩⟩
theorem fi71_3 : FI Try.prog 71 3 3 := ⟨⟨_, _, 1, Try.underlying71, rfl, rfl, by kernel_rfl, by decide⟩⟩
theorem zi105 : ZI Try.prog 105 ([.b false, .b false, .b false]) := zi_of (by kernel_rfl)
theorem ai105 : AI Try.prog 105 3 4 1 := ⟨Try.underlying105, by kernel_rfl, by decide, by decide⟩
theorem sz105 : (Try.prog.info? 105).map (·.size) = some 3 := by kernel_rfl
theorem ti105 : TI Try.prog 105 true 3 := ⟨⟨_, Try.underlying105, rfl⟩, by kernel_rfl⟩
theorem fn46 : FnI Try.prog 46 := ⟨⟨_, Try.func46, by kernel_rfl, by kernel_rfl⟩⟩
theorem fi71_4 : FI Try.prog 71 4 4 := ⟨⟨_, _, 1, Try.underlying71, rfl, rfl, by kernel_rfl, by decide⟩⟩
theorem fi71_5 : FI Try.prog 71 5 5 := ⟨⟨_, _, 3, Try.underlying71, rfl, rfl, by kernel_rfl, by decide⟩⟩
theorem fn47 : FnI Try.prog 47 := ⟨⟨_, Try.func47, by kernel_rfl, by kernel_rfl⟩⟩
theorem ed105 : EqD Try.prog 105 [1, 1, 1] := ⟨by kernel_rfl, by kernel_rfl, by kernel_rfl, by kernel_rfl⟩
theorem fn65 : FnI Try.prog 65 := ⟨⟨_, Try.func65, by kernel_rfl, by kernel_rfl⟩⟩
theorem ti5 : TI Try.prog 5 false 1 := ⟨⟨_, Try.underlying5, rfl⟩, by kernel_rfl⟩
theorem fn66 : FnI Try.prog 66 := ⟨⟨_, Try.func66, by kernel_rfl, by kernel_rfl⟩⟩
theorem fn49 : FnI Try.prog 49 := ⟨⟨_, Try.func49, by kernel_rfl, by kernel_rfl⟩⟩
theorem fn31 : FnI Try.prog 31 := ⟨⟨_, Try.func31, by kernel_rfl, by kernel_rfl⟩⟩
theorem fn15 : FnI Try.prog 15 := ⟨⟨_, Try.func15, by kernel_rfl, by kernel_rfl⟩⟩
theorem pi35 : PI Try.prog 35 [(0, 1), (1, 8), (9, 1)] := pi_of Try.underlying35 (by kernel_rfl) (by kernel_rfl)
theorem sz35 : (Try.prog.info? 35).map (·.size) = some 10 := by kernel_rfl
theorem ti35 : TI Try.prog 35 true 10 := ⟨⟨_, Try.underlying35, rfl⟩, by kernel_rfl⟩
theorem fn28 : FnI Try.prog 28 := ⟨⟨_, Try.func28, by kernel_rfl, by kernel_rfl⟩⟩
theorem zi78 : ZI Try.prog 78 ([.raw (.slice none 0 0), .raw (.slice none 0 0)]) := zi_of (by kernel_rfl)
theorem pi78 : PI Try.prog 78 [(0, 1), (1, 1)] := pi_of Try.underlying78 (by kernel_rfl) (by kernel_rfl)
theorem sz78 : (Try.prog.info? 78).map (·.size) = some 2 := by kernel_rfl
theorem zi46 : ZI Try.prog 46 ([.i .i64 0, .i .i64 0, .i .i64 0, .i .i64 0, .b false, .raw (.slice none 0 0), .raw (.slice none 0 0), .raw (.slice none 0 0), .raw (.slice none 0 0), .b false]) := zi_of (by kernel_rfl)
theorem pi46 : PI Try.prog 46 [(0, 1), (1, 1), (2, 1), (3, 1), (4, 1), (5, 1), (6, 1), (7, 3)] := pi_of Try.underlying46 (by kernel_rfl) (by kernel_rfl)
theorem sz46 : (Try.prog.info? 46).map (·.size) = some 10 := by kernel_rfl
theorem ti46 : TI Try.prog 46 true 10 := ⟨⟨_, Try.underlying46, rfl⟩, by kernel_rfl⟩
theorem fi35_0 : FI Try.prog 35 0 0 := ⟨⟨_, _, 1, Try.underlying35, rfl, rfl, by kernel_rfl, by decide⟩⟩
theorem fi35_2 : FI Try.prog 35 2 9 := ⟨⟨_, _, 1, Try.underlying35, rfl, rfl, by kernel_rfl, by decide⟩⟩
theorem fn32 : FnI Try.prog 32 := ⟨⟨_, Try.func32, by kernel_rfl, by kernel_rfl⟩⟩
theorem fi35_1 : FI Try.prog 35 1 1 := ⟨⟨_, _, 8, Try.underlying35, rfl, rfl, by kernel_rfl, by decide⟩⟩
theorem ai33 : AI Try.prog 33 8 3 1 := ⟨Try.underlying33, by kernel_rfl, by decide, by decide⟩
theorem sz5 : (Try.prog.info? 5).map (·.size) = some 1 := by kernel_rfl
theorem fn68 : FnI Try.prog 68 := ⟨⟨_, Try.func68, by kernel_rfl, by kernel_rfl⟩⟩
theorem ni42 : NI Try.prog 42 := ⟨.inl ⟨_, Try.underlying42⟩⟩
theorem fn52 : FnI Try.prog 52 := ⟨⟨_, Try.func52, by kernel_rfl, by kernel_rfl⟩⟩
theorem fn39 : FnI Try.prog 39 := ⟨⟨_, Try.func39, by kernel_rfl, by kernel_rfl⟩⟩
theorem fn22 : FnI Try.prog 22 := ⟨⟨_, Try.func22, by kernel_rfl, by kernel_rfl⟩⟩
theorem fn33 : FnI Try.prog 33 := ⟨⟨_, Try.func33, by kernel_rfl, by kernel_rfl⟩⟩
theorem sz3 : (Try.prog.info? 3).map (·.size) = some 1 := by kernel_rfl
theorem pu33 : ∀ {a b : GAnon33} {j : Int} {v : Int}, putGAnon33 a j v = some b → ∀ pre post : List Lf, putAt (pre ++ (eGAnon33 a ++ post)) (pre.length + j.toNat) [.i .i64 v] = pre ++ (eGAnon33 b ++ post) := by
  intro a b j v h pre post
  rw [putAt_app]
  unfold putGAnon33 at h
  split at h
  · rename_i hj; subst hj; cases h; rfl
  split at h
  · rename_i hj; subst hj; cases h; rfl
  split at h
  · rename_i hj; subst hj; cases h; rfl
  split at h
  · rename_i hj; subst hj; cases h; rfl
  split at h
  · rename_i hj; subst hj; cases h; rfl
  split at h
  · rename_i hj; subst hj; cases h; rfl
  split at h
  · rename_i hj; subst hj; cases h; rfl
  split at h
  · rename_i hj; subst hj; cases h; rfl
  cases h
theorem fn50 : FnI Try.prog 50 := ⟨⟨_, Try.func50, by kernel_rfl, by kernel_rfl⟩⟩
theorem sz4 : (Try.prog.info? 4).map (·.size) = some 1 := by kernel_rfl
theorem fn34 : FnI Try.prog 34 := ⟨⟨_, Try.func34, by kernel_rfl, by kernel_rfl⟩⟩
theorem fn18 : FnI Try.prog 18 := ⟨⟨_, Try.func18, by kernel_rfl, by kernel_rfl⟩⟩
theorem ti78 : TI Try.prog 78 true 2 := ⟨⟨_, Try.underlying78, rfl⟩, by kernel_rfl⟩
theorem zi44 : ZI Try.prog 44 ([.raw (.slice none 0 0), .raw (.slice none 0 0), .b false]) := zi_of (by kernel_rfl)
theorem pi44 : PI Try.prog 44 [(0, 1), (1, 1), (2, 1)] := pi_of Try.underlying44 (by kernel_rfl) (by kernel_rfl)
theorem fi78_0 : FI Try.prog 78 0 0 := ⟨⟨_, _, 1, Try.underlying78, rfl, rfl, by kernel_rfl, by decide⟩⟩
theorem ti25 : TI Try.prog 25 false 1 := ⟨⟨_, Try.underlying25, rfl⟩, by kernel_rfl⟩
theorem fi78_1 : FI Try.prog 78 1 1 := ⟨⟨_, _, 1, Try.underlying78, rfl, rfl, by kernel_rfl, by decide⟩⟩
theorem fn58 : FnI Try.prog 58 := ⟨⟨_, Try.func58, by kernel_rfl, by kernel_rfl⟩⟩
theorem fn43 : FnI Try.prog 43 := ⟨⟨_, Try.func43, by kernel_rfl, by kernel_rfl⟩⟩
theorem fn29 : FnI Try.prog 29 := ⟨⟨_, Try.func29, by kernel_rfl, by kernel_rfl⟩⟩
theorem zi51 : ZI Try.prog 51 ([.i .i64 0, .i .i64 0, .i .i64 0, .i .i64 0, .b false, .raw (.slice none 0 0), .raw (.slice none 0 0)]) := zi_of (by kernel_rfl)
theorem pi51 : PI Try.prog 51 [(0, 1), (1, 1), (2, 1), (3, 1), (4, 1), (5, 1), (6, 1)] := pi_of Try.underlying51 (by kernel_rfl) (by kernel_rfl)
theorem sz51 : (Try.prog.info? 51).map (·.size) = some 7 := by kernel_rfl
theorem fi46_0 : FI Try.prog 46 0 0 := ⟨⟨_, _, 1, Try.underlying46, rfl, rfl, by kernel_rfl, by decide⟩⟩
theorem fi46_5 : FI Try.prog 46 5 5 := ⟨⟨_, _, 1, Try.underlying46, rfl, rfl, by kernel_rfl, by decide⟩⟩
theorem fn44 : FnI Try.prog 44 := ⟨⟨_, Try.func44, by kernel_rfl, by kernel_rfl⟩⟩
theorem fi51_4 : FI Try.prog 51 4 4 := ⟨⟨_, _, 1, Try.underlying51, rfl, rfl, by kernel_rfl, by decide⟩⟩
theorem fi51_5 : FI Try.prog 51 5 5 := ⟨⟨_, _, 1, Try.underlying51, rfl, rfl, by kernel_rfl, by decide⟩⟩
theorem sz42 : (Try.prog.info? 42).map (·.size) = some 1 := by kernel_rfl
theorem fi46_7 : FI Try.prog 46 7 7 := ⟨⟨_, _, 3, Try.underlying46, rfl, rfl, by kernel_rfl, by decide⟩⟩
theorem fi51_6 : FI Try.prog 51 6 6 := ⟨⟨_, _, 1, Try.underlying51, rfl, rfl, by kernel_rfl, by decide⟩⟩
theorem sz25 : (Try.prog.info? 25).map (·.size) = some 1 := by kernel_rfl
theorem fi46_6 : FI Try.prog 46 6 6 := ⟨⟨_, _, 1, Try.underlying46, rfl, rfl, by kernel_rfl, by decide⟩⟩
theorem pi88 : PI Try.prog 88 [(0, 1), (1, 1), (2, 1)] := pi_of Try.underlying88 (by kernel_rfl) (by kernel_rfl)
theorem zi76 : ZI Try.prog 76 ([.raw (.slice none 0 0)]) := zi_of (by kernel_rfl)
theorem pi76 : PI Try.prog 76 [(0, 1)] := pi_of Try.underlying76 (by kernel_rfl) (by kernel_rfl)
theorem fn76 : FnI Try.prog 76 := ⟨⟨_, Try.func76, by kernel_rfl, by kernel_rfl⟩⟩
theorem fn75 : FnI Try.prog 75 := ⟨⟨_, Try.func75, by kernel_rfl, by kernel_rfl⟩⟩
theorem fn77 : FnI Try.prog 77 := ⟨⟨_, Try.func77, by kernel_rfl, by kernel_rfl⟩⟩
theorem fn61 : FnI Try.prog 61 := ⟨⟨_, Try.func61, by kernel_rfl, by kernel_rfl⟩⟩
theorem ei88 : EI Try.prog 88 3 56 [.raw (.slice none 0 0), .raw (.slice none 0 0), .b false] := ei_of (by kernel_rfl) (by decide)
theorem ni74 : NI Try.prog 74 := ⟨.inl ⟨_, Try.underlying74⟩⟩
theorem fn63 : FnI Try.prog 63 := ⟨⟨_, Try.func63, by kernel_rfl, by kernel_rfl⟩⟩
theorem fn64 : FnI Try.prog 64 := ⟨⟨_, Try.func64, by kernel_rfl, by kernel_rfl⟩⟩
theorem fn45 : FnI Try.prog 45 := ⟨⟨_, Try.func45, by kernel_rfl, by kernel_rfl⟩⟩
theorem ti51 : TI Try.prog 51 true 7 := ⟨⟨_, Try.underlying51, rfl⟩, by kernel_rfl⟩
theorem fn30 : FnI Try.prog 30 := ⟨⟨_, Try.func30, by kernel_rfl, by kernel_rfl⟩⟩
theorem zi3 : ZI Try.prog 3 ([.i .i64 0]) := zi_of (by kernel_rfl)
theorem zi113 : ZI Try.prog 113 ([.raw .nilFunc, .i .i64 0]) := zi_of (by kernel_rfl)
theorem pi113 : PI Try.prog 113 [(0, 1), (1, 1)] := pi_of Try.underlying113 (by kernel_rfl) (by kernel_rfl)
theorem fn40 : FnI Try.prog 40 := ⟨⟨_, Try.func40, by kernel_rfl, by kernel_rfl⟩⟩
theorem fi113_1 : FI Try.prog 113 1 1 := ⟨⟨_, _, 1, Try.underlying113, rfl, rfl, by kernel_rfl, by decide⟩⟩
theorem ti49 : TI Try.prog 49 false 1 := ⟨⟨_, Try.underlying49, rfl⟩, by kernel_rfl⟩
theorem fn54 : FnI Try.prog 54 := ⟨⟨_, Try.func54, by kernel_rfl, by kernel_rfl⟩⟩
theorem sz49 : (Try.prog.info? 49).map (·.size) = some 1 := by kernel_rfl
theorem fn55 : FnI Try.prog 55 := ⟨⟨_, Try.func55, by kernel_rfl, by kernel_rfl⟩⟩
theorem fi113_0 : FI Try.prog 113 0 0 := ⟨⟨_, _, 1, Try.underlying113, rfl, rfl, by kernel_rfl, by decide⟩⟩
theorem ti111 : TI Try.prog 111 false 1 := ⟨⟨_, Try.underlying111, rfl⟩, by kernel_rfl⟩
theorem fn53 : FnI Try.prog 53 := ⟨⟨_, Try.func53, by kernel_rfl, by kernel_rfl⟩⟩
theorem fn69 : FnI Try.prog 69 := ⟨⟨_, Try.func69, by kernel_rfl, by kernel_rfl⟩⟩
theorem fn56 : FnI Try.prog 56 := ⟨⟨_, Try.func56, by kernel_rfl, by kernel_rfl⟩⟩
theorem fn41 : FnI Try.prog 41 := ⟨⟨_, Try.func41, by kernel_rfl, by kernel_rfl⟩⟩
theorem fn23 : FnI Try.prog 23 := ⟨⟨_, Try.func23, by kernel_rfl, by kernel_rfl⟩⟩
theorem fn38 : FnI Try.prog 38 := ⟨⟨_, Try.func38, by kernel_rfl, by kernel_rfl⟩⟩
theorem fn20 : FnI Try.prog 20 := ⟨⟨_, Try.func20, by kernel_rfl, by kernel_rfl⟩⟩
theorem fn14 : FnI Try.prog 14 := ⟨⟨_, Try.func14, by kernel_rfl, by kernel_rfl⟩⟩
theorem fn9 : FnI Try.prog 9 := ⟨⟨_, Try.func9, by kernel_rfl, by kernel_rfl⟩⟩
theorem ti24 : TI Try.prog 24 true 2 := ⟨⟨_, Try.underlying24, rfl⟩, by kernel_rfl⟩
theorem fi24_1 : FI Try.prog 24 1 1 := ⟨⟨_, _, 1, Try.underlying24, rfl, rfl, by kernel_rfl, by decide⟩⟩
theorem ti22 : TI Try.prog 22 false 1 := ⟨⟨_, Try.underlying22, rfl⟩, by kernel_rfl⟩
theorem si22 : SI Try.prog 22 63 8 := ⟨Try.underlying22, by kernel_rfl, by decide⟩
theorem fi63_4 : FI Try.prog 63 4 4 := ⟨⟨_, _, 1, Try.underlying63, rfl, rfl, by kernel_rfl, by decide⟩⟩
theorem fi63_5 : FI Try.prog 63 5 5 := ⟨⟨_, _, 3, Try.underlying63, rfl, rfl, by kernel_rfl, by decide⟩⟩
theorem fn26 : FnI Try.prog 26 := ⟨⟨_, Try.func26, by kernel_rfl, by kernel_rfl⟩⟩
theorem fn10 : FnI Try.prog 10 := ⟨⟨_, Try.func10, by kernel_rfl, by kernel_rfl⟩⟩
theorem fn11 : FnI Try.prog 11 := ⟨⟨_, Try.func11, by kernel_rfl, by kernel_rfl⟩⟩
theorem fn27 : FnI Try.prog 27 := ⟨⟨_, Try.func27, by kernel_rfl, by kernel_rfl⟩⟩
theorem fn12 : FnI Try.prog 12 := ⟨⟨_, Try.func12, by kernel_rfl, by kernel_rfl⟩⟩
theorem fi24_0 : FI Try.prog 24 0 0 := ⟨⟨_, _, 1, Try.underlying24, rfl, rfl, by kernel_rfl, by decide⟩⟩
theorem ti63 : TI Try.prog 63 true 8 := ⟨⟨_, Try.underlying63, rfl⟩, by kernel_rfl⟩
theorem zi63 : ZI Try.prog 63 ([.i .i64 0, .i .i64 0, .i .i64 0, .i .i64 0, .raw (.slice none 0 0), .raw (.slice none 0 0), .raw (.slice none 0 0), .b false]) := zi_of (by kernel_rfl)
theorem sz63 : (Try.prog.info? 63).map (·.size) = some 8 := by kernel_rfl
theorem fi63_0 : FI Try.prog 63 0 0 := ⟨⟨_, _, 1, Try.underlying63, rfl, rfl, by kernel_rfl, by decide⟩⟩
theorem fi63_1 : FI Try.prog 63 1 1 := ⟨⟨_, _, 1, Try.underlying63, rfl, rfl, by kernel_rfl, by decide⟩⟩
theorem fi63_2 : FI Try.prog 63 2 2 := ⟨⟨_, _, 1, Try.underlying63, rfl, rfl, by kernel_rfl, by decide⟩⟩
theorem fi63_3 : FI Try.prog 63 3 3 := ⟨⟨_, _, 1, Try.underlying63, rfl, rfl, by kernel_rfl, by decide⟩⟩
theorem ni29 : NI Try.prog 29 := ⟨.inl ⟨_, Try.underlying29⟩⟩
theorem sz29 : (Try.prog.info? 29).map (·.size) = some 1 := by kernel_rfl
theorem fn13 : FnI Try.prog 13 := ⟨⟨_, Try.func13, by kernel_rfl, by kernel_rfl⟩⟩
theorem fn16 : FnI Try.prog 16 := ⟨⟨_, Try.func16, by kernel_rfl, by kernel_rfl⟩⟩
theorem zi40 : ZI Try.prog 40 ([.i .i64 0, .i .i64 0, .i .i64 0, .i .i64 0, .i .i64 0, .i .i64 0, .i .i64 0, .i .i64 0, .i .i64 0, .b false]) := zi_of (by kernel_rfl)
theorem ti33 : TI Try.prog 33 true 8 := ⟨⟨_, Try.underlying33, rfl⟩, by kernel_rfl⟩
theorem pi40 : PI Try.prog 40 [(0, 1), (1, 8), (9, 1)] := pi_of Try.underlying40 (by kernel_rfl) (by kernel_rfl)
theorem sz40 : (Try.prog.info? 40).map (·.size) = some 10 := by kernel_rfl
theorem ti40 : TI Try.prog 40 true 10 := ⟨⟨_, Try.underlying40, rfl⟩, by kernel_rfl⟩
theorem fn17 : FnI Try.prog 17 := ⟨⟨_, Try.func17, by kernel_rfl, by kernel_rfl⟩⟩
theorem ed40 : EqD Try.prog 40 [0, 0, 0, 0, 0, 0, 0, 0, 0, 1] := ⟨by kernel_rfl, by kernel_rfl, by kernel_rfl, by kernel_rfl⟩
theorem fn35 : FnI Try.prog 35 := ⟨⟨_, Try.func35, by kernel_rfl, by kernel_rfl⟩⟩
theorem zi89 : ZI Try.prog 89 ([.raw (.slice none 0 0)]) := zi_of (by kernel_rfl)
theorem pi89 : PI Try.prog 89 [(0, 1)] := pi_of Try.underlying89 (by kernel_rfl) (by kernel_rfl)
theorem sz89 : (Try.prog.info? 89).map (·.size) = some 1 := by kernel_rfl
theorem ti89 : TI Try.prog 89 true 1 := ⟨⟨_, Try.underlying89, rfl⟩, by kernel_rfl⟩
theorem fi89_0 : FI Try.prog 89 0 0 := ⟨⟨_, _, 1, Try.underlying89, rfl, rfl, by kernel_rfl, by decide⟩⟩
theorem fn80 : FnI Try.prog 80 := ⟨⟨_, Try.func80, by kernel_rfl, by kernel_rfl⟩⟩
theorem fn67 : FnI Try.prog 67 := ⟨⟨_, Try.func67, by kernel_rfl, by kernel_rfl⟩⟩
theorem fn51 : FnI Try.prog 51 := ⟨⟨_, Try.func51, by kernel_rfl, by kernel_rfl⟩⟩
theorem fn36 : FnI Try.prog 36 := ⟨⟨_, Try.func36, by kernel_rfl, by kernel_rfl⟩⟩
theorem fn19 : FnI Try.prog 19 := ⟨⟨_, Try.func19, by kernel_rfl, by kernel_rfl⟩⟩

def m48_keys_Sane (a0 : List UInt8) : Option Bool :=
  if (decide (1 ≤ (a0.length : Int))) then (some (decide ((a0.length : Int) ≤ 16))) else (some false)

set_option maxRecDepth 100000 in
theorem m48_keys_Sane_c {a0 : List UInt8} {r : Bool} (h : m48_keys_Sane a0 = some r) : CallsA Try.prog 48 [.one (.sl a0.length (a0.flatMap eU8))] (· = .s (.one (.b r))) := by
  unfold m48_keys_Sane at h
  refine callsA_of Try.func48 rfl (nt := 11) rfl (Nat.le_of_ble_eq_true rfl) ?_
  intro w0 S0
  refine cseq ?_
  refine cregion ?_
  refine sv rfl (opv_as rfl) ?_
  refine snil ?_
  refine cseq ?_
  refine cregion ?_
  refine sv rfl (opv_mv rfl) ?_
  refine sv rfl (opv_len_sl si42 rfl) ?_
  refine sv rfl (opv_geq rfl rfl) ?_
  refine sv rfl (opv_mv rfl) ?_
  refine ssplit 6 rfl (fun hc => ?_) (fun hc => ?_)
  · replace h := ite_t hc h
    clear hc
    refine son rfl rfl rfl ?_
    refine sv rfl (opv_mv rfl) ?_
    refine son rfl rfl rfl ?_
    refine sv rfl (opv_len_sl si42 rfl) ?_
    refine son rfl rfl rfl ?_
    refine sv rfl (opv_leq rfl rfl) ?_
    refine sv rfl (opv_pick_t rfl rfl) ?_
    refine sv rfl (opv_as rfl) ?_
    refine snil ?_
    refine cret ?_
    obtain rfl := Option.some.inj h
    refine ⟨Or.inr rfl, _, _, _, (resVs_cons (ResV.tmp _ _ rfl) resVs_nil), (pubA_id rfl), ?_⟩
    rfl
  · replace h := ite_f hc h
    clear hc
    refine soff rfl rfl rfl rfl ?_
    refine soff rfl rfl rfl rfl ?_
    refine soff rfl rfl rfl rfl ?_
    refine sv rfl (opv_pick_f rfl rfl) ?_
    refine sv rfl (opv_as rfl) ?_
    refine snil ?_
    refine cret ?_
    obtain rfl := Option.some.inj h
    refine ⟨Or.inr rfl, _, _, _, (resVs_cons (ResV.tmp _ _ rfl) resVs_nil), (pubA_id rfl), ?_⟩
    rfl

def m60_buffer_saneWrite (a0 : GApiWrite) : Option Bool :=
  (m48_keys_Sane a0.Key).bind fun v1 => if v1 then (if (decide ((a0.Val.length : Int) ≤ 32)) then (if a0.Del then (some (!(decide (0 < (a0.Val.length : Int))))) else (some true)) else (some false)) else (some false)

set_option maxRecDepth 100000 in
theorem m60_buffer_saneWrite_c {a0 : GApiWrite} {r : Bool} (h : m60_buffer_saneWrite a0 = some r) : CallsA Try.prog 60 [.agg a0] (· = .s (.one (.b r))) := by
  unfold m60_buffer_saneWrite at h
  refine callsA_of Try.func60 rfl (nt := 23) rfl (Nat.le_of_ble_eq_true rfl) ?_
  intro w0 S0
  refine cseq ?_
  refine cregion ?_
  refine sbox rfl rfl ?_
  refine sv rfl (opv_as rfl) ?_
  refine snil ?_
  refine cseq ?_
  refine cregion ?_
  refine sv rfl (opv_fieldAddr_lp fi88_0 rfl) ?_
  refine sv rfl (opv_load1 ti42 rfl (.lp _ _ _ rfl) rfl) ?_
  obtain ⟨v1, hv1, h⟩ := bind_eq h
  refine scall1 rfl fn48 (opnds_cons rfl opnds_nil) (pubA_id rfl) (m48_keys_Sane_c hv1) ?_
  refine sv rfl (opv_mv rfl) ?_
  refine ssplit 6 rfl (fun hc => ?_) (fun hc => ?_)
  · replace h := ite_t hc h
    clear hc
    refine son rfl rfl rfl ?_
    refine sv rfl (opv_fieldAddr_lp fi88_1 rfl) ?_
    refine son rfl rfl rfl ?_
    refine sv rfl (opv_load1 ti42 rfl (.lp _ _ _ rfl) rfl) ?_
    refine son rfl rfl rfl ?_
    refine sv rfl (opv_len_sl si42 rfl) ?_
    refine son rfl rfl rfl ?_
    refine sv rfl (opv_leq rfl rfl) ?_
    refine sv rfl (opv_pick_t rfl rfl) ?_
    refine sv rfl (opv_mv rfl) ?_
    refine ssplit 12 rfl (fun hc => ?_) (fun hc => ?_)
    · replace h := ite_t hc h
      clear hc
      refine son rfl rfl rfl ?_
      refine sv rfl (opv_fieldAddr_lp fi88_2 rfl) ?_
      refine son rfl rfl rfl ?_
      refine sv rfl (opv_load1 ti4 rfl (.lp _ _ _ rfl) rfl) ?_
      refine son rfl rfl rfl ?_
      refine sv rfl (opv_mv rfl) ?_
      refine ssplit 15 rfl (fun hc => ?_) (fun hc => ?_)
      · replace h := ite_t hc h
        clear hc
        refine son rfl rfl rfl ?_
        refine sv rfl (opv_fieldAddr_lp fi88_1 rfl) ?_
        refine son rfl rfl rfl ?_
        refine sv rfl (opv_load1 ti42 rfl (.lp _ _ _ rfl) rfl) ?_
        refine son rfl rfl rfl ?_
        refine sv rfl (opv_len_sl si42 rfl) ?_
        refine son rfl rfl rfl ?_
        refine sv rfl (opv_gtr rfl rfl) ?_
        refine son rfl rfl rfl ?_
        refine sv rfl (opv_pick_t rfl rfl) ?_
        refine son rfl rfl rfl ?_
        refine sv rfl (opv_not rfl) ?_
        refine sv rfl (opv_pick_t rfl rfl) ?_
        refine sv rfl (opv_as rfl) ?_
        refine snil ?_
        refine cret ?_
        obtain rfl := Option.some.inj h
        refine ⟨Or.inr rfl, _, _, _, (resVs_cons (ResV.tmp _ _ rfl) resVs_nil), (pubA_id rfl), ?_⟩
        rfl
      · replace h := ite_f hc h
        clear hc
        refine soff rfl rfl rfl rfl ?_
        refine soff rfl rfl rfl rfl ?_
        refine soff rfl rfl rfl rfl ?_
        refine soff rfl rfl rfl rfl ?_
        refine son rfl rfl rfl ?_
        refine sv rfl (opv_pick_f rfl rfl) ?_
        refine son rfl rfl rfl ?_
        refine sv rfl (opv_not rfl) ?_
        refine sv rfl (opv_pick_t rfl rfl) ?_
        refine sv rfl (opv_as rfl) ?_
        refine snil ?_
        refine cret ?_
        obtain rfl := Option.some.inj h
        refine ⟨Or.inr rfl, _, _, _, (resVs_cons (ResV.tmp _ _ rfl) resVs_nil), (pubA_id rfl), ?_⟩
        rfl
    · replace h := ite_f hc h
      clear hc
      refine soff rfl rfl rfl rfl ?_
      refine soff rfl rfl rfl rfl ?_
      refine soff rfl rfl rfl rfl ?_
      refine soffu rfl rfl rfl ?_
      refine soffu rfl rfl rfl ?_
      refine soffu rfl rfl rfl ?_
      refine soffu rfl rfl rfl ?_
      refine soff rfl rfl rfl rfl ?_
      refine soff rfl rfl rfl rfl ?_
      refine sv rfl (opv_pick_f rfl rfl) ?_
      refine sv rfl (opv_as rfl) ?_
      refine snil ?_
      refine cret ?_
      obtain rfl := Option.some.inj h
      refine ⟨Or.inr rfl, _, _, _, (resVs_cons (ResV.tmp _ _ rfl) resVs_nil), (pubA_id rfl), ?_⟩
      rfl
  · replace h := ite_f hc h
    clear hc
    refine soff rfl rfl rfl rfl ?_
    refine soff rfl rfl rfl rfl ?_
    refine soff rfl rfl rfl rfl ?_
    refine soff rfl rfl rfl rfl ?_
    refine sv rfl (opv_pick_f rfl rfl) ?_
    refine sv rfl (opv_mv rfl) ?_
    refine soff rfl rfl rfl rfl ?_
    refine soff rfl rfl rfl rfl ?_
    refine soff rfl rfl rfl rfl ?_
    refine soffu rfl rfl rfl ?_
    refine soffu rfl rfl rfl ?_
    refine soffu rfl rfl rfl ?_
    refine soffu rfl rfl rfl ?_
    refine soff rfl rfl rfl rfl ?_
    refine soff rfl rfl rfl rfl ?_
    refine sv rfl (opv_pick_f rfl rfl) ?_
    refine sv rfl (opv_as rfl) ?_
    refine snil ?_
    refine cret ?_
    obtain rfl := Option.some.inj h
    refine ⟨Or.inr rfl, _, _, _, (resVs_cons (ResV.tmp _ _ rfl) resVs_nil), (pubA_id rfl), ?_⟩
    rfl

def m62_buffer_keysOf_k1 (b1 : (List (List UInt8))) : Option (List (List UInt8)) :=
  some b1

def m62_buffer_keysOf_s2 (a0 : GBufferBuf) (s2 : Int × (List (List UInt8))) : Option (LB (Int × (List (List UInt8))) ((List (List UInt8)))) :=
  if (decide (s2.1 < (a0.L.length : Int))) then ((idx a0.L s2.1).bind fun u3 => if (s2.2.length + [u3.Key].length) * 24 ≤ 140737488355328 then (some (.cont ((wI (s2.1 + 1)), (s2.2 ++ [u3.Key])))) else none) else (some (.brk s2.2))
def m62_buffer_keysOf (a0 : GBufferBuf) : Option (List (List UInt8)) :=
  (iterB (m62_buffer_keysOf_s2 a0) fuel (0, ([] : List (List UInt8)))).bind fun e5 => m62_buffer_keysOf_k1 e5

set_option maxRecDepth 100000 in
theorem m62_buffer_keysOf_c {a0 : GBufferBuf} {r : (List (List UInt8))} (h : m62_buffer_keysOf a0 = some r) : CallsA Try.prog 62 [.agg [.sl a0.L.length (a0.L.flatMap eGApiWrite)]] (· = .s (.one (.sl r.length (r.flatMap (eL eU8))))) := by
  unfold m62_buffer_keysOf at h
  refine callsA_of Try.func62 rfl (nt := 20) rfl (Nat.le_of_ble_eq_true rfl) ?_
  intro w0 S0
  refine cseq ?_
  refine cregion ?_
  refine sbox rfl rfl ?_
  refine sv rfl (opv_as rfl) ?_
  refine snil ?_
  refine cseq ?_
  refine cregion ?_
  refine sv rfl (opv_as rfl) ?_
  refine snil ?_
  refine cseq ?_
  refine cseq ?_
  refine cregion ?_
  refine sv rfl (opv_fieldAddr_lp fi76_0 rfl) ?_
  refine sv rfl (opv_load1 ti74 rfl (.lp _ _ _ rfl) rfl) ?_
  refine sv rfl (opv_len_sl si74 rfl) ?_
  refine sv rfl (opv_mv rfl) ?_
  refine snil ?_
  refine sadopt_c 42 1 3 (by decide) rfl ?_
  refine cjoin ((List (List UInt8))) (fun b1 => [(3, .s (.one (.ls 1 b1.length)))]) (fun b1 => [.box [.sl a0.L.length (a0.L.flatMap eGApiWrite)], .arr 42 1 0 (b1.flatMap (eL eU8))]) (fun b1 => m62_buffer_keysOf_k1 b1 = some r) (fun _ _ => inbL_of rfl) (fun _ _ => blkinb_of rfl) (fun _ _ => Nat.le_of_ble_eq_true rfl) (fun b1 h => ?_) ?_
  · unfold m62_buffer_keysOf_k1 at h
    refine cseq ?_
    refine cregion ?_
    refine sv rfl (opv_mv rfl) ?_
    refine sv rfl (opv_as rfl) ?_
    refine snil ?_
    refine cret ?_
    obtain rfl := Option.some.inj h
    refine ⟨Or.inr rfl, _, _, _, (resVs_cons (ResV.tmp _ _ rfl) resVs_nil), (by (repeat' first | exact PubA.nil _ | apply PubA.cons | apply PubV.one | apply PubV.agg | exact PubL.nil | exact PubL.ls _ _ _ _ _ _ rfl (flat_len (f := (eL eU8)) (fun _ => rfl) _).symm | exact PubL.id _ rfl | exact PubLs.nil _ | apply PubLs.cons)), ?_⟩
    rfl
  · skip
    refine cblock ?_
    obtain ⟨x2, hx2, ho2⟩ := bind_eq h
    refine awc_loop (G := Nat × (Int × (List (List UInt8)))) (fun g => [(3, .s (.one (.ls 1 g.2.2.length))), (7, .s (.one (.sl a0.L.length (a0.L.flatMap eGApiWrite)))), (8, .s (.one (.i .i64 (a0.L.length : Int)))), (9, .s (.one (.i .i64 g.2.1)))]) (fun g => [.box [.sl a0.L.length (a0.L.flatMap eGApiWrite)], .arr 42 1 0 (g.2.2.flatMap (eL eU8))]) (fun g => iterB (m62_buffer_keysOf_s2 a0) g.1 g.2 = some x2) (fun g => g.1) (fuel, (0, ([] : List (List UInt8)))) hx2 ⟨rfl, rfl, rfl, rfl, trivial⟩ [] rfl (fun _ _ => inbL_of rfl) (fun _ _ => blkinb_of rfl) (fun _ _ => Nat.le_of_ble_eq_true rfl) ?_
    clear hx2 h
    rintro ⟨n2, s2⟩ h
    obtain ⟨n2, y2, rfl, h, hk2⟩ := iterB_eq h
    unfold m62_buffer_keysOf_s2 at h
    refine cseq ?_
    refine cregion ?_
    refine sv rfl (opv_lss rfl rfl) ?_
    refine snil ?_
    refine cseq ?_
    refine ccond rfl (fun hc => ?_) (fun hc => ?_)
    · replace h := ite_t hc h
      clear hc
      refine cskip ?_
      refine then_normal ?_
      refine cseq ?_
      refine cblock ?_
      refine cseq ?_
      refine cregion ?_
      obtain ⟨u3, hu3, h⟩ := bind_eq h
      refine sv rfl (opv_ix (f := eGApiWrite) si74 (fun _ => rfl) rfl rfl rfl rfl hu3) ?_
      refine sv rfl (opv_loadNe (ys := [.sl u3.Key.length (u3.Key.flatMap eU8), .sl u3.Val.length (u3.Val.flatMap eU8), .b u3.Del]) ti88 rfl (.cp _) rfl rfl) ?_
      refine salloc rfl zi88 ?_
      refine sstore sz88 rfl rfl rfl rfl (Nat.le_of_ble_eq_true rfl) ?_
      refine smem [.box [.sl a0.L.length (a0.L.flatMap eGApiWrite)], .arr 42 1 0 (s2.2.flatMap (eL eU8)), .box u3] rfl ?_
      refine snil ?_
      refine cregion ?_
      refine sv rfl (opv_mv rfl) ?_
      refine sv rfl (opv_fieldAddr_lp fi88_0 rfl) ?_
      refine sv rfl (opv_load1 ti42 rfl (.lp _ _ _ rfl) rfl) ?_
      refine sbuild1 rfl Try.underlying98 ei42 rfl rfl (List.all_eq_true.1 rfl) (by decide) ?_
      refine smem [.box [.sl a0.L.length (a0.L.flatMap eGApiWrite)], .arr 42 1 0 (s2.2.flatMap (eL eU8)), .box u3, .arr 42 1 0 ([u3.Key].flatMap (eL eU8))] rfl ?_
      obtain ⟨hb4, h⟩ := chk_eq h
      refine sapp (f := (eL eU8)) (xs := s2.2) (us := [u3.Key]) rfl Try.underlying98 ei42 ni98 (fun _ => rfl) rfl rfl (.one _ _ _ _ (.ls _ _ _ _ _ _ rfl (flat_len (f := (eL eU8)) (fun _ => rfl) [u3.Key]).symm)) rfl rfl rfl (.sl _ _ _ (flat_len (f := (eL eU8)) (fun _ => rfl) _)) rfl rfl hb4 (by decide) ?_
      refine sv rfl (opv_as rfl) ?_
      refine snil0 ?_
      refine block_normal ?_
      refine then_normal ?_
      refine cregion ?_
      refine sv rfl (opv_add rfl rfl) ?_
      refine sv rfl (opv_mv rfl) ?_
      refine snil ?_
      obtain rfl := Option.some.inj h
      exact ⟨(n2, ((wI (s2.1 + 1)), (s2.2 ++ [u3.Key]))), _, hk2, ⟨rfl, rfl, rfl, rfl, trivial⟩, rfl, Nat.lt_succ_self _⟩
    · replace h := ite_f hc h
      clear hc
      refine cexit ?_
      refine then_exit ?_
      refine then_exit ?_
      refine block_hit ?_
      refine then_normal ?_
      obtain rfl := Option.some.inj h
      obtain rfl : _ = x2 := hk2
      exact ⟨s2.2, _, ho2, ⟨rfl, trivial⟩, rfl⟩

def m70_bytes_Compare (a0 : List UInt8) (a1 : List UInt8) : Option Int :=
  some (cmpL a0 a1)

set_option maxRecDepth 100000 in
theorem m70_bytes_Compare_c {a0 : List UInt8} {a1 : List UInt8} {r : Int} (h : m70_bytes_Compare a0 a1 = some r) : CallsA Try.prog 70 [.one (.sl a0.length (a0.flatMap eU8)), .one (.sl a1.length (a1.flatMap eU8))] (· = .s (.one (.i .i64 r))) := by
  unfold m70_bytes_Compare at h
  refine callsA_of Try.func70 rfl (nt := 8) rfl (Nat.le_of_ble_eq_true rfl) ?_
  intro w0 S0
  refine cseq ?_
  refine cregion ?_
  refine sv rfl (opv_as rfl) ?_
  refine snil ?_
  refine cseq ?_
  refine cregion ?_
  refine sv rfl (opv_mv rfl) ?_
  refine sv rfl (opv_mv rfl) ?_
  refine sv rfl (opv_cmp' (a := a0) (b := a1) xi81 rfl rfl rfl rfl rfl rfl) ?_
  refine sv rfl (opv_as rfl) ?_
  refine snil ?_
  refine cret ?_
  obtain rfl := Option.some.inj h
  refine ⟨Or.inr rfl, _, _, _, (resVs_cons (ResV.tmp _ _ rfl) resVs_nil), (pubA_id rfl), ?_⟩
  rfl

def m57_keys_Cmp (a0 : List UInt8) (a1 : List UInt8) : Option Int :=
  (m70_bytes_Compare a0 a1).bind fun v1 => some v1

set_option maxRecDepth 100000 in
theorem m57_keys_Cmp_c {a0 : List UInt8} {a1 : List UInt8} {r : Int} (h : m57_keys_Cmp a0 a1 = some r) : CallsA Try.prog 57 [.one (.sl a0.length (a0.flatMap eU8)), .one (.sl a1.length (a1.flatMap eU8))] (· = .s (.one (.i .i64 r))) := by
  unfold m57_keys_Cmp at h
  refine callsA_of Try.func57 rfl (nt := 8) rfl (Nat.le_of_ble_eq_true rfl) ?_
  intro w0 S0
  refine cseq ?_
  refine cregion ?_
  refine sv rfl (opv_as rfl) ?_
  refine snil ?_
  refine cseq ?_
  refine cregion ?_
  refine sv rfl (opv_mv rfl) ?_
  refine sv rfl (opv_mv rfl) ?_
  obtain ⟨v1, hv1, h⟩ := bind_eq h
  refine scall1 rfl fn70 (opnds_cons rfl (opnds_cons rfl opnds_nil)) (pubA_id rfl) (m70_bytes_Compare_c hv1) ?_
  refine sv rfl (opv_as rfl) ?_
  refine snil ?_
  refine cret ?_
  obtain rfl := Option.some.inj h
  refine ⟨Or.inr rfl, _, _, _, (resVs_cons (ResV.tmp _ _ rfl) resVs_nil), (pubA_id rfl), ?_⟩
  rfl

def m42_keys_Sorted_k1 (b1 : Unit) : Option Bool :=
  some true

def m42_keys_Sorted_s2 (a0 : List (List UInt8)) (s2 : Int) : Option (LR (Int) (Unit) (Bool)) :=
  if (decide (s2 < (a0.length : Int))) then ((idx a0 (wI (s2 - 1))).bind fun u3 => (idx a0 s2).bind fun u4 => (m57_keys_Cmp u3 u4).bind fun v5 => if (decide (0 ≤ v5)) then (some (.ret false)) else (some (.cont (wI (s2 + 1))))) else (some (.brk ()))
def m42_keys_Sorted (a0 : List (List UInt8)) : Option Bool :=
  (iter (m42_keys_Sorted_s2 a0) fuel 1).bind fun x => match x with | .inl r => some r | .inr e6 => m42_keys_Sorted_k1 e6

set_option maxRecDepth 100000 in
theorem m42_keys_Sorted_c {a0 : List (List UInt8)} {r : Bool} (h : m42_keys_Sorted a0 = some r) : CallsA Try.prog 42 [.one (.sl a0.length (a0.flatMap (eL eU8)))] (· = .s (.one (.b r))) := by
  unfold m42_keys_Sorted at h
  refine callsA_of Try.func42 rfl (nt := 21) rfl (Nat.le_of_ble_eq_true rfl) ?_
  intro w0 S0
  refine cseq ?_
  refine cregion ?_
  refine sv rfl (opv_as rfl) ?_
  refine snil ?_
  refine cseq ?_
  refine cseq ?_
  refine cregion ?_
  refine sv rfl (opv_as rfl) ?_
  refine snil ?_
  refine cjoin (Unit) (fun b1 => []) (fun b1 => []) (fun b1 => m42_keys_Sorted_k1 b1 = some r) (fun _ _ => inbL_of rfl) (fun _ _ => blkinb_of rfl) (fun _ _ => Nat.le_of_ble_eq_true rfl) (fun b1 h => ?_) ?_
  · unfold m42_keys_Sorted_k1 at h
    refine cseq ?_
    refine cregion ?_
    refine sv rfl (opv_as rfl) ?_
    refine snil ?_
    refine cret ?_
    obtain rfl := Option.some.inj h
    refine ⟨Or.inr rfl, _, _, _, (resVs_cons (ResV.tmp _ _ rfl) resVs_nil), (pubA_id rfl), ?_⟩
    rfl
  · skip
    refine cblock ?_
    obtain ⟨x2, hx2, ho2⟩ := bind_eq h
    refine awc_loop (G := Nat × (Int)) (fun g => [(0, .s (.one (.sl a0.length (a0.flatMap (eL eU8))))), (3, .s (.one (.i .i64 g.2)))]) (fun g => []) (fun g => iter (m42_keys_Sorted_s2 a0) g.1 g.2 = some x2) (fun g => g.1) (fuel, 1) hx2 ⟨rfl, rfl, trivial⟩ [] rfl (fun _ _ => inbL_of rfl) (fun _ _ => blkinb_of rfl) (fun _ _ => Nat.le_of_ble_eq_true rfl) ?_
    clear hx2 h
    rintro ⟨n2, s2⟩ h
    obtain ⟨n2, y2, rfl, h, hk2⟩ := iter_eq h
    unfold m42_keys_Sorted_s2 at h
    refine cseq ?_
    refine cseq ?_
    refine cregion ?_
    refine sv rfl (opv_mv rfl) ?_
    refine sv rfl (opv_mv rfl) ?_
    refine sv rfl (opv_len_sl si98 rfl) ?_
    refine sv rfl (opv_lss rfl rfl) ?_
    refine snil ?_
    refine ccond rfl (fun hc => ?_) (fun hc => ?_)
    · replace h := ite_t hc h
      clear hc
      refine cskip ?_
      refine then_normal ?_
      refine cseq ?_
      refine cblock ?_
      refine cseq ?_
      refine cdraw mixed (by kernel_rfl) ?_
      refine dv rfl (opv_mv rfl) ?_
      refine dv rfl (opv_mv rfl) ?_
      refine dv rfl (opv_sub rfl rfl) ?_
      obtain ⟨u3, hu3, h⟩ := bind_eq h
      refine dv rfl (opv_ix (f := (eL eU8)) si98 (fun _ => rfl) rfl rfl rfl rfl hu3) ?_
      refine dv rfl (opv_load1 ti42 rfl (.cp _) rfl) ?_
      refine dv rfl (opv_mv rfl) ?_
      refine dv rfl (opv_mv rfl) ?_
      obtain ⟨u4, hu4, h⟩ := bind_eq h
      refine dv rfl (opv_ix (f := (eL eU8)) si98 (fun _ => rfl) rfl rfl rfl rfl hu4) ?_
      refine dv rfl (opv_load1 ti42 rfl (.cp _) rfl) ?_
      obtain ⟨v5, hv5, h⟩ := bind_eq h
      refine dd rfl (opD_call fn57 (opnds_cons rfl (opnds_cons rfl opnds_nil)) rfl (m57_keys_Cmp_c hv5)) ?_
      refine dv rfl (opv_geq rfl rfl) ?_
      refine dnil ?_
      refine then_normal ?_
      refine ccond rfl (fun hc => ?_) (fun hc => ?_)
      · replace h := ite_t hc h
        clear hc
        refine cseq ?_
        refine cregion ?_
        refine sv rfl (opv_as rfl) ?_
        refine snil ?_
        refine cret ?_
        refine block_ret ?_
        refine then_ret ?_
        refine then_ret ?_
        refine block_ret ?_
        refine then_ret ?_
        obtain rfl := Option.some.inj h
        obtain rfl : Sum.inl _ = x2 := hk2
        replace ho2 : some _ = some _ := ho2
        obtain rfl := Option.some.inj ho2
        refine ⟨Or.inr rfl, _, _, _, (resVs_cons (ResV.tmp _ _ rfl) resVs_nil), (pubA_id rfl), ?_⟩
        rfl
      · replace h := ite_f hc h
        clear hc
        refine cskip ?_
        refine block_normal ?_
        refine then_normal ?_
        refine cregion ?_
        refine sv rfl (opv_mv rfl) ?_
        refine sv rfl (opv_add rfl rfl) ?_
        refine sv rfl (opv_as rfl) ?_
        refine snil ?_
        obtain rfl := Option.some.inj h
        exact ⟨(n2, (wI (s2 + 1))), _, hk2, ⟨rfl, rfl, trivial⟩, rfl, Nat.lt_succ_self _⟩
    · replace h := ite_f hc h
      clear hc
      refine cexit ?_
      refine then_exit ?_
      refine then_exit ?_
      refine block_hit ?_
      refine then_normal ?_
      obtain rfl := Option.some.inj h
      obtain rfl : _ = x2 := hk2
      exact ⟨(), _, ho2, trivial, rfl⟩

def m59_buffer_Sane_k1 (a0 : GBufferBuf) (b1 : Unit) : Option Bool :=
  if (decide ((a0.L.length : Int) ≤ 16)) then ((m62_buffer_keysOf a0).bind fun v2 => (m42_keys_Sorted v2).bind fun v3 => some v3) else (some false)

def m59_buffer_Sane_s4 (a0 : GBufferBuf) (s4 : Int) : Option (LR (Int) (Unit) (Bool)) :=
  if (decide (s4 < (a0.L.length : Int))) then ((idx a0.L s4).bind fun u5 => (m60_buffer_saneWrite u5).bind fun v6 => if (!v6) then (some (.ret false)) else (some (.cont (wI (s4 + 1))))) else (some (.brk ()))
def m59_buffer_Sane (a0 : GBufferBuf) : Option Bool :=
  (iter (m59_buffer_Sane_s4 a0) fuel 0).bind fun x => match x with | .inl r => some r | .inr e7 => m59_buffer_Sane_k1 a0 e7

set_option maxRecDepth 100000 in
theorem m59_buffer_Sane_c {a0 : GBufferBuf} {r : Bool} (h : m59_buffer_Sane a0 = some r) : CallsA Try.prog 59 [.agg [.sl a0.L.length (a0.L.flatMap eGApiWrite)]] (· = .s (.one (.b r))) := by
  unfold m59_buffer_Sane at h
  refine callsA_of Try.func59 rfl (nt := 25) rfl (Nat.le_of_ble_eq_true rfl) ?_
  intro w0 S0
  refine cseq ?_
  refine cregion ?_
  refine sbox rfl rfl ?_
  refine sv rfl (opv_as rfl) ?_
  refine snil ?_
  refine cseq ?_
  refine cseq ?_
  refine cregion ?_
  refine sv rfl (opv_fieldAddr_lp fi76_0 rfl) ?_
  refine sv rfl (opv_load1 ti74 rfl (.lp _ _ _ rfl) rfl) ?_
  refine sv rfl (opv_len_sl si74 rfl) ?_
  refine sv rfl (opv_mv rfl) ?_
  refine snil ?_
  refine cjoin (Unit) (fun b1 => [(1, .s (.one (.lp 0 0)))]) (fun b1 => [.box [.sl a0.L.length (a0.L.flatMap eGApiWrite)]]) (fun b1 => m59_buffer_Sane_k1 a0 b1 = some r) (fun _ _ => inbL_of rfl) (fun _ _ => blkinb_of rfl) (fun _ _ => Nat.le_of_ble_eq_true rfl) (fun b1 h => ?_) ?_
  · unfold m59_buffer_Sane_k1 at h
    refine cseq ?_
    refine cregion ?_
    refine sv rfl (opv_fieldAddr_lp fi76_0 rfl) ?_
    refine sv rfl (opv_load1 ti74 rfl (.lp _ _ _ rfl) rfl) ?_
    refine sv rfl (opv_len_sl si74 rfl) ?_
    refine sv rfl (opv_leq rfl rfl) ?_
    refine sv rfl (opv_mv rfl) ?_
    refine ssplit 20 rfl (fun hc => ?_) (fun hc => ?_)
    · replace h := ite_t hc h
      clear hc
      refine son rfl rfl rfl ?_
      refine sv rfl (opv_loadN ti76 rfl (.lp _ _ _ rfl) (Nat.le_of_ble_eq_true rfl)) ?_
      refine son rfl rfl rfl ?_
      obtain ⟨v2, hv2, h⟩ := bind_eq h
      refine scall1 rfl fn62 (opnds_cons rfl opnds_nil) (pubA_id rfl) (m62_buffer_keysOf_c hv2) ?_
      refine son rfl rfl rfl ?_
      obtain ⟨v3, hv3, h⟩ := bind_eq h
      refine scall1 rfl fn42 (opnds_cons rfl opnds_nil) (pubA_id rfl) (m42_keys_Sorted_c hv3) ?_
      refine sv rfl (opv_pick_t rfl rfl) ?_
      refine sv rfl (opv_as rfl) ?_
      refine snil ?_
      refine cret ?_
      obtain rfl := Option.some.inj h
      refine ⟨Or.inr rfl, _, _, _, (resVs_cons (ResV.tmp _ _ rfl) resVs_nil), (pubA_id rfl), ?_⟩
      rfl
    · replace h := ite_f hc h
      clear hc
      refine soff rfl rfl rfl rfl ?_
      refine soff rfl rfl rfl rfl ?_
      refine soff rfl rfl rfl rfl ?_
      refine sv rfl (opv_pick_f rfl rfl) ?_
      refine sv rfl (opv_as rfl) ?_
      refine snil ?_
      refine cret ?_
      obtain rfl := Option.some.inj h
      refine ⟨Or.inr rfl, _, _, _, (resVs_cons (ResV.tmp _ _ rfl) resVs_nil), (pubA_id rfl), ?_⟩
      rfl
  · skip
    refine cblock ?_
    obtain ⟨x4, hx4, ho4⟩ := bind_eq h
    refine awc_loop (G := Nat × (Int)) (fun g => [(1, .s (.one (.lp 0 0))), (6, .s (.one (.sl a0.L.length (a0.L.flatMap eGApiWrite)))), (7, .s (.one (.i .i64 (a0.L.length : Int)))), (8, .s (.one (.i .i64 g.2)))]) (fun g => [.box [.sl a0.L.length (a0.L.flatMap eGApiWrite)]]) (fun g => iter (m59_buffer_Sane_s4 a0) g.1 g.2 = some x4) (fun g => g.1) (fuel, 0) hx4 ⟨rfl, rfl, rfl, rfl, trivial⟩ [] rfl (fun _ _ => inbL_of rfl) (fun _ _ => blkinb_of rfl) (fun _ _ => Nat.le_of_ble_eq_true rfl) ?_
    clear hx4 h
    rintro ⟨n4, s4⟩ h
    obtain ⟨n4, y4, rfl, h, hk4⟩ := iter_eq h
    unfold m59_buffer_Sane_s4 at h
    refine cseq ?_
    refine cregion ?_
    refine sv rfl (opv_lss rfl rfl) ?_
    refine snil ?_
    refine cseq ?_
    refine ccond rfl (fun hc => ?_) (fun hc => ?_)
    · replace h := ite_t hc h
      clear hc
      refine cskip ?_
      refine then_normal ?_
      refine cseq ?_
      refine cblock ?_
      refine cseq ?_
      refine cregion ?_
      obtain ⟨u5, hu5, h⟩ := bind_eq h
      refine sv rfl (opv_ix (f := eGApiWrite) si74 (fun _ => rfl) rfl rfl rfl rfl hu5) ?_
      refine sv rfl (opv_loadNe (ys := [.sl u5.Key.length (u5.Key.flatMap eU8), .sl u5.Val.length (u5.Val.flatMap eU8), .b u5.Del]) ti88 rfl (.cp _) rfl rfl) ?_
      refine salloc rfl zi88 ?_
      refine sstore sz88 rfl rfl rfl rfl (Nat.le_of_ble_eq_true rfl) ?_
      refine smem [.box [.sl a0.L.length (a0.L.flatMap eGApiWrite)], .box u5] rfl ?_
      refine snil ?_
      refine cseq ?_
      refine cregion ?_
      refine sv rfl (opv_loadN ti88 rfl (.lp _ _ _ rfl) (Nat.le_of_ble_eq_true rfl)) ?_
      obtain ⟨v6, hv6, h⟩ := bind_eq h
      refine scall1 rfl fn60 (opnds_cons rfl opnds_nil) (pubA_id rfl) (m60_buffer_saneWrite_c hv6) ?_
      refine sv rfl (opv_not rfl) ?_
      refine snil ?_
      refine ccond rfl (fun hc => ?_) (fun hc => ?_)
      · replace h := ite_t hc h
        clear hc
        refine cseq ?_
        refine cregion ?_
        refine sv rfl (opv_as rfl) ?_
        refine snil ?_
        refine cret ?_
        refine block_ret ?_
        refine then_ret ?_
        refine then_ret ?_
        refine block_ret ?_
        refine then_ret ?_
        obtain rfl := Option.some.inj h
        obtain rfl : Sum.inl _ = x4 := hk4
        replace ho4 : some _ = some _ := ho4
        obtain rfl := Option.some.inj ho4
        refine ⟨Or.inr rfl, _, _, _, (resVs_cons (ResV.tmp _ _ rfl) resVs_nil), (pubA_id rfl), ?_⟩
        rfl
      · replace h := ite_f hc h
        clear hc
        refine cskip ?_
        refine block_normal ?_
        refine then_normal ?_
        refine cregion ?_
        refine sv rfl (opv_add rfl rfl) ?_
        refine sv rfl (opv_mv rfl) ?_
        refine snil ?_
        obtain rfl := Option.some.inj h
        exact ⟨(n4, (wI (s4 + 1))), _, hk4, ⟨rfl, rfl, rfl, rfl, trivial⟩, rfl, Nat.lt_succ_self _⟩
    · replace h := ite_f hc h
      clear hc
      refine cexit ?_
      refine then_exit ?_
      refine then_exit ?_
      refine block_hit ?_
      refine then_normal ?_
      obtain rfl := Option.some.inj h
      obtain rfl : _ = x4 := hk4
      exact ⟨(), _, ho4, ⟨rfl, trivial⟩, rfl⟩

def m71_buffer_risen_k1 (b1 : (List (List UInt8))) : Option Bool :=
  (m42_keys_Sorted b1).bind fun v2 => some v2

def m71_buffer_risen_s3 (a0 : List GApiKV) (s3 : Int × (List (List UInt8))) : Option (LB (Int × (List (List UInt8))) ((List (List UInt8)))) :=
  if (decide (s3.1 < (a0.length : Int))) then ((idx a0 s3.1).bind fun u4 => if (s3.2.length + [u4.Key].length) * 24 ≤ 140737488355328 then (some (.cont ((wI (s3.1 + 1)), (s3.2 ++ [u4.Key])))) else none) else (some (.brk s3.2))
def m71_buffer_risen (a0 : List GApiKV) : Option Bool :=
  (iterB (m71_buffer_risen_s3 a0) fuel (0, ([] : List (List UInt8)))).bind fun e6 => m71_buffer_risen_k1 e6

set_option maxRecDepth 100000 in
theorem m71_buffer_risen_c {a0 : List GApiKV} {r : Bool} (h : m71_buffer_risen a0 = some r) : CallsA Try.prog 71 [.one (.sl a0.length (a0.flatMap eGApiKV))] (· = .s (.one (.b r))) := by
  unfold m71_buffer_risen at h
  refine callsA_of Try.func71 rfl (nt := 20) rfl (Nat.le_of_ble_eq_true rfl) ?_
  intro w0 S0
  refine cseq ?_
  refine cregion ?_
  refine sv rfl (opv_as rfl) ?_
  refine snil ?_
  refine cseq ?_
  refine cregion ?_
  refine sv rfl (opv_as rfl) ?_
  refine snil ?_
  refine cseq ?_
  refine cseq ?_
  refine cregion ?_
  refine sv rfl (opv_mv rfl) ?_
  refine sv rfl (opv_len_sl si25 rfl) ?_
  refine sv rfl (opv_mv rfl) ?_
  refine snil ?_
  refine sadopt_c 42 1 3 (by decide) rfl ?_
  refine cjoin ((List (List UInt8))) (fun b1 => [(3, .s (.one (.ls 0 b1.length)))]) (fun b1 => [.arr 42 1 0 (b1.flatMap (eL eU8))]) (fun b1 => m71_buffer_risen_k1 b1 = some r) (fun _ _ => inbL_of rfl) (fun _ _ => blkinb_of rfl) (fun _ _ => Nat.le_of_ble_eq_true rfl) (fun b1 h => ?_) ?_
  · unfold m71_buffer_risen_k1 at h
    refine cseq ?_
    refine cregion ?_
    refine sv rfl (opv_mv rfl) ?_
    refine spub 18 rfl (by (repeat' first | exact PubA.nil _ | apply PubA.cons | apply PubV.one | apply PubV.agg | exact PubL.nil | exact PubL.ls _ _ _ _ _ _ rfl (flat_len (f := (eL eU8)) (fun _ => rfl) _).symm | exact PubL.id _ rfl | exact PubLs.nil _ | apply PubLs.cons)) ?_
    obtain ⟨v2, hv2, h⟩ := bind_eq h
    refine scall1 rfl fn42 (opnds_cons rfl opnds_nil) (pubA_id rfl) (m42_keys_Sorted_c hv2) ?_
    refine sv rfl (opv_as rfl) ?_
    refine snil ?_
    refine cret ?_
    obtain rfl := Option.some.inj h
    refine ⟨Or.inr rfl, _, _, _, (resVs_cons (ResV.tmp _ _ rfl) resVs_nil), (pubA_id rfl), ?_⟩
    rfl
  · skip
    refine cblock ?_
    obtain ⟨x3, hx3, ho3⟩ := bind_eq h
    refine awc_loop (G := Nat × (Int × (List (List UInt8)))) (fun g => [(3, .s (.one (.ls 0 g.2.2.length))), (6, .s (.one (.sl a0.length (a0.flatMap eGApiKV)))), (7, .s (.one (.i .i64 (a0.length : Int)))), (8, .s (.one (.i .i64 g.2.1)))]) (fun g => [.arr 42 1 0 (g.2.2.flatMap (eL eU8))]) (fun g => iterB (m71_buffer_risen_s3 a0) g.1 g.2 = some x3) (fun g => g.1) (fuel, (0, ([] : List (List UInt8)))) hx3 ⟨rfl, rfl, rfl, rfl, trivial⟩ [] rfl (fun _ _ => inbL_of rfl) (fun _ _ => blkinb_of rfl) (fun _ _ => Nat.le_of_ble_eq_true rfl) ?_
    clear hx3 h
    rintro ⟨n3, s3⟩ h
    obtain ⟨n3, y3, rfl, h, hk3⟩ := iterB_eq h
    unfold m71_buffer_risen_s3 at h
    refine cseq ?_
    refine cregion ?_
    refine sv rfl (opv_lss rfl rfl) ?_
    refine snil ?_
    refine cseq ?_
    refine ccond rfl (fun hc => ?_) (fun hc => ?_)
    · replace h := ite_t hc h
      clear hc
      refine cskip ?_
      refine then_normal ?_
      refine cseq ?_
      refine cblock ?_
      refine cseq ?_
      refine cregion ?_
      obtain ⟨u4, hu4, h⟩ := bind_eq h
      refine sv rfl (opv_ix (f := eGApiKV) si25 (fun _ => rfl) rfl rfl rfl rfl hu4) ?_
      refine sv rfl (opv_loadNe (ys := [.sl u4.Key.length (u4.Key.flatMap eU8), .sl u4.Val.length (u4.Val.flatMap eU8)]) ti65 rfl (.cp _) rfl rfl) ?_
      refine salloc rfl zi65 ?_
      refine sstore sz65 rfl rfl rfl rfl (Nat.le_of_ble_eq_true rfl) ?_
      refine smem [.arr 42 1 0 (s3.2.flatMap (eL eU8)), .box u4] rfl ?_
      refine snil ?_
      refine cregion ?_
      refine sv rfl (opv_mv rfl) ?_
      refine sv rfl (opv_fieldAddr_lp fi65_0 rfl) ?_
      refine sv rfl (opv_load1 ti42 rfl (.lp _ _ _ rfl) rfl) ?_
      refine sbuild1 rfl Try.underlying98 ei42 rfl rfl (List.all_eq_true.1 rfl) (by decide) ?_
      refine smem [.arr 42 1 0 (s3.2.flatMap (eL eU8)), .box u4, .arr 42 1 0 ([u4.Key].flatMap (eL eU8))] rfl ?_
      obtain ⟨hb5, h⟩ := chk_eq h
      refine sapp (f := (eL eU8)) (xs := s3.2) (us := [u4.Key]) rfl Try.underlying98 ei42 ni98 (fun _ => rfl) rfl rfl (.one _ _ _ _ (.ls _ _ _ _ _ _ rfl (flat_len (f := (eL eU8)) (fun _ => rfl) [u4.Key]).symm)) rfl rfl rfl (.sl _ _ _ (flat_len (f := (eL eU8)) (fun _ => rfl) _)) rfl rfl hb5 (by decide) ?_
      refine sv rfl (opv_as rfl) ?_
      refine snil0 ?_
      refine block_normal ?_
      refine then_normal ?_
      refine cregion ?_
      refine sv rfl (opv_add rfl rfl) ?_
      refine sv rfl (opv_mv rfl) ?_
      refine snil ?_
      obtain rfl := Option.some.inj h
      exact ⟨(n3, ((wI (s3.1 + 1)), (s3.2 ++ [u4.Key]))), _, hk3, ⟨rfl, rfl, rfl, rfl, trivial⟩, rfl, Nat.lt_succ_self _⟩
    · replace h := ite_f hc h
      clear hc
      refine cexit ?_
      refine then_exit ?_
      refine then_exit ?_
      refine block_hit ?_
      refine then_normal ?_
      obtain rfl := Option.some.inj h
      obtain rfl : _ = x3 := hk3
      exact ⟨s3.2, _, ho3, ⟨rfl, trivial⟩, rfl⟩

def m72_keys_Has (a0 : GApiRange) (a1 : List UInt8) : Option Bool :=
  (m57_keys_Cmp a1 a0.Lo).bind fun v1 => if (decide (0 ≤ v1)) then (if a0.Open then (some true) else ((m57_keys_Cmp a1 a0.Hi).bind fun v2 => some (decide (v2 < 0)))) else (some false)

set_option maxRecDepth 100000 in
theorem m72_keys_Has_c {a0 : GApiRange} {a1 : List UInt8} {r : Bool} (h : m72_keys_Has a0 a1 = some r) : CallsA Try.prog 72 [.agg a0, .one (.sl a1.length (a1.flatMap eU8))] (· = .s (.one (.b r))) := by
  unfold m72_keys_Has at h
  refine callsA_of Try.func72 rfl (nt := 21) rfl (Nat.le_of_ble_eq_true rfl) ?_
  intro w0 S0
  refine cseq ?_
  refine cregion ?_
  refine sbox rfl rfl ?_
  refine sv rfl (opv_as rfl) ?_
  refine snil ?_
  refine cseq ?_
  refine cregion ?_
  refine sv rfl (opv_mv rfl) ?_
  refine sv rfl (opv_fieldAddr_lp fi44_0 rfl) ?_
  refine sv rfl (opv_load1 ti42 rfl (.lp _ _ _ rfl) rfl) ?_
  obtain ⟨v1, hv1, h⟩ := bind_eq h
  refine scall1 rfl fn57 (opnds_cons rfl (opnds_cons rfl opnds_nil)) (pubA_id rfl) (m57_keys_Cmp_c hv1) ?_
  refine sv rfl (opv_geq rfl rfl) ?_
  refine sv rfl (opv_mv rfl) ?_
  refine ssplit 10 rfl (fun hc => ?_) (fun hc => ?_)
  · replace h := ite_t hc h
    clear hc
    refine son rfl rfl rfl ?_
    refine sv rfl (opv_fieldAddr_lp fi44_2 rfl) ?_
    refine son rfl rfl rfl ?_
    refine sv rfl (opv_load1 ti4 rfl (.lp _ _ _ rfl) rfl) ?_
    refine son rfl rfl rfl ?_
    refine sv rfl (opv_mv rfl) ?_
    refine ssplit 13 rfl (fun hc => ?_) (fun hc => ?_)
    · replace h := ite_t hc h
      clear hc
      refine soff rfl rfl rfl rfl ?_
      refine soff rfl rfl rfl rfl ?_
      refine soff rfl rfl rfl rfl ?_
      refine soff rfl rfl rfl rfl ?_
      refine soff rfl rfl rfl rfl ?_
      refine son rfl rfl rfl ?_
      refine sv rfl (opv_pick_t rfl rfl) ?_
      refine sv rfl (opv_pick_t rfl rfl) ?_
      refine sv rfl (opv_as rfl) ?_
      refine snil ?_
      refine cret ?_
      obtain rfl := Option.some.inj h
      refine ⟨Or.inr rfl, _, _, _, (resVs_cons (ResV.tmp _ _ rfl) resVs_nil), (pubA_id rfl), ?_⟩
      rfl
    · replace h := ite_f hc h
      clear hc
      refine son rfl rfl rfl ?_
      refine sv rfl (opv_mv rfl) ?_
      refine son rfl rfl rfl ?_
      refine sv rfl (opv_fieldAddr_lp fi44_1 rfl) ?_
      refine son rfl rfl rfl ?_
      refine sv rfl (opv_load1 ti42 rfl (.lp _ _ _ rfl) rfl) ?_
      refine son rfl rfl rfl ?_
      obtain ⟨v2, hv2, h⟩ := bind_eq h
      refine scall1 rfl fn57 (opnds_cons rfl (opnds_cons rfl opnds_nil)) (pubA_id rfl) (m57_keys_Cmp_c hv2) ?_
      refine son rfl rfl rfl ?_
      refine sv rfl (opv_lss rfl rfl) ?_
      refine son rfl rfl rfl ?_
      refine sv rfl (opv_pick_f rfl rfl) ?_
      refine sv rfl (opv_pick_t rfl rfl) ?_
      refine sv rfl (opv_as rfl) ?_
      refine snil ?_
      refine cret ?_
      obtain rfl := Option.some.inj h
      refine ⟨Or.inr rfl, _, _, _, (resVs_cons (ResV.tmp _ _ rfl) resVs_nil), (pubA_id rfl), ?_⟩
      rfl
  · replace h := ite_f hc h
    clear hc
    refine soff rfl rfl rfl rfl ?_
    refine soff rfl rfl rfl rfl ?_
    refine soff rfl rfl rfl rfl ?_
    refine soffu rfl rfl rfl ?_
    refine soffu rfl rfl rfl ?_
    refine soffu rfl rfl rfl ?_
    refine soffu rfl rfl rfl ?_
    refine soffu rfl rfl rfl ?_
    refine soff rfl rfl rfl rfl ?_
    refine sv rfl (opv_pick_f rfl rfl) ?_
    refine sv rfl (opv_as rfl) ?_
    refine snil ?_
    refine cret ?_
    obtain rfl := Option.some.inj h
    refine ⟨Or.inr rfl, _, _, _, (resVs_cons (ResV.tmp _ _ rfl) resVs_nil), (pubA_id rfl), ?_⟩
    rfl

def kvk (x : GApiKV) : List UInt8 := x.Key
def kB (x : GApiKV) : ByteArray := ⟨x.Key.toArray⟩
theorem kB_get {t : List GApiKV} {j : Nat} {k : List UInt8} (h : (t.map kB)[j]? = some ⟨k.toArray⟩) : (t.map kvk)[j]? = some k := by
  rw [List.getElem?_map] at h ⊢
  cases ht : t[j]? with
  | none => rw [ht] at h; cases h
  | some x =>
    rw [ht] at h
    have h1 : (⟨x.Key.toArray⟩ : ByteArray) = ⟨k.toArray⟩ := Option.some.inj h
    have h2 : x.Key.toArray = k.toArray := congrArg ByteArray.data h1
    have h3 : x.Key = k := by have := congrArg Array.toList h2; simpa using this
    rw [Option.map_some]; exact congrArg some h3
theorem kB_mem {t : List GApiKV} {k : List UInt8} (h : (⟨k.toArray⟩ : ByteArray) ∉ t.map kB) : k ∉ t.map kvk := fun hk => by
  obtain ⟨x, hx, rfl⟩ := List.mem_map.1 hk
  exact h (List.mem_map.2 ⟨x, hx, rfl⟩)
theorem kB_set {t : List GApiKV} {j : Nat} {x : GApiKV} (h : (t.map kvk)[j]? = some (kvk x)) : (t.set j x).map kB = t.map kB := by
  rw [List.map_set]
  apply List.ext_getElem?
  intro i
  rw [List.getElem?_set]
  by_cases hij : j = i
  · subst hij
    rw [List.getElem?_map] at h ⊢
    cases ht : t[j]? with
    | none => rw [ht] at h; cases h
    | some y =>
      rw [ht] at h
      have h2 : y.Key = x.Key := Option.some.inj h
      have hlt : j < t.length := (List.getElem?_eq_some_iff.1 ht).1
      rw [if_pos rfl, if_pos (by simpa using hlt), Option.map_some]
      show some (ByteArray.mk x.Key.toArray) = some (ByteArray.mk y.Key.toArray)
      rw [h2]
  · rw [if_neg hij]

theorem ext81 {W : World} {S : Stab} {a b : List UInt8} {va vb : Value} (h1 : Rep W S (.sl a.length (a.flatMap eU8)) va) (h2 : Rep W S (.sl b.length (b.flatMap eU8)) vb) : (callFunc 81 #[va, vb]).run Try.prog W = .ok (.value (.int .i64 (cmpL a b))) W := by
  rw [← bl_eU8] at h1 h2
  obtain ⟨fn, q1, q2, q3, q4, q5⟩ := xi81.h
  have hrun : (Extern.BytealgCompare.compare #[va, vb]).run Try.prog W = .ok (.int .i64 (cmpL a b)) W := by
    change Sem.run Try.prog (do
      let p ← Extern.Bytes.bytesOf va
      let q ← Extern.Bytes.bytesOf vb
      pure (goInt (Extern.BytealgCompare.cmp p q))) W = _
    simp only [Sem.run_bind, run_bytesOf h1, run_bytesOf h2, Result.andThen_ok, cmp_eq, Sem.run_pure]
    rfl
  have hcall := run_callFunc_extern (P := Try.prog) q1 q2 q3 q4 q5 #[va, vb] W
  rw [hrun] at hcall
  simpa using hcall
theorem call70 {W : World} {S : Stab} {a b : List UInt8} {va vb : Value} (h1 : Rep W S (.sl a.length (a.flatMap eU8)) va) (h2 : Rep W S (.sl b.length (b.flatMap eU8)) vb) : Calls Try.prog 70 #[va, vb] W fun e w' => e = .returned (.int .i64 (cmpL a b)) ∧ w' = W := by
  have hx := ext81 h1 h2
  generalize cmpL a b = r at hx ⊢
  clear h1 h2
  go_enter Try.func70, Try.ntmps70
  go_wp2
  go_ret
  exact ⟨rfl, rfl⟩
theorem call57 {W : World} {S : Stab} {a b : List UInt8} {va vb : Value} (h1 : Rep W S (.sl a.length (a.flatMap eU8)) va) (h2 : Rep W S (.sl b.length (b.flatMap eU8)) vb) : Calls Try.prog 57 #[va, vb] W fun e w' => e = .returned (.int .i64 (cmpL a b)) ∧ w' = W := by
  have hcon := call70 h1 h2
  generalize cmpL a b = r at hcon ⊢
  clear h1 h2
  go_enter Try.func57, Try.ntmps57
  go_wp2_with (go_at_call 70; refine hcon.mono ?_; rintro e w' ⟨rfl, rfl⟩)
  go_ret
  exact ⟨rfl, rfl⟩
set_option maxHeartbeats 1000000 in
theorem byk74 {W : World} {S : Stab} {a b : List UInt8} {va vb ua ub : Value} (hS : ∀ b i, S b i → b < W.heap.size) (h1 : Rep W S (.sl a.length (a.flatMap eU8)) va) (h2 : Rep W S (.sl b.length (b.flatMap eU8)) vb) (oc : ua.oneCell' = true) (od : ub.oneCell' = true) :
    Calls Try.prog 74 #[.agg #[va, ua], .agg #[vb, ub]] W fun e w' => e = .returned (.int .i64 (cmpL a b)) ∧ ∃ q os', w' = Go.Sort.grow (W.drewN q) os' := by
  have oa := h1.oneCell
  have ob := h2.oneCell
  have hcon : ∀ o1 o2 : Obj, Calls Try.prog 57 #[va, vb] ((W.alloc o1).alloc o2) fun e w' => e = .returned (.int .i64 (cmpL a b)) ∧ w' = (W.alloc o1).alloc o2 := fun o1 o2 => by
    have k1 : ∀ b i, S b i → S b i ∧ ((W.alloc o1).alloc o2).cell? ⟨b, i, none⟩ = W.cell? ⟨b, i, none⟩ := fun b i hs =>
      ⟨hs, World.cell?_of_block (w := W) ((Below.heap_alloc _ o2 b (by have := hS b i hs; simp; omega)).trans (Below.heap_alloc W o1 b (hS b i hs)))⟩
    exact call57 (h1.mono k1) (h2.mono k1)
  generalize cmpL a b = r at hcon ⊢
  clear h1 h2
  go_enter Try.func74, Try.ntmps74
  go_wp2_with (go_at_call 57; refine (hcon _ _).mono ?_; rintro e w' ⟨rfl, rfl⟩)
  go_ret
  exact ⟨rfl, 0, _, by rw [Go.Sort.alloc_eq_grow, Go.Sort.alloc_eq_grow, Go.Sort.grow_grow]; rfl⟩

def srt73_ren : Go.Shelf.Ren := ⟨fun | 6 => 73 | 15 => 83 | 14 => 82 | 28 => 93 | 29 => 94 | 20 => 85 | 21 => 86 | 22 => 87 | 23 => 88 | 24 => 89 | 25 => 90 | 26 => 91 | 27 => 92 | 46 => 96 | 47 => 97 | 48 => 98 | 49 => 99 | 50 => 100 | 57 => 101 | n => n, fun | 22 => 25 | 24 => 65 | 25 => 131 | 3 => 3 | 39 => 139 | 0 => 0 | 53 => 124 | 55 => 94 | 4 => 4 | 46 => 142 | 45 => 141 | 50 => 119 | 5 => 5 | 9 => 9 | 66 => 150 | 70 => 154 | 76 => 156 | 77 => 157 | n => n, fun | n => n⟩
theorem srt73 : Go.Proofs.SlLaysF0.n6 Try.prog srt73_ren := {
  mixed := by kernel_rfl,
  f6 :=⟨ "slices.SortFunc[[]godwit/api.KV,godwit/api.KV]", by decide, Try.func73.trans (congrArg some (by kernel_rfl))⟩,
  f14 :=⟨ "slices.pdqsortCmpFunc[godwit/api.KV]", by decide, Try.func82.trans (congrArg some (by kernel_rfl))⟩,
  f15 := Try.func83.trans (congrArg some (by kernel_rfl)),
  f20 :=⟨ "slices.insertionSortCmpFunc[godwit/api.KV]", by decide, Try.func85.trans (congrArg some (by kernel_rfl))⟩,
  f21 :=⟨ "slices.heapSortCmpFunc[godwit/api.KV]", by decide, Try.func86.trans (congrArg some (by kernel_rfl))⟩,
  f22 :=⟨ "slices.breakPatternsCmpFunc[godwit/api.KV]", by decide, Try.func87.trans (congrArg some (by kernel_rfl))⟩,
  f23 :=⟨ "slices.choosePivotCmpFunc[godwit/api.KV]", by decide, Try.func88.trans (congrArg some (by kernel_rfl))⟩,
  f24 :=⟨ "slices.reverseRangeCmpFunc[godwit/api.KV]", by decide, Try.func89.trans (congrArg some (by kernel_rfl))⟩,
  f25 :=⟨ "slices.partialInsertionSortCmpFunc[godwit/api.KV]", by decide, Try.func90.trans (congrArg some (by kernel_rfl))⟩,
  f26 :=⟨ "slices.partitionEqualCmpFunc[godwit/api.KV]", by decide, Try.func91.trans (congrArg some (by kernel_rfl))⟩,
  f27 :=⟨ "slices.partitionCmpFunc[godwit/api.KV]", by decide, Try.func92.trans (congrArg some (by kernel_rfl))⟩,
  f28 := Try.func93.trans (congrArg some (by kernel_rfl)),
  f29 := Try.func94.trans (congrArg some (by kernel_rfl)),
  f46 :=⟨ "slices.siftDownCmpFunc[godwit/api.KV]", by decide, Try.func96.trans (congrArg some (by kernel_rfl))⟩,
  f47 := Try.func97.trans (congrArg some (by kernel_rfl)),
  f48 := Try.func98.trans (congrArg some (by kernel_rfl)),
  f49 :=⟨ "slices.medianAdjacentCmpFunc[godwit/api.KV]", by decide, Try.func99.trans (congrArg some (by kernel_rfl))⟩,
  f50 :=⟨ "slices.medianCmpFunc[godwit/api.KV]", by decide, Try.func100.trans (congrArg some (by kernel_rfl))⟩,
  f57 :=⟨ "slices.order2CmpFunc[godwit/api.KV]", by decide, Try.func101.trans (congrArg some (by kernel_rfl))⟩,
  t0 := Try.underlying0,
  a0 := Try.isAgg0,
  z0 := Try.sizeOf0,
  v0 := Try.zeroValue0,
  t3 := Try.underlying3,
  a3 := Try.isAgg3,
  z3 := Try.sizeOf3,
  v3 := Try.zeroValue3,
  t4 := Try.underlying4,
  a4 := Try.isAgg4,
  z4 := Try.sizeOf4,
  v4 := Try.zeroValue4,
  t5 := Try.underlying5,
  a5 := Try.isAgg5,
  z5 := Try.sizeOf5,
  v5 := Try.zeroValue5,
  t9 := Try.underlying9,
  a9 := Try.isAgg9,
  z9 := Try.sizeOf9,
  v9 := Try.zeroValue9,
  t22 := Try.underlying25,
  a22 := Try.isAgg25,
  z22 := Try.sizeOf25,
  v22 := Try.zeroValue25,
  t25 := Try.underlying131,
  a25 := Try.isAgg131,
  z25 := Try.sizeOf131,
  v25 := Try.zeroValue131,
  t39 := Try.underlying139,
  a39 := Try.isAgg139,
  z39 := Try.sizeOf139,
  v39 := Try.zeroValue139,
  t45 := Try.underlying141,
  a45 := Try.isAgg141,
  z45 := Try.sizeOf141,
  v45 := Try.zeroValue141,
  t46 := Try.underlying142,
  a46 := Try.isAgg142,
  z46 := Try.sizeOf142,
  v46 := Try.zeroValue142,
  t50 := Try.underlying119,
  a50 := Try.isAgg119,
  z50 := Try.sizeOf119,
  v50 := Try.zeroValue119,
  t53 := Try.underlying124,
  a53 := Try.isAgg124,
  z53 := Try.sizeOf124,
  v53 := Try.zeroValue124,
  t55 := Try.underlying94,
  a55 := Try.isAgg94,
  z55 := Try.sizeOf94,
  v55 := Try.zeroValue94,
  t66 := Try.underlying150,
  a66 := Try.isAgg150,
  z66 := Try.sizeOf150,
  v66 := Try.zeroValue150,
  t70 := Try.underlying154,
  a70 := Try.isAgg154,
  z70 := Try.sizeOf154,
  v70 := Try.zeroValue154,
  t76 := Try.underlying156,
  a76 := Try.isAgg156,
  z76 := Try.sizeOf156,
  v76 := Try.zeroValue156,
  t77 := Try.underlying157,
  a77 := Try.isAgg157,
  z77 := Try.sizeOf157,
  v77 := Try.zeroValue157 }

theorem sort73_B {xs : List GApiKV} (hn : xs.length ≤ 1000000000000000000) (hd : DistK kvk xs) : CallsB Try.prog 73 [.arr 65 2 0 (xs.flatMap eGApiKV)] [.one (.ls 0 xs.length), .one (.raw (.func (.func 74) #[] #[]))] (fun y m' => y = .tup [] ∧ m' = [.arr 65 2 0 ((srtK kvk xs).flatMap eGApiKV)]) :=
  sort_B (ρ := srt73_ren) (f := eGApiKV) (g := 74) srt73 (fun a b => cmpL (kvk a) (kvk b)) (fun _ => rfl) (by decide) Try.isAgg65 Try.sizeOf65 swoK (enters_of Try.func74 (by kernel_rfl) rfl) (fun W S x y vx vy hS hx hy => by
    obtain ⟨v0, u0, rfl⟩ : ∃ v0 u0, vx = [v0, u0] := by
      match vx, hx.1 with
      | [a, b], _ => exact ⟨a, b, rfl⟩
    obtain ⟨v1, u1, rfl⟩ : ∃ v1 u1, vy = [v1, u1] := by
      match vy, hy.1 with
      | [a, b], _ => exact ⟨a, b, rfl⟩
    exact byk74 hS (hx.2 0 _ _ rfl rfl) (hy.2 0 _ _ rfl rfl) (hx.2 1 _ _ rfl rfl).oneCell (hy.2 1 _ _ rfl rfl).oneCell) hn (sortK_uniq hd)

def overs1 (a1 : List GApiKV) (a2 : GApiRange) (s : Int × List GApiKV) : Option (LB (Int × List GApiKV) (List GApiKV)) :=
  if decide (s.1 < (a1.length : Int)) then ((idx a1 s.1).bind fun u => (m72_keys_Has a2 u.Key).bind fun v => some (.cont (wI (s.1 + 1), if v then mputK kvk s.2 u else s.2))) else some (.brk s.2)
def overs2 (a0 : GBufferBuf) (a2 : GApiRange) (s : Int × List GApiKV) : Option (LB (Int × List GApiKV) (List GApiKV)) :=
  if decide (s.1 < (a0.L.length : Int)) then ((idx a0.L s.1).bind fun u => if u.Del then some (.cont (wI (s.1 + 1), mdelK kvk s.2 u.Key)) else (m72_keys_Has a2 u.Key).bind fun v => some (.cont (wI (s.1 + 1), if v then mputK kvk s.2 ⟨u.Key, u.Val⟩ else s.2))) else some (.brk s.2)
def overk2 (a3 : Int) (t : List GApiKV) : Option (List GApiKV) :=
  if t.length * 48 ≤ 140737488355328 then cut (srtK kvk t) 0 (if a3 < ((srtK kvk t).length : Int) then a3 else ((srtK kvk t).length : Int)) else none
def overk1 (a0 : GBufferBuf) (a2 : GApiRange) (a3 : Int) (t : List GApiKV) : Option (List GApiKV) := (iterB (overs2 a0 a2) fuel (0, t)).bind fun t2 => overk2 a3 t2
def m58_buffer_Over (a0 : GBufferBuf) (a1 : List GApiKV) (a2 : GApiRange) (a3 : Int) : Option (List GApiKV) :=
  (m59_buffer_Sane a0).bind fun v1 => if !v1 then some [] else (m71_buffer_risen a1).bind fun v2 => if !v2 then some [] else if decide (a3 < 1) then some [] else (iterB (overs1 a1 a2) fuel (0, [])).bind fun t1 => overk1 a0 a2 a3 t1

theorem m58_buffer_Over_c {a0 : GBufferBuf} {a1 : List GApiKV} {a2 : GApiRange} {a3 : Int} {r : List GApiKV} (h : m58_buffer_Over a0 a1 a2 a3 = some r) :
    CallsA Try.prog 58 [.agg [.sl a0.L.length (a0.L.flatMap eGApiWrite)], .one (.sl a1.length (a1.flatMap eGApiKV)), .agg a2, .one (.i .i64 a3)] (· = .s (.one (.sl r.length (r.flatMap eGApiKV)))) := by
  unfold m58_buffer_Over at h
  refine callsA_of Try.func58 rfl (nt := 91) rfl (Nat.le_of_ble_eq_true rfl) ?_
  intro w0 S0
  refine cseq ?_
  refine cregion ?_
  refine sbox rfl rfl ?_
  refine sbox rfl rfl ?_
  refine sv rfl (opv_as rfl) ?_
  refine snil ?_
  refine cseq ?_
  refine cseq ?_
  refine cregion ?_
  refine sv rfl (opv_loadN ti76 rfl (.lp _ _ _ rfl) (Nat.le_of_ble_eq_true rfl)) ?_
  obtain ⟨v1, hv1, h⟩ := bind_eq h
  refine scall1 rfl fn59 (opnds_cons rfl opnds_nil) (pubA_id rfl) (m59_buffer_Sane_c hv1) ?_
  refine sv rfl (opv_not rfl) ?_
  refine sv rfl (opv_mv rfl) ?_
  refine ssplit 20 rfl (fun hc => ?_) (fun hc => ?_)
  · replace h := ite_t hc h
    clear hc
    refine soff rfl rfl rfl rfl ?_
    refine soff rfl rfl rfl rfl ?_
    refine soff rfl rfl rfl rfl ?_
    refine sv rfl (opv_pick_t rfl rfl) ?_
    refine sv rfl (opv_mv rfl) ?_
    refine soff rfl rfl rfl rfl ?_
    refine soff rfl rfl rfl rfl ?_
    refine sv rfl (opv_pick_t rfl rfl) ?_
    refine snil ?_
    refine ccond rfl (fun hc => ?_) (fun hc => nomatch hc)
    refine cseq ?_
    refine cregion ?_
    refine sv rfl (opv_as rfl) ?_
    refine snil ?_
    refine cret ?_
    refine then_ret ?_
    obtain rfl := Option.some.inj h
    refine ⟨Or.inr rfl, _, _, _, (resVs_cons (ResV.tmp _ _ rfl) resVs_nil), (pubC rfl), ?_⟩
    rfl
  replace h := ite_f hc h
  clear hc
  refine son rfl rfl rfl ?_
  refine sv rfl (opv_mv rfl) ?_
  refine son rfl rfl rfl ?_
  obtain ⟨v2, hv2, h⟩ := bind_eq h
  refine scall1 rfl fn71 (opnds_cons rfl opnds_nil) (pubA_id rfl) (m71_buffer_risen_c hv2) ?_
  refine son rfl rfl rfl ?_
  refine sv rfl (opv_not rfl) ?_
  refine sv rfl (opv_pick_f rfl rfl) ?_
  refine sv rfl (opv_mv rfl) ?_
  refine ssplit 25 rfl (fun hc => ?_) (fun hc => ?_)
  · replace h := ite_t hc h
    clear hc
    refine soff rfl rfl rfl rfl ?_
    refine soff rfl rfl rfl rfl ?_
    refine sv rfl (opv_pick_t rfl rfl) ?_
    refine snil ?_
    refine ccond rfl (fun hc => ?_) (fun hc => nomatch hc)
    refine cseq ?_
    refine cregion ?_
    refine sv rfl (opv_as rfl) ?_
    refine snil ?_
    refine cret ?_
    refine then_ret ?_
    obtain rfl := Option.some.inj h
    refine ⟨Or.inr rfl, _, _, _, (resVs_cons (ResV.tmp _ _ rfl) resVs_nil), (pubC rfl), ?_⟩
    rfl
  replace h := ite_f hc h
  clear hc
  refine son rfl rfl rfl ?_
  refine sv rfl (opv_mv rfl) ?_
  refine son rfl rfl rfl ?_
  refine sv rfl (opv_lss rfl rfl) ?_
  refine sv rfl (opv_pick_f rfl rfl) ?_
  refine snil ?_
  refine ccond rfl (fun hc => ?_) (fun hc => ?_)
  · replace h := ite_t hc h
    refine cseq ?_
    refine cregion ?_
    refine sv rfl (opv_as rfl) ?_
    refine snil ?_
    refine cret ?_
    refine then_ret ?_
    obtain rfl := Option.some.inj h
    refine ⟨Or.inr rfl, _, _, _, (resVs_cons (ResV.tmp _ _ rfl) resVs_nil), (pubC rfl), ?_⟩
    rfl
  replace h := ite_f hc h
  clear hc
  refine cskip ?_
  refine then_normal ?_
  refine cseq ?_
  refine cregion ?_
  refine smakemap vagg rfl (fun g => ?_)
  refine sv rfl (opv_as rfl) ?_
  refine snil ?_
  refine cseq ?_
  refine cseq ?_
  refine cregion ?_
  refine sv rfl (opv_mv rfl) ?_
  refine sv rfl (opv_len_sl si25 rfl) ?_
  refine sv rfl (opv_mv rfl) ?_
  refine snil ?_
  refine cjoin (List GApiKV × List GApiKV) (fun _ => [(4, .s (.one (.lp 0 0))), (6, .s (.one (.lp 1 0))), (3, .s (.one (.i .i64 a3))), (9, .s (.one (.raw (.map (some g)))))]) (fun b => [.box [.sl a0.L.length (a0.L.flatMap eGApiWrite)], .box a2, .obj g (mkMap vagg ((b.2.map kB).map .string)) (b.2.map eGApiKV)]) (fun b => b.2.Perm b.1 ∧ DistK kvk b.2 ∧ overk1 a0 a2 a3 b.1 = some r) (fun _ _ => inbL_of rfl) (fun _ _ => blkinb_of rfl) (fun _ _ => Nat.le_of_ble_eq_true rfl) (fun b h => ?_) ?_
  · obtain ⟨t1, t1'⟩ := b
    obtain ⟨hp1, hd1, h⟩ := h
    dsimp only at hp1 hd1 h
    unfold overk1 at h
    refine cseq ?_
    refine cseq ?_
    refine cregion ?_
    refine sv rfl (opv_fieldAddr_lp fi76_0 rfl) ?_
    refine sv rfl (opv_load1 ti74 rfl (.lp _ _ _ rfl) rfl) ?_
    refine sv rfl (opv_len_sl si74 rfl) ?_
    refine sv rfl (opv_mv rfl) ?_
    refine snil ?_
    refine cjoin (List GApiKV × List GApiKV) (fun _ => [(3, .s (.one (.i .i64 a3))), (9, .s (.one (.raw (.map (some g)))))]) (fun b => [.box [.sl a0.L.length (a0.L.flatMap eGApiWrite)], .box a2, .obj g (mkMap vagg ((b.2.map kB).map .string)) (b.2.map eGApiKV)]) (fun b => b.2.Perm b.1 ∧ DistK kvk b.2 ∧ overk2 a3 b.1 = some r) (fun _ _ => inbL_of rfl) (fun _ _ => blkinb_of rfl) (fun _ _ => Nat.le_of_ble_eq_true rfl) (fun b h => ?_) ?_
    · obtain ⟨t2, t2'⟩ := b
      obtain ⟨hp2, hd2, h⟩ := h
      dsimp only at hp2 hd2 h
      unfold overk2 at h
      obtain ⟨hb2, h⟩ := chk_eq h
      have hb2' : t2'.length * 48 ≤ 140737488355328 := by rw [hp2.length_eq]; exact hb2
      refine cseq ?_
      refine cregion ?_
      refine sv rfl (opv_as rfl) ?_
      refine snil ?_
      refine cseq ?_
      refine cseq ?_
      refine cregion ?_
      refine sv rfl (opv_mv rfl) ?_
      refine smaprange (p := 2) rfl Try.underlying129 rfl rfl (fun es clock q hst hks hsz => ?_)
      refine snil ?_
      refine sadopt_c 65 2 14 (by decide) rfl ?_
      have hes : es.size = t2'.length := by rw [hsz, List.length_map]
      obtain ⟨hs1, hs2, _⟩ := (Go.MapKept.stamped_iff es clock).1 hst
      refine cjoin (Array Nat × List GApiKV) (fun b => [(3, .s (.one (.i .i64 a3))), (14, .s (.one (.ls 4 b.2.length)))]) (fun b => [.box [.sl a0.L.length (a0.L.flatMap eGApiWrite)], .box a2, .obj g (mkFix vagg es clock) (t2'.map eGApiKV), .obj q (mkIt g clock b.1 clock) [], .arr 65 2 0 (b.2.flatMap eGApiKV)]) (fun b => b.2.Perm t2') (fun _ _ => inbL_of rfl) (fun _ _ => blkinb_of rfl) (fun _ _ => Nat.le_of_ble_eq_true rfl) (fun b hpo => ?_) ?_
      · obtain ⟨seen, out⟩ := b
        dsimp only at hpo
        have hol : out.length = t2'.length := hpo.length_eq
        have hdo : DistK kvk out := (DistK.perm hpo).2 hd2
        have he : srtK kvk out = srtK kvk t2 := srtK_congr (hpo.trans hp2) hdo
        have hlen : (srtK kvk out).length = out.length := (srtK_perm out).length_eq
        have hlen2 : out.length * 2 = ((srtK kvk out).flatMap eGApiKV).length := by rw [← hlen]; exact (flat_len (f := eGApiKV) (fun _ => rfl) _).symm
        rw [← he, hlen] at h
        refine cseq ?_
        refine cregion ?_
        refine sv rfl (opv_mv rfl) ?_
        refine scallB (x' := .tup []) (M' := [.box [.sl a0.L.length (a0.L.flatMap eGApiWrite)], .box a2, .obj g (mkFix vagg es clock) (t2'.map eGApiKV), .obj q (mkIt g clock seen clock) [], .arr 65 2 0 ((srtK kvk out).flatMap eGApiKV)]) [4] rfl fn73 (.func _) (opnds_cons rfl (opnds_cons rfl opnds_nil)) (sort73_B (xs := out) (by omega) hdo) rfl rfl (by decide) rfl rfl rfl ?_
        refine snil ?_
        refine cseq ?_
        refine cregion ?_
        refine sv rfl (opv_mv rfl) ?_
        refine sv rfl (opv_mv rfl) ?_
        refine sv rfl (opv_len_ls si25 rfl rfl hlen2) ?_
        refine sv rfl (opv_mv rfl) ?_
        refine sv rfl (opv_min rfl rfl) ?_
        refine spub 85 rfl (PubV.one _ _ _ _ (PubL.ls _ _ _ _ _ _ rfl hlen2)) ?_
        refine sv rfl (opv_cut (f := eGApiKV) (lo := 0) (hi := (if a3 < (out.length : Int) then a3 else (out.length : Int))) si25 (fun _ => rfl) rfl rfl hlen.symm bound_none (bound_some rfl (Int.le_trans (cut_eq h).1.1 (cut_eq h).1.2.1)) h) ?_
        refine sv rfl (opv_as rfl) ?_
        refine snil ?_
        refine cret ?_
        refine ⟨Or.inr rfl, _, _, _, (resVs_cons (ResV.tmp _ _ rfl) resVs_nil), (pubA_id rfl), ?_⟩
        rfl
      · refine cblock ?_
        refine awc_loop (G := Array Nat × List Nat) (fun b => [(3, .s (.one (.i .i64 a3))), (14, .s (.one (.ls 4 (b.2.filterMap (t2'[·]?)).length))), (74, .s (.one (.raw (.pointer (some ⟨q, 0, none⟩)))))]) (fun b => [.box [.sl a0.L.length (a0.L.flatMap eGApiWrite)], .box a2, .obj g (mkFix vagg es clock) (t2'.map eGApiKV), .obj q (mkIt g clock b.1 clock) [], .arr 65 2 0 ((b.2.filterMap (t2'[·]?)).flatMap eGApiKV)]) (fun b => b.2.Nodup ∧ (∀ j ∈ b.2, j < t2'.length) ∧ (∀ (j : Nat) e, es[j]? = some e → (b.1.contains e.born = true ↔ j ∈ b.2)) ∧ b.2.length + (leftOf es b.1).size ≤ es.size) (fun b => (leftOf es b.1).size) (#[], []) ⟨List.nodup_nil, fun j hj => by simp at hj, fun j e _ => ⟨fun h => by simp at h, fun h => by simp at h⟩, by show 0 + (leftOf es #[]).size ≤ es.size; rw [Nat.zero_add]; exact Array.size_filter_le ..⟩ ⟨rfl, rfl, rfl, trivial⟩ [] rfl (fun _ _ => inbL_of rfl) (fun _ _ => blkinb_of rfl) (fun _ _ => Nat.le_of_ble_eq_true rfl) ?_
        rintro ⟨seen, picks⟩ ⟨hnd, hlt, hsn, hmu⟩
        dsimp only at hnd hlt hsn hmu
        refine cseq ?_
        refine cregion ?_
        refine smapnext (p := 2) (pi := 3) (ss := t2'.map kB) rfl rfl rfl rfl hs1 (Nat.le_refl _) hks (fun h0 => ?_) (fun j e s cs hj he hs hcs => ?_)
        · refine sv rfl (opv_extract rfl rfl) ?_
          refine snil ?_
          refine cseq ?_
          refine ccond rfl (fun hc => nomatch hc) (fun _ => ?_)
          refine cexit ?_
          refine then_exit ?_
          refine then_exit ?_
          refine block_hit ?_
          refine then_normal ?_
          refine ⟨(seen, picks.filterMap (t2'[·]?)), _, ?_, ⟨rfl, rfl, trivial⟩, rfl⟩
          refine picks_perm hnd hlt fun j hj => ?_
          have hj' : j < es.size := by rw [hes]; exact hj
          exact (hsn j es[j] (Array.getElem?_eq_getElem hj')).1 (all_seen es seen h0 _ (by simp))
        · obtain ⟨x, hx, rfl⟩ : ∃ x, t2'[j]? = some x ∧ cs = eGApiKV x := by
            rw [List.getElem?_map] at hcs
            cases hx : t2'[j]? with
            | none => rw [hx] at hcs; cases hcs
            | some x => rw [hx] at hcs; exact ⟨x, rfl, (Option.some.inj hcs).symm⟩
          have hns := (mem_left he).2
          have hjn : j ∉ picks := fun h => by rw [(hsn j e hj).2 h] at hns; cases hns
          have hsh := left_shrinks es seen e he
          have hpl : (picks.filterMap (t2'[·]?)).length ≤ picks.length := List.length_filterMap_le ..
          refine sv rfl (opv_extract rfl rfl) ?_
          refine snil ?_
          refine cseq ?_
          refine ccond rfl (fun _ => ?_) (fun hc => nomatch hc)
          refine cskip ?_
          refine then_normal ?_
          refine cblock ?_
          refine cseq ?_
          refine cregion ?_
          refine smapentry (p := 2) (pi := 3) (j := j) rfl rfl rfl rfl hs2 hks hj hs (by rw [List.getElem?_map, hx]; rfl) ?_
          refine sv rfl (opv_extract rfl rfl) ?_
          refine salloc rfl zi65 ?_
          refine sstore sz65 rfl rfl rfl rfl (Nat.le_of_ble_eq_true rfl) ?_
          refine smem [.box [.sl a0.L.length (a0.L.flatMap eGApiWrite)], .box a2, .obj g (mkFix vagg es clock) (t2'.map eGApiKV), .obj q (mkIt g clock (seen.push e.born) clock) [], .arr 65 2 0 ((picks.filterMap (t2'[·]?)).flatMap eGApiKV), .box x] rfl ?_
          refine snil ?_
          refine cregion ?_
          refine sv rfl (opv_mv rfl) ?_
          refine sv rfl (opv_loadN ti65 rfl (.lp _ _ _ rfl) (Nat.le_of_ble_eq_true rfl)) ?_
          refine sbuild1 rfl Try.underlying25 ei65 rfl rfl (List.all_eq_true.1 rfl) (by decide) ?_
          refine smem [.box [.sl a0.L.length (a0.L.flatMap eGApiWrite)], .box a2, .obj g (mkFix vagg es clock) (t2'.map eGApiKV), .obj q (mkIt g clock (seen.push e.born) clock) [], .arr 65 2 0 ((picks.filterMap (t2'[·]?)).flatMap eGApiKV), .box x, .arr 65 2 0 ([x].flatMap eGApiKV)] rfl ?_
          refine sapp (f := eGApiKV) (xs := picks.filterMap (t2'[·]?)) (us := [x]) rfl Try.underlying25 ei65 ni25 (fun _ => rfl) rfl rfl (.one _ _ _ _ (.ls _ _ _ _ _ _ rfl (flat_len (f := eGApiKV) (fun _ => rfl) [x]).symm)) rfl rfl rfl (.sl _ _ _ (flat_len (f := eGApiKV) (fun _ => rfl) _)) rfl rfl (by rw [List.length_singleton]; omega) (by decide) ?_
          refine sv rfl (opv_as rfl) ?_
          refine snil0 ?_
          refine block_normal ?_
          have hfm : (picks ++ [j]).filterMap (t2'[·]?) = picks.filterMap (t2'[·]?) ++ [x] := by
            rw [List.filterMap_append]
            simp [hx]
          refine ⟨(seen.push e.born, picks ++ [j]), _, ⟨?_, ?_, ?_, ?_⟩, ⟨rfl, by show _ = AV.s (.one (.ls 4 ((picks ++ [j]).filterMap (t2'[·]?)).length)); rw [hfm]; rfl, rfl, trivial⟩, by show _ = [_, _, _, _, Blk.arr 65 2 0 (((picks ++ [j]).filterMap (t2'[·]?)).flatMap eGApiKV)] ++ _; rw [hfm]; rfl, hsh⟩
          · rw [List.nodup_append]
            exact ⟨hnd, by simp, fun a ha b hb => by rw [List.mem_singleton.1 hb]; exact fun e => hjn (e ▸ ha)⟩
          · intro k hk
            rcases List.mem_append.1 hk with hk | hk
            · exact hlt k hk
            · rw [List.mem_singleton.1 hk]; exact (List.getElem?_eq_some_iff.1 hx).1
          · intro k e' hk
            rw [List.mem_append, List.mem_singleton, ← born_at hs2 hk hj, ← hsn k e' hk]; simp [or_comm]
          · rw [List.length_append, List.length_singleton]
            have : (leftOf es (seen.push e.born)).size + 1 ≤ (leftOf es seen).size := hsh
            dsimp only
            omega
    · refine cblock ?_
      obtain ⟨x2, hx2, ho2⟩ := bind_eq h
      refine awc_loop (G := Nat × (Int × List GApiKV) × List GApiKV) (fun q => [(6, .s (.one (.lp 1 0))), (3, .s (.one (.i .i64 a3))), (9, .s (.one (.raw (.map (some g))))), (47, .s (.one (.sl a0.L.length (a0.L.flatMap eGApiWrite)))), (48, .s (.one (.i .i64 (a0.L.length : Int)))), (49, .s (.one (.i .i64 q.2.1.1)))]) (fun q => [.box [.sl a0.L.length (a0.L.flatMap eGApiWrite)], .box a2, .obj g (mkMap vagg ((q.2.2.map kB).map .string)) (q.2.2.map eGApiKV)]) (fun q => iterB (overs2 a0 a2) q.1 q.2.1 = some x2 ∧ q.2.2.Perm q.2.1.2 ∧ DistK kvk q.2.2) (fun q => q.1) (fuel, (0, t1), t1') ⟨hx2, hp1, hd1⟩ ⟨rfl, rfl, rfl, rfl, rfl, rfl, trivial⟩ [] rfl (fun _ _ => inbL_of rfl) (fun _ _ => blkinb_of rfl) (fun _ _ => Nat.le_of_ble_eq_true rfl) ?_
      clear hx2 h hp1 hd1
      rintro ⟨n, ⟨i, t⟩, t'⟩ ⟨h, hp, hd⟩
      dsimp only at hp hd
      obtain ⟨n, y, rfl, h, hk⟩ := iterB_eq h
      unfold overs2 at h
      dsimp only at h
      refine cseq ?_
      refine cregion ?_
      refine sv rfl (opv_lss rfl rfl) ?_
      refine snil ?_
      refine cseq ?_
      refine ccond rfl (fun hc => ?_) (fun hc => ?_)
      · replace h := ite_t hc h
        clear hc
        refine cskip ?_
        refine then_normal ?_
        refine cseq ?_
        refine cblock ?_
        refine cseq ?_
        refine cregion ?_
        obtain ⟨u, hu, h⟩ := bind_eq h
        refine sv rfl (opv_ix (f := eGApiWrite) si74 (fun _ => rfl) rfl rfl rfl rfl hu) ?_
        refine sv rfl (opv_loadNe (ys := [.sl u.Key.length (u.Key.flatMap eU8), .sl u.Val.length (u.Val.flatMap eU8), .b u.Del]) ti88 rfl (.cp _) rfl rfl) ?_
        refine salloc rfl zi88 ?_
        refine sstore sz88 rfl rfl rfl rfl (Nat.le_of_ble_eq_true rfl) ?_
        refine smem [.box [.sl a0.L.length (a0.L.flatMap eGApiWrite)], .box a2, .obj g (mkMap vagg ((t'.map kB).map .string)) (t'.map eGApiKV), .box u] rfl ?_
        refine snil ?_
        refine cseq ?_
        refine cregion ?_
        refine sv rfl (opv_fieldAddr_lp fi88_2 rfl) ?_
        refine sv rfl (opv_load1 ti4 rfl (.lp _ _ _ rfl) rfl) ?_
        refine snil ?_
        refine ccond rfl (fun hc => ?_) (fun hc => ?_)
        · replace h := ite_t hc h
          clear hc
          obtain rfl := Option.some.inj h
          clear h
          refine cregion ?_
          refine sv rfl (opv_mv rfl) ?_
          refine sv rfl (opv_fieldAddr_lp fi88_0 rfl) ?_
          refine sv rfl (opv_load1 ti42 rfl (.lp _ _ _ rfl) rfl) ?_
          refine sv rfl (opv_bs (l := u.Key) Try.underlying42 Try.underlying5 Try.underlying9 rfl rfl rfl) ?_
          refine smapdel (ss := t'.map kB) (css := t'.map eGApiKV) (s := ⟨u.Key.toArray⟩) (p := 2) Try.underlying129 Try.underlying9 rfl rfl rfl (fun j hj => ?_) (fun hn => ?_) rfl
          · obtain ⟨e1, e3⟩ := mdel_at hp hd (kB_get hj)
            refine smem [.box [.sl a0.L.length (a0.L.flatMap eGApiWrite)], .box a2, .obj g (mkMap vagg (((t'.eraseIdx j).map kB).map .string)) ((t'.eraseIdx j).map eGApiKV), .box u] (by rw [← Go.ChangeMaps.map_eraseIdx, ← Go.ChangeMaps.map_eraseIdx]; rfl) ?_
            refine snil0 ?_
            refine block_normal ?_
            refine then_normal ?_
            refine cregion ?_
            refine sv rfl (opv_add rfl rfl) ?_
            refine sv rfl (opv_mv rfl) ?_
            refine snil ?_
            exact ⟨(n, (wI (i + 1), mdelK kvk t u.Key), t'.eraseIdx j), _, ⟨hk, e1, e3⟩, ⟨rfl, rfl, rfl, rfl, rfl, rfl, trivial⟩, rfl, Nat.lt_succ_self _⟩
          · have e1 := mdel_none (kf := kvk) hp (kB_mem hn)
            refine smem [.box [.sl a0.L.length (a0.L.flatMap eGApiWrite)], .box a2, .obj g (mkMap vagg ((t'.map kB).map .string)) (t'.map eGApiKV), .box u] rfl ?_
            refine snil0 ?_
            refine block_normal ?_
            refine then_normal ?_
            refine cregion ?_
            refine sv rfl (opv_add rfl rfl) ?_
            refine sv rfl (opv_mv rfl) ?_
            refine snil ?_
            exact ⟨(n, (wI (i + 1), mdelK kvk t u.Key), t'), _, ⟨hk, e1, hd⟩, ⟨rfl, rfl, rfl, rfl, rfl, rfl, trivial⟩, rfl, Nat.lt_succ_self _⟩
        · replace h := ite_f hc h
          clear hc
          obtain ⟨v, hv, h⟩ := bind_eq h
          obtain rfl := Option.some.inj h
          clear h
          refine cseq ?_
          refine cregion ?_
          refine sv rfl (opv_loadN ti44 rfl (.lp _ _ _ rfl) (Nat.le_of_ble_eq_true rfl)) ?_
          refine sv rfl (opv_fieldAddr_lp fi88_0 rfl) ?_
          refine sv rfl (opv_load1 ti42 rfl (.lp _ _ _ rfl) rfl) ?_
          refine scall1 rfl fn72 (opnds_cons rfl (opnds_cons rfl opnds_nil)) (pubA_id rfl) (m72_keys_Has_c hv) ?_
          refine snil ?_
          refine ccond rfl (fun hc => ?_) (fun hc => ?_)
          · subst hc
            refine cregion ?_
            refine sv rfl (opv_mv rfl) ?_
            refine sv rfl (opv_fieldAddr_lp fi88_0 rfl) ?_
            refine sv rfl (opv_load1 ti42 rfl (.lp _ _ _ rfl) rfl) ?_
            refine sv rfl (opv_bs (l := u.Key) Try.underlying42 Try.underlying5 Try.underlying9 rfl rfl rfl) ?_
            refine sv rfl (opv_fieldAddr_lp fi88_0 rfl) ?_
            refine sv rfl (opv_load1 ti42 rfl (.lp _ _ _ rfl) rfl) ?_
            refine sv rfl (opv_fieldAddr_lp fi88_1 rfl) ?_
            refine sv rfl (opv_load1 ti42 rfl (.lp _ _ _ rfl) rfl) ?_
            refine sv rfl (opv_build zi65 pi65 (parts_cons rfl (parts_cons rfl parts_nil)) (.cons _ _ _ _ _ _ _ rfl rfl (Nat.le_of_ble_eq_true rfl) (.cons _ _ _ _ _ _ _ rfl rfl (Nat.le_of_ble_eq_true rfl) (.nil _)))) ?_
            refine smapput (ss := t'.map kB) (css := t'.map eGApiKV) (s := kB ⟨u.Key, u.Val⟩) (p := 2) Try.underlying129 Try.underlying9 rfl rfl rfl rfl rfl (fun j hj => ?_) (fun hn => ?_)
            · obtain ⟨e1, e2, e3⟩ := mput_at hp hd (x := ⟨u.Key, u.Val⟩) (kB_get hj)
              refine smem [.box [.sl a0.L.length (a0.L.flatMap eGApiWrite)], .box a2, .obj g (mkMap vagg (((t'.set j ⟨u.Key, u.Val⟩).map kB).map .string)) ((t'.set j ⟨u.Key, u.Val⟩).map eGApiKV), .box u] (by rw [kB_set (kB_get hj), List.map_set]; rfl) ?_
              refine snil0 ?_
              refine block_normal ?_
              refine then_normal ?_
              refine cregion ?_
              refine sv rfl (opv_add rfl rfl) ?_
              refine sv rfl (opv_mv rfl) ?_
              refine snil ?_
              exact ⟨(n, (wI (i + 1), mputK kvk t ⟨u.Key, u.Val⟩), t'.set j ⟨u.Key, u.Val⟩), _, ⟨hk, e1, e3⟩, ⟨rfl, rfl, rfl, rfl, rfl, rfl, trivial⟩, rfl, Nat.lt_succ_self _⟩
            · obtain ⟨e1, e3⟩ := mput_new hp hd (x := ⟨u.Key, u.Val⟩) (kB_mem hn)
              refine smem [.box [.sl a0.L.length (a0.L.flatMap eGApiWrite)], .box a2, .obj g (mkMap vagg (((t' ++ [(⟨u.Key, u.Val⟩ : GApiKV)]).map kB).map .string)) ((t' ++ [(⟨u.Key, u.Val⟩ : GApiKV)]).map eGApiKV), .box u] (by simp only [List.map_append]; rfl) ?_
              refine snil0 ?_
              refine block_normal ?_
              refine then_normal ?_
              refine cregion ?_
              refine sv rfl (opv_add rfl rfl) ?_
              refine sv rfl (opv_mv rfl) ?_
              refine snil ?_
              exact ⟨(n, (wI (i + 1), mputK kvk t ⟨u.Key, u.Val⟩), t' ++ [(⟨u.Key, u.Val⟩ : GApiKV)]), _, ⟨hk, e1, e3⟩, ⟨rfl, rfl, rfl, rfl, rfl, rfl, trivial⟩, rfl, Nat.lt_succ_self _⟩
          · subst hc
            refine cskip ?_
            refine block_normal ?_
            refine then_normal ?_
            refine cregion ?_
            refine sv rfl (opv_add rfl rfl) ?_
            refine sv rfl (opv_mv rfl) ?_
            refine snil ?_
            exact ⟨(n, (wI (i + 1), t), t'), _, ⟨hk, hp, hd⟩, ⟨rfl, rfl, rfl, rfl, rfl, rfl, trivial⟩, rfl, Nat.lt_succ_self _⟩
      · replace h := ite_f hc h
        clear hc
        refine cexit ?_
        refine then_exit ?_
        refine then_exit ?_
        refine block_hit ?_
        refine then_normal ?_
        obtain rfl := Option.some.inj h
        obtain rfl : _ = x2 := hk
        exact ⟨(t, t'), _, ⟨hp, hd, ho2⟩, ⟨rfl, rfl, trivial⟩, rfl⟩
  · refine cblock ?_
    obtain ⟨x1, hx1, ho1⟩ := bind_eq h
    refine awc_loop (G := Nat × (Int × List GApiKV) × List GApiKV) (fun q => [(4, .s (.one (.lp 0 0))), (6, .s (.one (.lp 1 0))), (3, .s (.one (.i .i64 a3))), (9, .s (.one (.raw (.map (some g))))), (30, .s (.one (.sl a1.length (a1.flatMap eGApiKV)))), (31, .s (.one (.i .i64 (a1.length : Int)))), (32, .s (.one (.i .i64 q.2.1.1)))]) (fun q => [.box [.sl a0.L.length (a0.L.flatMap eGApiWrite)], .box a2, .obj g (mkMap vagg ((q.2.2.map kB).map .string)) (q.2.2.map eGApiKV)]) (fun q => iterB (overs1 a1 a2) q.1 q.2.1 = some x1 ∧ q.2.2.Perm q.2.1.2 ∧ DistK kvk q.2.2) (fun q => q.1) (fuel, (0, []), []) ⟨hx1, List.Perm.refl _, List.Pairwise.nil⟩ ⟨rfl, rfl, rfl, rfl, rfl, rfl, rfl, trivial⟩ [] rfl (fun _ _ => inbL_of rfl) (fun _ _ => blkinb_of rfl) (fun _ _ => Nat.le_of_ble_eq_true rfl) ?_
    clear hx1 h
    rintro ⟨n, ⟨i, t⟩, t'⟩ ⟨h, hp, hd⟩
    dsimp only at hp hd
    obtain ⟨n, y, rfl, h, hk⟩ := iterB_eq h
    unfold overs1 at h
    dsimp only at h
    refine cseq ?_
    refine cregion ?_
    refine sv rfl (opv_lss rfl rfl) ?_
    refine snil ?_
    refine cseq ?_
    refine ccond rfl (fun hc => ?_) (fun hc => ?_)
    · replace h := ite_t hc h
      clear hc
      refine cskip ?_
      refine then_normal ?_
      refine cseq ?_
      refine cblock ?_
      refine cseq ?_
      refine cregion ?_
      obtain ⟨u, hu, h⟩ := bind_eq h
      refine sv rfl (opv_ix (f := eGApiKV) si25 (fun _ => rfl) rfl rfl rfl rfl hu) ?_
      refine sv rfl (opv_loadNe (ys := [.sl u.Key.length (u.Key.flatMap eU8), .sl u.Val.length (u.Val.flatMap eU8)]) ti65 rfl (.cp _) rfl rfl) ?_
      refine salloc rfl zi65 ?_
      refine sstore sz65 rfl rfl rfl rfl (Nat.le_of_ble_eq_true rfl) ?_
      refine smem [.box [.sl a0.L.length (a0.L.flatMap eGApiWrite)], .box a2, .obj g (mkMap vagg ((t'.map kB).map .string)) (t'.map eGApiKV), .box u] rfl ?_
      refine snil ?_
      refine cseq ?_
      refine cregion ?_
      refine sv rfl (opv_loadN ti44 rfl (.lp _ _ _ rfl) (Nat.le_of_ble_eq_true rfl)) ?_
      refine sv rfl (opv_fieldAddr_lp fi65_0 rfl) ?_
      refine sv rfl (opv_load1 ti42 rfl (.lp _ _ _ rfl) rfl) ?_
      obtain ⟨v, hv, h⟩ := bind_eq h
      refine scall1 rfl fn72 (opnds_cons rfl (opnds_cons rfl opnds_nil)) (pubA_id rfl) (m72_keys_Has_c hv) ?_
      refine snil ?_
      obtain rfl := Option.some.inj h
      clear h
      refine ccond rfl (fun hc => ?_) (fun hc => ?_)
      · subst hc
        refine cregion ?_
        refine sv rfl (opv_mv rfl) ?_
        refine sv rfl (opv_fieldAddr_lp fi65_0 rfl) ?_
        refine sv rfl (opv_load1 ti42 rfl (.lp _ _ _ rfl) rfl) ?_
        refine sv rfl (opv_bs (l := u.Key) Try.underlying42 Try.underlying5 Try.underlying9 rfl rfl rfl) ?_
        refine sv rfl (opv_loadN ti65 rfl (.lp _ _ _ rfl) (Nat.le_of_ble_eq_true rfl)) ?_
        refine smapput (ss := t'.map kB) (css := t'.map eGApiKV) (s := kB u) (p := 2) Try.underlying129 Try.underlying9 rfl rfl rfl rfl rfl (fun j hj => ?_) (fun hn => ?_)
        · obtain ⟨e1, e2, e3⟩ := mput_at hp hd (x := u) (kB_get hj)
          refine smem [.box [.sl a0.L.length (a0.L.flatMap eGApiWrite)], .box a2, .obj g (mkMap vagg (((t'.set j u).map kB).map .string)) ((t'.set j u).map eGApiKV), .box u] (by rw [kB_set (kB_get hj), List.map_set]; rfl) ?_
          refine snil0 ?_
          refine block_normal ?_
          refine then_normal ?_
          refine cregion ?_
          refine sv rfl (opv_add rfl rfl) ?_
          refine sv rfl (opv_mv rfl) ?_
          refine snil ?_
          exact ⟨(n, (wI (i + 1), mputK kvk t u), t'.set j u), _, ⟨hk, e1, e3⟩, ⟨rfl, rfl, rfl, rfl, rfl, rfl, rfl, trivial⟩, rfl, Nat.lt_succ_self _⟩
        · obtain ⟨e1, e3⟩ := mput_new hp hd (x := u) (kB_mem hn)
          refine smem [.box [.sl a0.L.length (a0.L.flatMap eGApiWrite)], .box a2, .obj g (mkMap vagg (((t' ++ [u]).map kB).map .string)) ((t' ++ [u]).map eGApiKV), .box u] (by simp only [List.map_append]; rfl) ?_
          refine snil0 ?_
          refine block_normal ?_
          refine then_normal ?_
          refine cregion ?_
          refine sv rfl (opv_add rfl rfl) ?_
          refine sv rfl (opv_mv rfl) ?_
          refine snil ?_
          exact ⟨(n, (wI (i + 1), mputK kvk t u), t' ++ [u]), _, ⟨hk, e1, e3⟩, ⟨rfl, rfl, rfl, rfl, rfl, rfl, rfl, trivial⟩, rfl, Nat.lt_succ_self _⟩
      · subst hc
        refine cskip ?_
        refine block_normal ?_
        refine then_normal ?_
        refine cregion ?_
        refine sv rfl (opv_add rfl rfl) ?_
        refine sv rfl (opv_mv rfl) ?_
        refine snil ?_
        exact ⟨(n, (wI (i + 1), t), t'), _, ⟨hk, hp, hd⟩, ⟨rfl, rfl, rfl, rfl, rfl, rfl, rfl, trivial⟩, rfl, Nat.lt_succ_self _⟩
    · replace h := ite_f hc h
      clear hc
      refine cexit ?_
      refine then_exit ?_
      refine then_exit ?_
      refine block_hit ?_
      refine then_normal ?_
      obtain rfl := Option.some.inj h
      obtain rfl : _ = x1 := hk
      exact ⟨(t, t'), _, ⟨hp, hd, ho1⟩, ⟨rfl, rfl, rfl, rfl, trivial⟩, rfl⟩

def m37_prog_within (a0 : Int) (a1 : Int) : Option Bool :=
  if (decide (0 ≤ a0)) then (some (decide (a0 ≤ a1))) else (some false)

set_option maxRecDepth 100000 in
theorem m37_prog_within_c {a0 : Int} {a1 : Int} {r : Bool} (h : m37_prog_within a0 a1 = some r) : CallsA Try.prog 37 [.one (.i .i64 a0), .one (.i .i64 a1)] (· = .s (.one (.b r))) := by
  unfold m37_prog_within at h
  refine callsA_of Try.func37 rfl (nt := 12) rfl (Nat.le_of_ble_eq_true rfl) ?_
  intro w0 S0
  refine cseq ?_
  refine cregion ?_
  refine sv rfl (opv_as rfl) ?_
  refine snil ?_
  refine cseq ?_
  refine cregion ?_
  refine sv rfl (opv_mv rfl) ?_
  refine sv rfl (opv_geq rfl rfl) ?_
  refine sv rfl (opv_mv rfl) ?_
  refine ssplit 7 rfl (fun hc => ?_) (fun hc => ?_)
  · replace h := ite_t hc h
    clear hc
    refine son rfl rfl rfl ?_
    refine sv rfl (opv_mv rfl) ?_
    refine son rfl rfl rfl ?_
    refine sv rfl (opv_mv rfl) ?_
    refine son rfl rfl rfl ?_
    refine sv rfl (opv_leq rfl rfl) ?_
    refine sv rfl (opv_pick_t rfl rfl) ?_
    refine sv rfl (opv_as rfl) ?_
    refine snil ?_
    refine cret ?_
    obtain rfl := Option.some.inj h
    refine ⟨Or.inr rfl, _, _, _, (resVs_cons (ResV.tmp _ _ rfl) resVs_nil), (pubA_id rfl), ?_⟩
    rfl
  · replace h := ite_f hc h
    clear hc
    refine soff rfl rfl rfl rfl ?_
    refine soff rfl rfl rfl rfl ?_
    refine soff rfl rfl rfl rfl ?_
    refine sv rfl (opv_pick_f rfl rfl) ?_
    refine sv rfl (opv_as rfl) ?_
    refine snil ?_
    refine cret ?_
    obtain rfl := Option.some.inj h
    refine ⟨Or.inr rfl, _, _, _, (resVs_cons (ResV.tmp _ _ rfl) resVs_nil), (pubA_id rfl), ?_⟩
    rfl

def m46_prog_flagsOf_k1 (a0 : Int) (b1 : Bool) : Option GProgFlags :=
  if b1 then (some (GProgFlags.mk true false true)) else (if (decide (a0 = 4)) then (some (GProgFlags.mk false true false)) else (some (GProgFlags.mk false false false)))
def m46_prog_flagsOf (a0 : Int) : Option GProgFlags :=
  if (decide (a0 = 1)) then (some (GProgFlags.mk true false false)) else (if (decide (a0 = 2)) then (m46_prog_flagsOf_k1 a0 (decide (a0 = 2))) else (m46_prog_flagsOf_k1 a0 (decide (a0 = 3))))

set_option maxRecDepth 100000 in
theorem m46_prog_flagsOf_c {a0 : Int} {r : GProgFlags} (h : m46_prog_flagsOf a0 = some r) : CallsA Try.prog 46 [.one (.i .i64 a0)] (· = .s (.agg [.b r.R0, .b r.R1, .b r.R2])) := by
  unfold m46_prog_flagsOf at h
  refine callsA_of Try.func46 rfl (nt := 15) rfl (Nat.le_of_ble_eq_true rfl) ?_
  intro w0 S0
  refine cseq ?_
  refine cregion ?_
  refine salloc rfl zi105 ?_
  refine snil ?_
  refine cseq ?_
  refine cseq ?_
  refine cregion ?_
  refine sv rfl (opv_mv rfl) ?_
  refine snil ?_
  refine cblock ?_
  refine cseq ?_
  refine cregion ?_
  refine sv rfl (opv_ieql rfl rfl) ?_
  refine sv rfl (opv_as rfl) ?_
  refine snil ?_
  refine ccond rfl (fun hc => ?_) (fun hc => ?_)
  · replace h := ite_t hc h
    clear hc
    refine cseq ?_
    refine cregion ?_
    refine sv rfl (opv_builda zi105 ai105 (parts_cons rfl (parts_cons rfl (parts_cons rfl parts_nil))) (.cons _ _ _ _ _ _ _ rfl rfl (Nat.le_of_ble_eq_true rfl) (.cons _ _ _ _ _ _ _ rfl rfl (Nat.le_of_ble_eq_true rfl) (.cons _ _ _ _ _ _ _ rfl rfl (Nat.le_of_ble_eq_true rfl) (.nil _))))) ?_
    refine sstore sz105 rfl rfl rfl rfl (Nat.le_of_ble_eq_true rfl) ?_
    refine smem [.box [.b true, .b false, .b false]] rfl ?_
    refine snil ?_
    refine cret ?_
    refine block_ret ?_
    refine then_ret ?_
    obtain rfl := Option.some.inj h
    refine ⟨Or.inr rfl, _, _, _, (resVs_cons (ResV.agg _ _ _ _ _ ti105 rfl (.lp _ _ _ rfl) (Nat.le_of_ble_eq_true rfl)) resVs_nil), (pubA_id rfl), ?_⟩
    rfl
  · replace h := ite_f hc h
    clear hc
    refine cseq ?_
    refine cseq ?_
    refine cregion ?_
    refine sv rfl (opv_ieql rfl rfl) ?_
    refine sv rfl (opv_as rfl) ?_
    refine snil ?_
    refine cjoin (Bool) (fun b1 => [(2, .s (.one (.lp 0 0))), (3, .s (.one (.i .i64 a0))), (7, .s (.one (.b b1)))]) (fun b1 => [.box [.b false, .b false, .b false]]) (fun b1 => m46_prog_flagsOf_k1 a0 b1 = some r) (fun _ _ => inbL_of rfl) (fun _ _ => blkinb_of rfl) (fun _ _ => Nat.le_of_ble_eq_true rfl) (fun b1 h => ?_) ?_
    · unfold m46_prog_flagsOf_k1 at h
      refine ccond rfl (fun hc => ?_) (fun hc => ?_)
      · replace h := ite_t hc h
        clear hc
        refine cseq ?_
        refine cregion ?_
        refine sv rfl (opv_builda zi105 ai105 (parts_cons rfl (parts_cons rfl (parts_cons rfl parts_nil))) (.cons _ _ _ _ _ _ _ rfl rfl (Nat.le_of_ble_eq_true rfl) (.cons _ _ _ _ _ _ _ rfl rfl (Nat.le_of_ble_eq_true rfl) (.cons _ _ _ _ _ _ _ rfl rfl (Nat.le_of_ble_eq_true rfl) (.nil _))))) ?_
        refine sstore sz105 rfl rfl rfl rfl (Nat.le_of_ble_eq_true rfl) ?_
        refine smem [.box [.b true, .b false, .b true]] rfl ?_
        refine snil ?_
        refine cret ?_
        refine block_ret ?_
        refine then_ret ?_
        obtain rfl := Option.some.inj h
        refine ⟨Or.inr rfl, _, _, _, (resVs_cons (ResV.agg _ _ _ _ _ ti105 rfl (.lp _ _ _ rfl) (Nat.le_of_ble_eq_true rfl)) resVs_nil), (pubA_id rfl), ?_⟩
        rfl
      · replace h := ite_f hc h
        clear hc
        refine cseq ?_
        refine cregion ?_
        refine sv rfl (opv_ieql rfl rfl) ?_
        refine sv rfl (opv_as rfl) ?_
        refine snil ?_
        refine ccond rfl (fun hc => ?_) (fun hc => ?_)
        · replace h := ite_t hc h
          clear hc
          refine cseq ?_
          refine cregion ?_
          refine sv rfl (opv_builda zi105 ai105 (parts_cons rfl (parts_cons rfl (parts_cons rfl parts_nil))) (.cons _ _ _ _ _ _ _ rfl rfl (Nat.le_of_ble_eq_true rfl) (.cons _ _ _ _ _ _ _ rfl rfl (Nat.le_of_ble_eq_true rfl) (.cons _ _ _ _ _ _ _ rfl rfl (Nat.le_of_ble_eq_true rfl) (.nil _))))) ?_
          refine sstore sz105 rfl rfl rfl rfl (Nat.le_of_ble_eq_true rfl) ?_
          refine smem [.box [.b false, .b true, .b false]] rfl ?_
          refine snil ?_
          refine cret ?_
          refine block_ret ?_
          refine then_ret ?_
          obtain rfl := Option.some.inj h
          refine ⟨Or.inr rfl, _, _, _, (resVs_cons (ResV.agg _ _ _ _ _ ti105 rfl (.lp _ _ _ rfl) (Nat.le_of_ble_eq_true rfl)) resVs_nil), (pubA_id rfl), ?_⟩
          rfl
        · replace h := ite_f hc h
          clear hc
          refine cskip ?_
          refine block_normal ?_
          refine then_normal ?_
          refine cseq ?_
          refine cregion ?_
          refine sv rfl (opv_builda zi105 ai105 parts_nil (.nil _)) ?_
          refine sstore sz105 rfl rfl rfl rfl (Nat.le_of_ble_eq_true rfl) ?_
          refine smem [.box [.b false, .b false, .b false]] rfl ?_
          refine snil ?_
          refine cret ?_
          obtain rfl := Option.some.inj h
          refine ⟨Or.inr rfl, _, _, _, (resVs_cons (ResV.agg _ _ _ _ _ ti105 rfl (.lp _ _ _ rfl) (Nat.le_of_ble_eq_true rfl)) resVs_nil), (pubA_id rfl), ?_⟩
          rfl
    · skip
      refine ccond rfl (fun hc => ?_) (fun hc => ?_)
      · replace h := ite_t hc h
        clear hc
        refine cskip ?_
        refine then_normal ?_
        exact ⟨(decide (a0 = 2)), _, h, ⟨rfl, rfl, rfl, trivial⟩, rfl⟩
      · replace h := ite_f hc h
        clear hc
        refine cregion ?_
        refine sv rfl (opv_ieql rfl rfl) ?_
        refine sv rfl (opv_as rfl) ?_
        refine snil ?_
        exact ⟨(decide (a0 = 3)), _, h, ⟨rfl, rfl, rfl, trivial⟩, rfl⟩

def m47_prog_hasRange (a0 : GApiRange) : Option Bool :=
  if (decide (0 < (a0.Lo.length : Int))) then (some true) else (if (decide (0 < (a0.Hi.length : Int))) then (some true) else (some a0.Open))

set_option maxRecDepth 100000 in
theorem m47_prog_hasRange_c {a0 : GApiRange} {r : Bool} (h : m47_prog_hasRange a0 = some r) : CallsA Try.prog 47 [.agg a0] (· = .s (.one (.b r))) := by
  unfold m47_prog_hasRange at h
  refine callsA_of Try.func47 rfl (nt := 17) rfl (Nat.le_of_ble_eq_true rfl) ?_
  intro w0 S0
  refine cseq ?_
  refine cregion ?_
  refine sbox rfl rfl ?_
  refine sv rfl (opv_as rfl) ?_
  refine snil ?_
  refine cseq ?_
  refine cregion ?_
  refine sv rfl (opv_fieldAddr_lp fi44_0 rfl) ?_
  refine sv rfl (opv_load1 ti42 rfl (.lp _ _ _ rfl) rfl) ?_
  refine sv rfl (opv_len_sl si42 rfl) ?_
  refine sv rfl (opv_gtr rfl rfl) ?_
  refine sv rfl (opv_mv rfl) ?_
  refine ssplit 7 rfl (fun hc => ?_) (fun hc => ?_)
  · replace h := ite_t hc h
    clear hc
    refine soff rfl rfl rfl rfl ?_
    refine soff rfl rfl rfl rfl ?_
    refine soff rfl rfl rfl rfl ?_
    refine soff rfl rfl rfl rfl ?_
    refine sv rfl (opv_pick_t rfl rfl) ?_
    refine sv rfl (opv_mv rfl) ?_
    refine soff rfl rfl rfl rfl ?_
    refine soff rfl rfl rfl rfl ?_
    refine sv rfl (opv_pick_t rfl rfl) ?_
    refine sv rfl (opv_as rfl) ?_
    refine snil ?_
    refine cret ?_
    obtain rfl := Option.some.inj h
    refine ⟨Or.inr rfl, _, _, _, (resVs_cons (ResV.tmp _ _ rfl) resVs_nil), (pubA_id rfl), ?_⟩
    rfl
  · replace h := ite_f hc h
    clear hc
    refine son rfl rfl rfl ?_
    refine sv rfl (opv_fieldAddr_lp fi44_1 rfl) ?_
    refine son rfl rfl rfl ?_
    refine sv rfl (opv_load1 ti42 rfl (.lp _ _ _ rfl) rfl) ?_
    refine son rfl rfl rfl ?_
    refine sv rfl (opv_len_sl si42 rfl) ?_
    refine son rfl rfl rfl ?_
    refine sv rfl (opv_gtr rfl rfl) ?_
    refine sv rfl (opv_pick_f rfl rfl) ?_
    refine sv rfl (opv_mv rfl) ?_
    refine ssplit 13 rfl (fun hc => ?_) (fun hc => ?_)
    · replace h := ite_t hc h
      clear hc
      refine soff rfl rfl rfl rfl ?_
      refine soff rfl rfl rfl rfl ?_
      refine sv rfl (opv_pick_t rfl rfl) ?_
      refine sv rfl (opv_as rfl) ?_
      refine snil ?_
      refine cret ?_
      obtain rfl := Option.some.inj h
      refine ⟨Or.inr rfl, _, _, _, (resVs_cons (ResV.tmp _ _ rfl) resVs_nil), (pubA_id rfl), ?_⟩
      rfl
    · replace h := ite_f hc h
      clear hc
      refine son rfl rfl rfl ?_
      refine sv rfl (opv_fieldAddr_lp fi44_2 rfl) ?_
      refine son rfl rfl rfl ?_
      refine sv rfl (opv_load1 ti4 rfl (.lp _ _ _ rfl) rfl) ?_
      refine sv rfl (opv_pick_f rfl rfl) ?_
      refine sv rfl (opv_as rfl) ?_
      refine snil ?_
      refine cret ?_
      obtain rfl := Option.some.inj h
      refine ⟨Or.inr rfl, _, _, _, (resVs_cons (ResV.tmp _ _ rfl) resVs_nil), (pubA_id rfl), ?_⟩
      rfl

def m65_keys_SaneRange (a0 : GApiRange) : Option Bool :=
  if (decide ((a0.Lo.length : Int) ≤ 17)) then (if (decide ((a0.Hi.length : Int) ≤ 17)) then (if a0.Open then (some (!(decide (0 < (a0.Hi.length : Int))))) else (some true)) else (some false)) else (some false)

set_option maxRecDepth 100000 in
theorem m65_keys_SaneRange_c {a0 : GApiRange} {r : Bool} (h : m65_keys_SaneRange a0 = some r) : CallsA Try.prog 65 [.agg a0] (· = .s (.one (.b r))) := by
  unfold m65_keys_SaneRange at h
  refine callsA_of Try.func65 rfl (nt := 24) rfl (Nat.le_of_ble_eq_true rfl) ?_
  intro w0 S0
  refine cseq ?_
  refine cregion ?_
  refine sbox rfl rfl ?_
  refine sv rfl (opv_as rfl) ?_
  refine snil ?_
  refine cseq ?_
  refine cregion ?_
  refine sv rfl (opv_fieldAddr_lp fi44_0 rfl) ?_
  refine sv rfl (opv_load1 ti42 rfl (.lp _ _ _ rfl) rfl) ?_
  refine sv rfl (opv_len_sl si42 rfl) ?_
  refine sv rfl (opv_leq rfl rfl) ?_
  refine sv rfl (opv_mv rfl) ?_
  refine ssplit 7 rfl (fun hc => ?_) (fun hc => ?_)
  · replace h := ite_t hc h
    clear hc
    refine son rfl rfl rfl ?_
    refine sv rfl (opv_fieldAddr_lp fi44_1 rfl) ?_
    refine son rfl rfl rfl ?_
    refine sv rfl (opv_load1 ti42 rfl (.lp _ _ _ rfl) rfl) ?_
    refine son rfl rfl rfl ?_
    refine sv rfl (opv_len_sl si42 rfl) ?_
    refine son rfl rfl rfl ?_
    refine sv rfl (opv_leq rfl rfl) ?_
    refine sv rfl (opv_pick_t rfl rfl) ?_
    refine sv rfl (opv_mv rfl) ?_
    refine ssplit 13 rfl (fun hc => ?_) (fun hc => ?_)
    · replace h := ite_t hc h
      clear hc
      refine son rfl rfl rfl ?_
      refine sv rfl (opv_fieldAddr_lp fi44_2 rfl) ?_
      refine son rfl rfl rfl ?_
      refine sv rfl (opv_load1 ti4 rfl (.lp _ _ _ rfl) rfl) ?_
      refine son rfl rfl rfl ?_
      refine sv rfl (opv_mv rfl) ?_
      refine ssplit 16 rfl (fun hc => ?_) (fun hc => ?_)
      · replace h := ite_t hc h
        clear hc
        refine son rfl rfl rfl ?_
        refine sv rfl (opv_fieldAddr_lp fi44_1 rfl) ?_
        refine son rfl rfl rfl ?_
        refine sv rfl (opv_load1 ti42 rfl (.lp _ _ _ rfl) rfl) ?_
        refine son rfl rfl rfl ?_
        refine sv rfl (opv_len_sl si42 rfl) ?_
        refine son rfl rfl rfl ?_
        refine sv rfl (opv_gtr rfl rfl) ?_
        refine son rfl rfl rfl ?_
        refine sv rfl (opv_pick_t rfl rfl) ?_
        refine son rfl rfl rfl ?_
        refine sv rfl (opv_not rfl) ?_
        refine sv rfl (opv_pick_t rfl rfl) ?_
        refine sv rfl (opv_as rfl) ?_
        refine snil ?_
        refine cret ?_
        obtain rfl := Option.some.inj h
        refine ⟨Or.inr rfl, _, _, _, (resVs_cons (ResV.tmp _ _ rfl) resVs_nil), (pubA_id rfl), ?_⟩
        rfl
      · replace h := ite_f hc h
        clear hc
        refine soff rfl rfl rfl rfl ?_
        refine soff rfl rfl rfl rfl ?_
        refine soff rfl rfl rfl rfl ?_
        refine soff rfl rfl rfl rfl ?_
        refine son rfl rfl rfl ?_
        refine sv rfl (opv_pick_f rfl rfl) ?_
        refine son rfl rfl rfl ?_
        refine sv rfl (opv_not rfl) ?_
        refine sv rfl (opv_pick_t rfl rfl) ?_
        refine sv rfl (opv_as rfl) ?_
        refine snil ?_
        refine cret ?_
        obtain rfl := Option.some.inj h
        refine ⟨Or.inr rfl, _, _, _, (resVs_cons (ResV.tmp _ _ rfl) resVs_nil), (pubA_id rfl), ?_⟩
        rfl
    · replace h := ite_f hc h
      clear hc
      refine soff rfl rfl rfl rfl ?_
      refine soff rfl rfl rfl rfl ?_
      refine soff rfl rfl rfl rfl ?_
      refine soffu rfl rfl rfl ?_
      refine soffu rfl rfl rfl ?_
      refine soffu rfl rfl rfl ?_
      refine soffu rfl rfl rfl ?_
      refine soff rfl rfl rfl rfl ?_
      refine soff rfl rfl rfl rfl ?_
      refine sv rfl (opv_pick_f rfl rfl) ?_
      refine sv rfl (opv_as rfl) ?_
      refine snil ?_
      refine cret ?_
      obtain rfl := Option.some.inj h
      refine ⟨Or.inr rfl, _, _, _, (resVs_cons (ResV.tmp _ _ rfl) resVs_nil), (pubA_id rfl), ?_⟩
      rfl
  · replace h := ite_f hc h
    clear hc
    refine soff rfl rfl rfl rfl ?_
    refine soff rfl rfl rfl rfl ?_
    refine soff rfl rfl rfl rfl ?_
    refine soff rfl rfl rfl rfl ?_
    refine sv rfl (opv_pick_f rfl rfl) ?_
    refine sv rfl (opv_mv rfl) ?_
    refine soff rfl rfl rfl rfl ?_
    refine soff rfl rfl rfl rfl ?_
    refine soff rfl rfl rfl rfl ?_
    refine soffu rfl rfl rfl ?_
    refine soffu rfl rfl rfl ?_
    refine soffu rfl rfl rfl ?_
    refine soffu rfl rfl rfl ?_
    refine soff rfl rfl rfl rfl ?_
    refine soff rfl rfl rfl rfl ?_
    refine sv rfl (opv_pick_f rfl rfl) ?_
    refine sv rfl (opv_as rfl) ?_
    refine snil ?_
    refine cret ?_
    obtain rfl := Option.some.inj h
    refine ⟨Or.inr rfl, _, _, _, (resVs_cons (ResV.tmp _ _ rfl) resVs_nil), (pubA_id rfl), ?_⟩
    rfl

def m66_keys_Empty_k1 (a0 : GApiRange) (b1 : Bool) : Option Bool :=
  if b1 then (some true) else ((m57_keys_Cmp a0.Hi a0.Lo).bind fun v2 => some (decide (v2 ≤ 0)))
def m66_keys_Empty (a0 : GApiRange) : Option Bool :=
  if a0.Open then (some false) else (if (decide ((a0.Lo.length : Int) = 0)) then (if (decide ((a0.Hi.length : Int) = 1)) then ((idx a0.Hi 0).bind fun u3 => m66_keys_Empty_k1 a0 (decide ((u3.toBitVec.toNat : Int) = (0 : Int)))) else (m66_keys_Empty_k1 a0 false)) else (m66_keys_Empty_k1 a0 false))

set_option maxRecDepth 100000 in
theorem m66_keys_Empty_c {a0 : GApiRange} {r : Bool} (h : m66_keys_Empty a0 = some r) : CallsA Try.prog 66 [.agg a0] (· = .s (.one (.b r))) := by
  unfold m66_keys_Empty at h
  refine callsA_of Try.func66 rfl (nt := 32) rfl (Nat.le_of_ble_eq_true rfl) ?_
  intro w0 S0
  refine cseq ?_
  refine cregion ?_
  refine sbox rfl rfl ?_
  refine sv rfl (opv_as rfl) ?_
  refine snil ?_
  refine cseq ?_
  refine cseq ?_
  refine cregion ?_
  refine sv rfl (opv_fieldAddr_lp fi44_2 rfl) ?_
  refine sv rfl (opv_load1 ti4 rfl (.lp _ _ _ rfl) rfl) ?_
  refine snil ?_
  refine ccond rfl (fun hc => ?_) (fun hc => ?_)
  · replace h := ite_t hc h
    clear hc
    refine cseq ?_
    refine cregion ?_
    refine sv rfl (opv_as rfl) ?_
    refine snil ?_
    refine cret ?_
    refine then_ret ?_
    obtain rfl := Option.some.inj h
    refine ⟨Or.inr rfl, _, _, _, (resVs_cons (ResV.tmp _ _ rfl) resVs_nil), (pubA_id rfl), ?_⟩
    rfl
  · replace h := ite_f hc h
    clear hc
    refine cskip ?_
    refine then_normal ?_
    refine cseq ?_
    refine cjoin (Bool) (fun b1 => [(1, .s (.one (.lp 0 0))), (3, .s (.one (.b b1)))]) (fun b1 => [.box a0]) (fun b1 => m66_keys_Empty_k1 a0 b1 = some r) (fun _ _ => inbL_of rfl) (fun _ _ => blkinb_of rfl) (fun _ _ => Nat.le_of_ble_eq_true rfl) (fun b1 h => ?_) ?_
    · unfold m66_keys_Empty_k1 at h
      refine cseq ?_
      refine cregion ?_
      refine sv rfl (opv_mv rfl) ?_
      refine sv rfl (opv_mv rfl) ?_
      refine ssplit 24 rfl (fun hc => ?_) (fun hc => ?_)
      · replace h := ite_t hc h
        clear hc
        refine soff rfl rfl rfl rfl ?_
        refine soff rfl rfl rfl rfl ?_
        refine soff rfl rfl rfl rfl ?_
        refine soff rfl rfl rfl rfl ?_
        refine soff rfl rfl rfl rfl ?_
        refine soff rfl rfl rfl rfl ?_
        refine sv rfl (opv_pick_t rfl rfl) ?_
        refine sv rfl (opv_as rfl) ?_
        refine snil ?_
        refine cret ?_
        obtain rfl := Option.some.inj h
        refine ⟨Or.inr rfl, _, _, _, (resVs_cons (ResV.tmp _ _ rfl) resVs_nil), (pubA_id rfl), ?_⟩
        rfl
      · replace h := ite_f hc h
        clear hc
        refine son rfl rfl rfl ?_
        refine sv rfl (opv_fieldAddr_lp fi44_1 rfl) ?_
        refine son rfl rfl rfl ?_
        refine sv rfl (opv_load1 ti42 rfl (.lp _ _ _ rfl) rfl) ?_
        refine son rfl rfl rfl ?_
        refine sv rfl (opv_fieldAddr_lp fi44_0 rfl) ?_
        refine son rfl rfl rfl ?_
        refine sv rfl (opv_load1 ti42 rfl (.lp _ _ _ rfl) rfl) ?_
        refine son rfl rfl rfl ?_
        obtain ⟨v2, hv2, h⟩ := bind_eq h
        refine scall1 rfl fn57 (opnds_cons rfl (opnds_cons rfl opnds_nil)) (pubA_id rfl) (m57_keys_Cmp_c hv2) ?_
        refine son rfl rfl rfl ?_
        refine sv rfl (opv_leq rfl rfl) ?_
        refine sv rfl (opv_pick_f rfl rfl) ?_
        refine sv rfl (opv_as rfl) ?_
        refine snil ?_
        refine cret ?_
        obtain rfl := Option.some.inj h
        refine ⟨Or.inr rfl, _, _, _, (resVs_cons (ResV.tmp _ _ rfl) resVs_nil), (pubA_id rfl), ?_⟩
        rfl
    · skip
      refine cregion ?_
      refine sv rfl (opv_fieldAddr_lp fi44_0 rfl) ?_
      refine sv rfl (opv_load1 ti42 rfl (.lp _ _ _ rfl) rfl) ?_
      refine sv rfl (opv_len_sl si42 rfl) ?_
      refine sv rfl (opv_ieql rfl rfl) ?_
      refine sv rfl (opv_mv rfl) ?_
      refine ssplit 10 rfl (fun hc => ?_) (fun hc => ?_)
      · replace h := ite_t hc h
        clear hc
        refine son rfl rfl rfl ?_
        refine sv rfl (opv_fieldAddr_lp fi44_1 rfl) ?_
        refine son rfl rfl rfl ?_
        refine sv rfl (opv_load1 ti42 rfl (.lp _ _ _ rfl) rfl) ?_
        refine son rfl rfl rfl ?_
        refine sv rfl (opv_len_sl si42 rfl) ?_
        refine son rfl rfl rfl ?_
        refine sv rfl (opv_ieql rfl rfl) ?_
        refine sv rfl (opv_pick_t rfl rfl) ?_
        refine sv rfl (opv_mv rfl) ?_
        refine ssplit 16 rfl (fun hc => ?_) (fun hc => ?_)
        · replace h := ite_t hc h
          clear hc
          refine son rfl rfl rfl ?_
          refine sv rfl (opv_fieldAddr_lp fi44_1 rfl) ?_
          refine son rfl rfl rfl ?_
          refine sv rfl (opv_load1 ti42 rfl (.lp _ _ _ rfl) rfl) ?_
          refine son rfl rfl rfl ?_
          obtain ⟨u3, hu3, h⟩ := bind_eq h
          refine sv rfl (opv_ix (f := eU8) si42 (fun _ => rfl) rfl rfl rfl rfl hu3) ?_
          refine son rfl rfl rfl ?_
          refine sv rfl (opv_load1 ti5 rfl (.cp _) rfl) ?_
          refine son rfl rfl rfl ?_
          refine sv rfl (opv_ieql rfl rfl) ?_
          refine sv rfl (opv_pick_t rfl rfl) ?_
          refine sv rfl (opv_as rfl) ?_
          refine snil ?_
          exact ⟨(decide ((u3.toBitVec.toNat : Int) = (0 : Int))), _, h, ⟨rfl, rfl, trivial⟩, rfl⟩
        · replace h := ite_f hc h
          clear hc
          refine soff rfl rfl rfl rfl ?_
          refine soff rfl rfl rfl rfl ?_
          refine soff rfl rfl rfl rfl ?_
          refine soff rfl rfl rfl rfl ?_
          refine soff rfl rfl rfl rfl ?_
          refine sv rfl (opv_pick_f rfl rfl) ?_
          refine sv rfl (opv_as rfl) ?_
          refine snil ?_
          exact ⟨false, _, h, ⟨rfl, rfl, trivial⟩, rfl⟩
      · replace h := ite_f hc h
        clear hc
        refine soff rfl rfl rfl rfl ?_
        refine soff rfl rfl rfl rfl ?_
        refine soff rfl rfl rfl rfl ?_
        refine soff rfl rfl rfl rfl ?_
        refine sv rfl (opv_pick_f rfl rfl) ?_
        refine sv rfl (opv_mv rfl) ?_
        refine soff rfl rfl rfl rfl ?_
        refine soff rfl rfl rfl rfl ?_
        refine soff rfl rfl rfl rfl ?_
        refine soff rfl rfl rfl rfl ?_
        refine soff rfl rfl rfl rfl ?_
        refine sv rfl (opv_pick_f rfl rfl) ?_
        refine sv rfl (opv_as rfl) ?_
        refine snil ?_
        exact ⟨false, _, h, ⟨rfl, rfl, trivial⟩, rfl⟩

def m49_prog_saneRange (a0 : GApiRange) : Option Bool :=
  (m65_keys_SaneRange a0).bind fun v1 => if v1 then (if (decide ((a0.Lo.length : Int) ≤ 16)) then (if (decide ((a0.Hi.length : Int) ≤ 16)) then ((m66_keys_Empty a0).bind fun v2 => some (!v2)) else (some false)) else (some false)) else (some false)

set_option maxRecDepth 100000 in
theorem m49_prog_saneRange_c {a0 : GApiRange} {r : Bool} (h : m49_prog_saneRange a0 = some r) : CallsA Try.prog 49 [.agg a0] (· = .s (.one (.b r))) := by
  unfold m49_prog_saneRange at h
  refine callsA_of Try.func49 rfl (nt := 22) rfl (Nat.le_of_ble_eq_true rfl) ?_
  intro w0 S0
  refine cseq ?_
  refine cregion ?_
  refine sbox rfl rfl ?_
  refine sv rfl (opv_as rfl) ?_
  refine snil ?_
  refine cseq ?_
  refine cregion ?_
  refine sv rfl (opv_loadN ti44 rfl (.lp _ _ _ rfl) (Nat.le_of_ble_eq_true rfl)) ?_
  obtain ⟨v1, hv1, h⟩ := bind_eq h
  refine scall1 rfl fn65 (opnds_cons rfl opnds_nil) (pubA_id rfl) (m65_keys_SaneRange_c hv1) ?_
  refine sv rfl (opv_mv rfl) ?_
  refine ssplit 5 rfl (fun hc => ?_) (fun hc => ?_)
  · replace h := ite_t hc h
    clear hc
    refine son rfl rfl rfl ?_
    refine sv rfl (opv_fieldAddr_lp fi44_0 rfl) ?_
    refine son rfl rfl rfl ?_
    refine sv rfl (opv_load1 ti42 rfl (.lp _ _ _ rfl) rfl) ?_
    refine son rfl rfl rfl ?_
    refine sv rfl (opv_len_sl si42 rfl) ?_
    refine son rfl rfl rfl ?_
    refine sv rfl (opv_leq rfl rfl) ?_
    refine sv rfl (opv_pick_t rfl rfl) ?_
    refine sv rfl (opv_mv rfl) ?_
    refine ssplit 11 rfl (fun hc => ?_) (fun hc => ?_)
    · replace h := ite_t hc h
      clear hc
      refine son rfl rfl rfl ?_
      refine sv rfl (opv_fieldAddr_lp fi44_1 rfl) ?_
      refine son rfl rfl rfl ?_
      refine sv rfl (opv_load1 ti42 rfl (.lp _ _ _ rfl) rfl) ?_
      refine son rfl rfl rfl ?_
      refine sv rfl (opv_len_sl si42 rfl) ?_
      refine son rfl rfl rfl ?_
      refine sv rfl (opv_leq rfl rfl) ?_
      refine sv rfl (opv_pick_t rfl rfl) ?_
      refine sv rfl (opv_mv rfl) ?_
      refine ssplit 17 rfl (fun hc => ?_) (fun hc => ?_)
      · replace h := ite_t hc h
        clear hc
        refine son rfl rfl rfl ?_
        refine sv rfl (opv_loadN ti44 rfl (.lp _ _ _ rfl) (Nat.le_of_ble_eq_true rfl)) ?_
        refine son rfl rfl rfl ?_
        obtain ⟨v2, hv2, h⟩ := bind_eq h
        refine scall1 rfl fn66 (opnds_cons rfl opnds_nil) (pubA_id rfl) (m66_keys_Empty_c hv2) ?_
        refine son rfl rfl rfl ?_
        refine sv rfl (opv_not rfl) ?_
        refine sv rfl (opv_pick_t rfl rfl) ?_
        refine sv rfl (opv_as rfl) ?_
        refine snil ?_
        refine cret ?_
        obtain rfl := Option.some.inj h
        refine ⟨Or.inr rfl, _, _, _, (resVs_cons (ResV.tmp _ _ rfl) resVs_nil), (pubA_id rfl), ?_⟩
        rfl
      · replace h := ite_f hc h
        clear hc
        refine soff rfl rfl rfl rfl ?_
        refine soff rfl rfl rfl rfl ?_
        refine soff rfl rfl rfl rfl ?_
        refine sv rfl (opv_pick_f rfl rfl) ?_
        refine sv rfl (opv_as rfl) ?_
        refine snil ?_
        refine cret ?_
        obtain rfl := Option.some.inj h
        refine ⟨Or.inr rfl, _, _, _, (resVs_cons (ResV.tmp _ _ rfl) resVs_nil), (pubA_id rfl), ?_⟩
        rfl
    · replace h := ite_f hc h
      clear hc
      refine soff rfl rfl rfl rfl ?_
      refine soff rfl rfl rfl rfl ?_
      refine soff rfl rfl rfl rfl ?_
      refine soff rfl rfl rfl rfl ?_
      refine sv rfl (opv_pick_f rfl rfl) ?_
      refine sv rfl (opv_mv rfl) ?_
      refine soff rfl rfl rfl rfl ?_
      refine soff rfl rfl rfl rfl ?_
      refine soff rfl rfl rfl rfl ?_
      refine sv rfl (opv_pick_f rfl rfl) ?_
      refine sv rfl (opv_as rfl) ?_
      refine snil ?_
      refine cret ?_
      obtain rfl := Option.some.inj h
      refine ⟨Or.inr rfl, _, _, _, (resVs_cons (ResV.tmp _ _ rfl) resVs_nil), (pubA_id rfl), ?_⟩
      rfl
  · replace h := ite_f hc h
    clear hc
    refine soff rfl rfl rfl rfl ?_
    refine soff rfl rfl rfl rfl ?_
    refine soff rfl rfl rfl rfl ?_
    refine soff rfl rfl rfl rfl ?_
    refine sv rfl (opv_pick_f rfl rfl) ?_
    refine sv rfl (opv_mv rfl) ?_
    refine soff rfl rfl rfl rfl ?_
    refine soff rfl rfl rfl rfl ?_
    refine soff rfl rfl rfl rfl ?_
    refine soff rfl rfl rfl rfl ?_
    refine sv rfl (opv_pick_f rfl rfl) ?_
    refine sv rfl (opv_mv rfl) ?_
    refine soff rfl rfl rfl rfl ?_
    refine soff rfl rfl rfl rfl ?_
    refine soff rfl rfl rfl rfl ?_
    refine sv rfl (opv_pick_f rfl rfl) ?_
    refine sv rfl (opv_as rfl) ?_
    refine snil ?_
    refine cret ?_
    obtain rfl := Option.some.inj h
    refine ⟨Or.inr rfl, _, _, _, (resVs_cons (ResV.tmp _ _ rfl) resVs_nil), (pubA_id rfl), ?_⟩
    rfl

def m31_prog_saneOp_k4 (a0 : GProgOp) (b4 : Bool) : Option Bool :=
  if b4 then ((m48_keys_Sane a0.Key).bind fun v5 => some v5) else (if (decide (a0.What = 4)) then ((m49_prog_saneRange (GApiRange.mk a0.Rng.Lo a0.Rng.Hi a0.Rng.Open)).bind fun v6 => some v6) else (if (decide (a0.What = 7)) then (some (decide (a0.N ≤ 24))) else (some true)))

def m31_prog_saneOp_k3 (a0 : GProgOp) (b3 : Unit) : Option Bool :=
  if (decide (a0.What = 1)) then (m31_prog_saneOp_k4 a0 (decide (a0.What = 1))) else (if (decide (a0.What = 2)) then (m31_prog_saneOp_k4 a0 (decide (a0.What = 2))) else (m31_prog_saneOp_k4 a0 (decide (a0.What = 3))))

def m31_prog_saneOp_k1 (a0 : GProgOp) (a1 : Bool) (b1 : Unit) : Option Bool :=
  (m46_prog_flagsOf a0.What).bind fun v2 => (m47_prog_hasRange (GApiRange.mk a0.Rng.Lo a0.Rng.Hi a0.Rng.Open)).bind fun v7 => if (!(((decide (0 < (a0.Key.length : Int))) == v2.R0) && ((v7 == v2.R1) && ((v2.R2 == v2.R2) && true)))) then (some false) else (if a1 then (if v2.R2 then (some false) else (m31_prog_saneOp_k3 a0 ())) else (m31_prog_saneOp_k3 a0 ()))
def m31_prog_saneOp (a0 : GProgOp) (a1 : Bool) : Option Bool :=
  (m37_prog_within (wI (a0.What - 1)) 7).bind fun v8 => if (!v8) then (some false) else ((m37_prog_within a0.A 7).bind fun v9 => if (!v9) then (some false) else ((m37_prog_within a0.B 7).bind fun v10 => if (!v10) then (some false) else ((m37_prog_within a0.N 4294967295).bind fun v11 => if (!v11) then (some false) else (m31_prog_saneOp_k1 a0 a1 ()))))

set_option maxRecDepth 100000 in
theorem m31_prog_saneOp_c {a0 : GProgOp} {a1 : Bool} {r : Bool} (h : m31_prog_saneOp a0 a1 = some r) : CallsA Try.prog 31 [.agg a0, .one (.b a1)] (· = .s (.one (.b r))) := by
  unfold m31_prog_saneOp at h
  refine callsA_of Try.func31 rfl (nt := 71) rfl (Nat.le_of_ble_eq_true rfl) ?_
  intro w0 S0
  refine cseq ?_
  refine cregion ?_
  refine sbox rfl rfl ?_
  refine sv rfl (opv_as rfl) ?_
  refine snil ?_
  refine cseq ?_
  refine cseq ?_
  refine cjoin3 (Unit) (fun b1 => [(1, .s (.one (.b a1))), (2, .s (.one (.lp 0 0)))]) (fun b1 => [.box a0]) (fun b1 => m31_prog_saneOp_k1 a0 a1 b1 = some r) (fun _ _ => inbL_of rfl) (fun _ _ => blkinb_of rfl) (fun _ _ => Nat.le_of_ble_eq_true rfl) (fun b1 h => ?_) ?_
  · unfold m31_prog_saneOp_k1 at h
    refine cseq ?_
    refine cregion ?_
    refine sv rfl (opv_fieldAddr_lp fi71_0 rfl) ?_
    refine sv rfl (opv_load1 ti3 rfl (.lp _ _ _ rfl) rfl) ?_
    obtain ⟨v2, hv2, h⟩ := bind_eq h
    refine scall1 rfl fn46 (opnds_cons rfl opnds_nil) (pubA_id rfl) (m46_prog_flagsOf_c hv2) ?_
    refine salloc rfl zi105 ?_
    refine sstore sz105 rfl rfl rfl rfl (Nat.le_of_ble_eq_true rfl) ?_
    refine smem [.box a0, .box [.b v2.R0, .b v2.R1, .b v2.R2]] rfl ?_
    refine snil ?_
    refine cseq ?_
    refine cregion ?_
    refine sv rfl (opv_ixlp (o := 2) ai105 rfl rfl (by decide)) ?_
    refine sv rfl (opv_load1 ti4 rfl (.lp _ _ _ rfl) rfl) ?_
    refine sv rfl (opv_as rfl) ?_
    refine snil ?_
    refine cseq ?_
    refine cseq ?_
    refine cjoin3 (Unit) (fun b3 => [(2, .s (.one (.lp 0 0)))]) (fun b3 => [.box a0, .box [.b v2.R0, .b v2.R1, .b v2.R2]]) (fun b3 => m31_prog_saneOp_k3 a0 b3 = some r) (fun _ _ => inbL_of rfl) (fun _ _ => blkinb_of rfl) (fun _ _ => Nat.le_of_ble_eq_true rfl) (fun b3 h => ?_) ?_
    · unfold m31_prog_saneOp_k3 at h
      refine cseq ?_
      refine cseq ?_
      refine cregion ?_
      refine sv rfl (opv_fieldAddr_lp fi71_0 rfl) ?_
      refine sv rfl (opv_load1 ti3 rfl (.lp _ _ _ rfl) rfl) ?_
      refine snil ?_
      refine cblock ?_
      refine cseq ?_
      refine cseq ?_
      refine cregion ?_
      refine sv rfl (opv_ieql rfl rfl) ?_
      refine sv rfl (opv_as rfl) ?_
      refine snil ?_
      refine cjoin (Bool) (fun b4 => [(2, .s (.one (.lp 0 0))), (53, .s (.one (.i .i64 a0.What))), (54, .s (.one (.b b4)))]) (fun b4 => [.box a0, .box [.b v2.R0, .b v2.R1, .b v2.R2]]) (fun b4 => m31_prog_saneOp_k4 a0 b4 = some r) (fun _ _ => inbL_of rfl) (fun _ _ => blkinb_of rfl) (fun _ _ => Nat.le_of_ble_eq_true rfl) (fun b4 h => ?_) ?_
      · unfold m31_prog_saneOp_k4 at h
        refine ccond rfl (fun hc => ?_) (fun hc => ?_)
        · replace h := ite_t hc h
          clear hc
          refine cseq ?_
          refine cregion ?_
          refine sv rfl (opv_fieldAddr_lp fi71_4 rfl) ?_
          refine sv rfl (opv_load1 ti42 rfl (.lp _ _ _ rfl) rfl) ?_
          obtain ⟨v5, hv5, h⟩ := bind_eq h
          refine scall1 rfl fn48 (opnds_cons rfl opnds_nil) (pubA_id rfl) (m48_keys_Sane_c hv5) ?_
          refine sv rfl (opv_as rfl) ?_
          refine snil ?_
          refine cret ?_
          refine block_ret ?_
          refine then_ret ?_
          obtain rfl := Option.some.inj h
          refine ⟨Or.inr rfl, _, _, _, (resVs_cons (ResV.tmp _ _ rfl) resVs_nil), (pubA_id rfl), ?_⟩
          rfl
        · replace h := ite_f hc h
          clear hc
          refine cseq ?_
          refine cregion ?_
          refine sv rfl (opv_ieql rfl rfl) ?_
          refine sv rfl (opv_as rfl) ?_
          refine snil ?_
          refine ccond rfl (fun hc => ?_) (fun hc => ?_)
          · replace h := ite_t hc h
            clear hc
            refine cseq ?_
            refine cregion ?_
            refine sv rfl (opv_fieldAddr_lp fi71_5 rfl) ?_
            refine sv rfl (opv_loadN ti44 rfl (.lp _ _ _ rfl) (Nat.le_of_ble_eq_true rfl)) ?_
            obtain ⟨v6, hv6, h⟩ := bind_eq h
            refine scall1 rfl fn49 (opnds_cons rfl opnds_nil) (pubA_id rfl) (m49_prog_saneRange_c hv6) ?_
            refine sv rfl (opv_as rfl) ?_
            refine snil ?_
            refine cret ?_
            refine block_ret ?_
            refine then_ret ?_
            obtain rfl := Option.some.inj h
            refine ⟨Or.inr rfl, _, _, _, (resVs_cons (ResV.tmp _ _ rfl) resVs_nil), (pubA_id rfl), ?_⟩
            rfl
          · replace h := ite_f hc h
            clear hc
            refine cseq ?_
            refine cregion ?_
            refine sv rfl (opv_ieql rfl rfl) ?_
            refine sv rfl (opv_as rfl) ?_
            refine snil ?_
            refine ccond rfl (fun hc => ?_) (fun hc => ?_)
            · replace h := ite_t hc h
              clear hc
              refine cseq ?_
              refine cregion ?_
              refine sv rfl (opv_fieldAddr_lp fi71_3 rfl) ?_
              refine sv rfl (opv_load1 ti3 rfl (.lp _ _ _ rfl) rfl) ?_
              refine sv rfl (opv_leq rfl rfl) ?_
              refine sv rfl (opv_as rfl) ?_
              refine snil ?_
              refine cret ?_
              refine block_ret ?_
              refine then_ret ?_
              obtain rfl := Option.some.inj h
              refine ⟨Or.inr rfl, _, _, _, (resVs_cons (ResV.tmp _ _ rfl) resVs_nil), (pubA_id rfl), ?_⟩
              rfl
            · replace h := ite_f hc h
              clear hc
              refine cskip ?_
              refine block_normal ?_
              refine then_normal ?_
              refine cseq ?_
              refine cregion ?_
              refine sv rfl (opv_as rfl) ?_
              refine snil ?_
              refine cret ?_
              obtain rfl := Option.some.inj h
              refine ⟨Or.inr rfl, _, _, _, (resVs_cons (ResV.tmp _ _ rfl) resVs_nil), (pubA_id rfl), ?_⟩
              rfl
      · skip
        refine ccond rfl (fun hc => ?_) (fun hc => ?_)
        · replace h := ite_t hc h
          clear hc
          refine cskip ?_
          refine then_normal ?_
          exact ⟨(decide (a0.What = 1)), _, h, ⟨rfl, rfl, rfl, trivial⟩, rfl⟩
        · replace h := ite_f hc h
          clear hc
          refine cseq ?_
          refine cregion ?_
          refine sv rfl (opv_ieql rfl rfl) ?_
          refine sv rfl (opv_as rfl) ?_
          refine snil ?_
          refine ccond rfl (fun hc => ?_) (fun hc => ?_)
          · replace h := ite_t hc h
            clear hc
            refine cskip ?_
            refine then_normal ?_
            exact ⟨(decide (a0.What = 2)), _, h, ⟨rfl, rfl, rfl, trivial⟩, rfl⟩
          · replace h := ite_f hc h
            clear hc
            refine cregion ?_
            refine sv rfl (opv_ieql rfl rfl) ?_
            refine sv rfl (opv_as rfl) ?_
            refine snil ?_
            exact ⟨(decide (a0.What = 3)), _, h, ⟨rfl, rfl, rfl, trivial⟩, rfl⟩
    · skip
      refine cdraw mixed (by kernel_rfl) ?_
      refine dv rfl (opv_fieldAddr_lp fi71_4 rfl) ?_
      refine dv rfl (opv_load1 ti42 rfl (.lp _ _ _ rfl) rfl) ?_
      refine dv rfl (opv_len_sl si42 rfl) ?_
      refine dv rfl (opv_gtr rfl rfl) ?_
      refine dv rfl (opv_fieldAddr_lp fi71_5 rfl) ?_
      refine dv rfl (opv_loadN ti44 rfl (.lp _ _ _ rfl) (Nat.le_of_ble_eq_true rfl)) ?_
      obtain ⟨v7, hv7, h⟩ := bind_eq h
      refine dd rfl (opD_call fn47 (opnds_cons rfl opnds_nil) rfl (m47_prog_hasRange_c hv7)) ?_
      refine dv rfl (opv_mv rfl) ?_
      refine dv rfl (opv_builda zi105 ai105 (parts_cons rfl (parts_cons rfl (parts_cons rfl parts_nil))) (.cons _ _ _ _ _ _ _ rfl rfl (Nat.le_of_ble_eq_true rfl) (.cons _ _ _ _ _ _ _ rfl rfl (Nat.le_of_ble_eq_true rfl) (.cons _ _ _ _ _ _ _ rfl rfl (Nat.le_of_ble_eq_true rfl) (.nil _))))) ?_
      refine dv rfl (opv_loadN ti105 rfl (.lp _ _ _ rfl) (Nat.le_of_ble_eq_true rfl)) ?_
      refine dv rfl (opv_dneq ed105 rfl rfl rfl rfl rfl) ?_
      refine dv rfl (opv_mv rfl) ?_
      refine dsplit 46 rfl (fun hc => ?_) (fun hc => ?_)
      · replace h := ite_t hc h
        clear hc
        refine doff rfl rfl rfl rfl ?_
        refine doff rfl rfl rfl rfl ?_
        refine doffu rfl rfl rfl ?_
        refine doff rfl rfl rfl rfl ?_
        refine dv rfl (opv_pick_t rfl rfl) ?_
        refine dnil ?_
        refine then_normal ?_
        refine ccond rfl (fun _ => ?_) (fun hx => Bool.noConfusion hx)
        refine cseq ?_
        refine cregion ?_
        refine sv rfl (opv_as rfl) ?_
        refine snil ?_
        refine cret ?_
        refine then_ret ?_
        obtain rfl := Option.some.inj h
        refine ⟨Or.inr rfl, _, _, _, (resVs_cons (ResV.tmp _ _ rfl) resVs_nil), (pubA_id rfl), ?_⟩
        rfl
      · replace h := ite_f hc h
        clear hc
        refine dvg rfl rfl rfl (opv_mv rfl) ?_
        refine dvg rfl rfl rfl (opv_mv rfl) ?_
        refine dsplit 48 rfl (fun hc => ?_) (fun hc => ?_)
        · replace h := ite_t hc h
          clear hc
          refine dvg rfl rfl rfl (opv_mv rfl) ?_
          refine dvg rfl rfl rfl (opv_pick_t rfl rfl) ?_
          refine dv rfl (opv_pick_f rfl rfl) ?_
          refine dnil ?_
          refine then_normal ?_
          refine ccond rfl (fun hc => ?_) (fun hc => ?_)
          · replace h := ite_t hc h
            clear hc
            refine cseq ?_
            refine cregion ?_
            refine sv rfl (opv_as rfl) ?_
            refine snil ?_
            refine cret ?_
            refine then_ret ?_
            obtain rfl := Option.some.inj h
            refine ⟨Or.inr rfl, _, _, _, (resVs_cons (ResV.tmp _ _ rfl) resVs_nil), (pubA_id rfl), ?_⟩
            rfl
          · replace h := ite_f hc h
            clear hc
            refine cskip ?_
            refine then_normal ?_
            exact ⟨(), _, h, ⟨rfl, trivial⟩, rfl⟩
        · replace h := ite_f hc h
          clear hc
          refine doff rfl rfl rfl rfl ?_
          refine dvg rfl rfl rfl (opv_pick_f rfl rfl) ?_
          refine dv rfl (opv_pick_f rfl rfl) ?_
          refine dnil ?_
          refine then_normal ?_
          refine ccond rfl (fun hx => Bool.noConfusion hx) (fun _ => ?_)
          refine cskip ?_
          refine then_normal ?_
          exact ⟨(), _, h, ⟨rfl, trivial⟩, rfl⟩
  · skip
    refine cregion ?_
    refine sv rfl (opv_fieldAddr_lp fi71_0 rfl) ?_
    refine sv rfl (opv_load1 ti3 rfl (.lp _ _ _ rfl) rfl) ?_
    refine sv rfl (opv_sub rfl rfl) ?_
    obtain ⟨v8, hv8, h⟩ := bind_eq h
    refine scall1 rfl fn37 (opnds_cons rfl (opnds_cons rfl opnds_nil)) (pubA_id rfl) (m37_prog_within_c hv8) ?_
    refine sv rfl (opv_not rfl) ?_
    refine sv rfl (opv_mv rfl) ?_
    refine ssplit 12 rfl (fun hc => ?_) (fun hc => ?_)
    · replace h := ite_t hc h
      clear hc
      refine soff rfl rfl rfl rfl ?_
      refine soff rfl rfl rfl rfl ?_
      refine soff rfl rfl rfl rfl ?_
      refine soff rfl rfl rfl rfl ?_
      refine sv rfl (opv_pick_t rfl rfl) ?_
      refine sv rfl (opv_mv rfl) ?_
      refine soff rfl rfl rfl rfl ?_
      refine soff rfl rfl rfl rfl ?_
      refine soff rfl rfl rfl rfl ?_
      refine soff rfl rfl rfl rfl ?_
      refine sv rfl (opv_pick_t rfl rfl) ?_
      refine sv rfl (opv_mv rfl) ?_
      refine soff rfl rfl rfl rfl ?_
      refine soff rfl rfl rfl rfl ?_
      refine soff rfl rfl rfl rfl ?_
      refine soff rfl rfl rfl rfl ?_
      refine sv rfl (opv_pick_t rfl rfl) ?_
      refine snil ?_
      refine ccond rfl (fun _ => ?_) (fun hx => Bool.noConfusion hx)
      refine cseq ?_
      refine cregion ?_
      refine sv rfl (opv_as rfl) ?_
      refine snil ?_
      refine cret ?_
      refine then_ret ?_
      obtain rfl := Option.some.inj h
      refine ⟨Or.inr rfl, _, _, _, (resVs_cons (ResV.tmp _ _ rfl) resVs_nil), (pubA_id rfl), ?_⟩
      rfl
    · replace h := ite_f hc h
      clear hc
      refine son rfl rfl rfl ?_
      refine sv rfl (opv_fieldAddr_lp fi71_1 rfl) ?_
      refine son rfl rfl rfl ?_
      refine sv rfl (opv_load1 ti3 rfl (.lp _ _ _ rfl) rfl) ?_
      refine son rfl rfl rfl ?_
      obtain ⟨v9, hv9, h⟩ := bind_eq h
      refine scall1 rfl fn37 (opnds_cons rfl (opnds_cons rfl opnds_nil)) (pubA_id rfl) (m37_prog_within_c hv9) ?_
      refine son rfl rfl rfl ?_
      refine sv rfl (opv_not rfl) ?_
      refine sv rfl (opv_pick_f rfl rfl) ?_
      refine sv rfl (opv_mv rfl) ?_
      refine ssplit 18 rfl (fun hc => ?_) (fun hc => ?_)
      · replace h := ite_t hc h
        clear hc
        refine soff rfl rfl rfl rfl ?_
        refine soff rfl rfl rfl rfl ?_
        refine soff rfl rfl rfl rfl ?_
        refine soff rfl rfl rfl rfl ?_
        refine sv rfl (opv_pick_t rfl rfl) ?_
        refine sv rfl (opv_mv rfl) ?_
        refine soff rfl rfl rfl rfl ?_
        refine soff rfl rfl rfl rfl ?_
        refine soff rfl rfl rfl rfl ?_
        refine soff rfl rfl rfl rfl ?_
        refine sv rfl (opv_pick_t rfl rfl) ?_
        refine snil ?_
        refine ccond rfl (fun _ => ?_) (fun hx => Bool.noConfusion hx)
        refine cseq ?_
        refine cregion ?_
        refine sv rfl (opv_as rfl) ?_
        refine snil ?_
        refine cret ?_
        refine then_ret ?_
        obtain rfl := Option.some.inj h
        refine ⟨Or.inr rfl, _, _, _, (resVs_cons (ResV.tmp _ _ rfl) resVs_nil), (pubA_id rfl), ?_⟩
        rfl
      · replace h := ite_f hc h
        clear hc
        refine son rfl rfl rfl ?_
        refine sv rfl (opv_fieldAddr_lp fi71_2 rfl) ?_
        refine son rfl rfl rfl ?_
        refine sv rfl (opv_load1 ti3 rfl (.lp _ _ _ rfl) rfl) ?_
        refine son rfl rfl rfl ?_
        obtain ⟨v10, hv10, h⟩ := bind_eq h
        refine scall1 rfl fn37 (opnds_cons rfl (opnds_cons rfl opnds_nil)) (pubA_id rfl) (m37_prog_within_c hv10) ?_
        refine son rfl rfl rfl ?_
        refine sv rfl (opv_not rfl) ?_
        refine sv rfl (opv_pick_f rfl rfl) ?_
        refine sv rfl (opv_mv rfl) ?_
        refine ssplit 24 rfl (fun hc => ?_) (fun hc => ?_)
        · replace h := ite_t hc h
          clear hc
          refine soff rfl rfl rfl rfl ?_
          refine soff rfl rfl rfl rfl ?_
          refine soff rfl rfl rfl rfl ?_
          refine soff rfl rfl rfl rfl ?_
          refine sv rfl (opv_pick_t rfl rfl) ?_
          refine snil ?_
          refine ccond rfl (fun _ => ?_) (fun hx => Bool.noConfusion hx)
          refine cseq ?_
          refine cregion ?_
          refine sv rfl (opv_as rfl) ?_
          refine snil ?_
          refine cret ?_
          refine then_ret ?_
          obtain rfl := Option.some.inj h
          refine ⟨Or.inr rfl, _, _, _, (resVs_cons (ResV.tmp _ _ rfl) resVs_nil), (pubA_id rfl), ?_⟩
          rfl
        · replace h := ite_f hc h
          clear hc
          refine son rfl rfl rfl ?_
          refine sv rfl (opv_fieldAddr_lp fi71_3 rfl) ?_
          refine son rfl rfl rfl ?_
          refine sv rfl (opv_load1 ti3 rfl (.lp _ _ _ rfl) rfl) ?_
          refine son rfl rfl rfl ?_
          obtain ⟨v11, hv11, h⟩ := bind_eq h
          refine scall1 rfl fn37 (opnds_cons rfl (opnds_cons rfl opnds_nil)) (pubA_id rfl) (m37_prog_within_c hv11) ?_
          refine son rfl rfl rfl ?_
          refine sv rfl (opv_not rfl) ?_
          refine sv rfl (opv_pick_f rfl rfl) ?_
          refine snil ?_
          refine ccond rfl (fun hc => ?_) (fun hc => ?_)
          · replace h := ite_t hc h
            clear hc
            refine cseq ?_
            refine cregion ?_
            refine sv rfl (opv_as rfl) ?_
            refine snil ?_
            refine cret ?_
            refine then_ret ?_
            obtain rfl := Option.some.inj h
            refine ⟨Or.inr rfl, _, _, _, (resVs_cons (ResV.tmp _ _ rfl) resVs_nil), (pubA_id rfl), ?_⟩
            rfl
          · replace h := ite_f hc h
            clear hc
            refine cskip ?_
            refine then_normal ?_
            exact ⟨(), _, h, ⟨rfl, rfl, trivial⟩, rfl⟩

def m15_prog_Sane_k1 (a0 : GProgProg) (b1 : Unit) : Option Bool :=
  some (decide ((a0.Ops.length : Int) ≤ 24))

def m15_prog_Sane_s2 (a0 : GProgProg) (s2 : Int) : Option (LR (Int) (Unit) (Bool)) :=
  if (decide (s2 < (a0.Ops.length : Int))) then ((idx a0.Ops s2).bind fun u3 => (m31_prog_saneOp (GProgOp.mk u3.What u3.A u3.B u3.N u3.Key (GApiRange.mk u3.Rng.Lo u3.Rng.Hi u3.Rng.Open)) a0.RO).bind fun v4 => if (!v4) then (some (.ret false)) else (some (.cont (wI (s2 + 1))))) else (some (.brk ()))
def m15_prog_Sane (a0 : GProgProg) : Option Bool :=
  (iter (m15_prog_Sane_s2 a0) fuel 0).bind fun x => match x with | .inl r => some r | .inr e5 => m15_prog_Sane_k1 a0 e5

set_option maxRecDepth 100000 in
theorem m15_prog_Sane_c {a0 : GProgProg} {r : Bool} (h : m15_prog_Sane a0 = some r) : CallsA Try.prog 15 [.agg a0] (· = .s (.one (.b r))) := by
  unfold m15_prog_Sane at h
  refine callsA_of Try.func15 rfl (nt := 22) rfl (Nat.le_of_ble_eq_true rfl) ?_
  intro w0 S0
  refine cseq ?_
  refine cregion ?_
  refine sbox rfl rfl ?_
  refine sv rfl (opv_as rfl) ?_
  refine snil ?_
  refine cseq ?_
  refine cseq ?_
  refine cregion ?_
  refine sv rfl (opv_fieldAddr_lp fi31_1 rfl) ?_
  refine sv rfl (opv_load1 ti29 rfl (.lp _ _ _ rfl) rfl) ?_
  refine sv rfl (opv_len_sl si29 rfl) ?_
  refine sv rfl (opv_mv rfl) ?_
  refine snil ?_
  refine cjoin (Unit) (fun b1 => [(1, .s (.one (.lp 0 0)))]) (fun b1 => [.box a0]) (fun b1 => m15_prog_Sane_k1 a0 b1 = some r) (fun _ _ => inbL_of rfl) (fun _ _ => blkinb_of rfl) (fun _ _ => Nat.le_of_ble_eq_true rfl) (fun b1 h => ?_) ?_
  · unfold m15_prog_Sane_k1 at h
    refine cseq ?_
    refine cregion ?_
    refine sv rfl (opv_fieldAddr_lp fi31_1 rfl) ?_
    refine sv rfl (opv_load1 ti29 rfl (.lp _ _ _ rfl) rfl) ?_
    refine sv rfl (opv_len_sl si29 rfl) ?_
    refine sv rfl (opv_leq rfl rfl) ?_
    refine sv rfl (opv_as rfl) ?_
    refine snil ?_
    refine cret ?_
    obtain rfl := Option.some.inj h
    refine ⟨Or.inr rfl, _, _, _, (resVs_cons (ResV.tmp _ _ rfl) resVs_nil), (pubA_id rfl), ?_⟩
    rfl
  · skip
    refine cblock ?_
    obtain ⟨x2, hx2, ho2⟩ := bind_eq h
    refine awc_loop (G := Nat × (Int)) (fun g => [(1, .s (.one (.lp 0 0))), (6, .s (.one (.sl a0.Ops.length (a0.Ops.flatMap eGProgOp)))), (7, .s (.one (.i .i64 (a0.Ops.length : Int)))), (8, .s (.one (.i .i64 g.2)))]) (fun g => [.box a0]) (fun g => iter (m15_prog_Sane_s2 a0) g.1 g.2 = some x2) (fun g => g.1) (fuel, 0) hx2 ⟨rfl, rfl, rfl, rfl, trivial⟩ [] rfl (fun _ _ => inbL_of rfl) (fun _ _ => blkinb_of rfl) (fun _ _ => Nat.le_of_ble_eq_true rfl) ?_
    clear hx2 h
    rintro ⟨n2, s2⟩ h
    obtain ⟨n2, y2, rfl, h, hk2⟩ := iter_eq h
    unfold m15_prog_Sane_s2 at h
    refine cseq ?_
    refine cregion ?_
    refine sv rfl (opv_lss rfl rfl) ?_
    refine snil ?_
    refine cseq ?_
    refine ccond rfl (fun hc => ?_) (fun hc => ?_)
    · replace h := ite_t hc h
      clear hc
      refine cskip ?_
      refine then_normal ?_
      refine cseq ?_
      refine cblock ?_
      refine cseq ?_
      refine cregion ?_
      obtain ⟨u3, hu3, h⟩ := bind_eq h
      refine sv rfl (opv_ix (f := eGProgOp) si29 (fun _ => rfl) rfl rfl rfl rfl hu3) ?_
      refine sv rfl (opv_loadNe (ys := [.i .i64 u3.What, .i .i64 u3.A, .i .i64 u3.B, .i .i64 u3.N, .sl u3.Key.length (u3.Key.flatMap eU8), .sl u3.Rng.Lo.length (u3.Rng.Lo.flatMap eU8), .sl u3.Rng.Hi.length (u3.Rng.Hi.flatMap eU8), .b u3.Rng.Open]) ti71 rfl (.cp _) rfl rfl) ?_
      refine salloc rfl zi71 ?_
      refine sstore sz71 rfl rfl rfl rfl (Nat.le_of_ble_eq_true rfl) ?_
      refine smem [.box a0, .box u3] rfl ?_
      refine snil ?_
      refine cseq ?_
      refine cregion ?_
      refine sv rfl (opv_loadN ti71 rfl (.lp _ _ _ rfl) (Nat.le_of_ble_eq_true rfl)) ?_
      refine sv rfl (opv_fieldAddr_lp fi31_0 rfl) ?_
      refine sv rfl (opv_load1 ti4 rfl (.lp _ _ _ rfl) rfl) ?_
      obtain ⟨v4, hv4, h⟩ := bind_eq h
      refine scall1 rfl fn31 (opnds_cons rfl (opnds_cons rfl opnds_nil)) (pubA_id rfl) (m31_prog_saneOp_c hv4) ?_
      refine sv rfl (opv_not rfl) ?_
      refine snil ?_
      refine ccond rfl (fun hc => ?_) (fun hc => ?_)
      · replace h := ite_t hc h
        clear hc
        refine cseq ?_
        refine cregion ?_
        refine sv rfl (opv_as rfl) ?_
        refine snil ?_
        refine cret ?_
        refine block_ret ?_
        refine then_ret ?_
        refine then_ret ?_
        refine block_ret ?_
        refine then_ret ?_
        obtain rfl := Option.some.inj h
        obtain rfl : Sum.inl _ = x2 := hk2
        replace ho2 : some _ = some _ := ho2
        obtain rfl := Option.some.inj ho2
        refine ⟨Or.inr rfl, _, _, _, (resVs_cons (ResV.tmp _ _ rfl) resVs_nil), (pubA_id rfl), ?_⟩
        rfl
      · replace h := ite_f hc h
        clear hc
        refine cskip ?_
        refine block_normal ?_
        refine then_normal ?_
        refine cregion ?_
        refine sv rfl (opv_add rfl rfl) ?_
        refine sv rfl (opv_mv rfl) ?_
        refine snil ?_
        obtain rfl := Option.some.inj h
        exact ⟨(n2, (wI (s2 + 1))), _, hk2, ⟨rfl, rfl, rfl, rfl, trivial⟩, rfl, Nat.lt_succ_self _⟩
    · replace h := ite_f hc h
      clear hc
      refine cexit ?_
      refine then_exit ?_
      refine then_exit ?_
      refine block_hit ?_
      refine then_normal ?_
      obtain rfl := Option.some.inj h
      obtain rfl : _ = x2 := hk2
      exact ⟨(), _, ho2, ⟨rfl, trivial⟩, rfl⟩

def m28_prog_rises_k1 (b1 : (List (List UInt8))) : Option Bool :=
  (m42_keys_Sorted b1).bind fun v2 => some v2

def m28_prog_rises_s3 (a0 : List GApiKV) (s3 : Int × (List (List UInt8))) : Option (LB (Int × (List (List UInt8))) ((List (List UInt8)))) :=
  if (decide (s3.1 < (a0.length : Int))) then ((idx a0 s3.1).bind fun u4 => if (s3.2.length + [u4.Key].length) * 24 ≤ 140737488355328 then (some (.cont ((wI (s3.1 + 1)), (s3.2 ++ [u4.Key])))) else none) else (some (.brk s3.2))
def m28_prog_rises (a0 : List GApiKV) : Option Bool :=
  (iterB (m28_prog_rises_s3 a0) fuel (0, ([] : List (List UInt8)))).bind fun e6 => m28_prog_rises_k1 e6

set_option maxRecDepth 100000 in
theorem m28_prog_rises_c {a0 : List GApiKV} {r : Bool} (h : m28_prog_rises a0 = some r) : CallsA Try.prog 28 [.one (.sl a0.length (a0.flatMap eGApiKV))] (· = .s (.one (.b r))) := by
  unfold m28_prog_rises at h
  refine callsA_of Try.func28 rfl (nt := 20) rfl (Nat.le_of_ble_eq_true rfl) ?_
  intro w0 S0
  refine cseq ?_
  refine cregion ?_
  refine sv rfl (opv_as rfl) ?_
  refine snil ?_
  refine cseq ?_
  refine cregion ?_
  refine sv rfl (opv_as rfl) ?_
  refine snil ?_
  refine cseq ?_
  refine cseq ?_
  refine cregion ?_
  refine sv rfl (opv_mv rfl) ?_
  refine sv rfl (opv_len_sl si25 rfl) ?_
  refine sv rfl (opv_mv rfl) ?_
  refine snil ?_
  refine sadopt_c 42 1 3 (by decide) rfl ?_
  refine cjoin ((List (List UInt8))) (fun b1 => [(3, .s (.one (.ls 0 b1.length)))]) (fun b1 => [.arr 42 1 0 (b1.flatMap (eL eU8))]) (fun b1 => m28_prog_rises_k1 b1 = some r) (fun _ _ => inbL_of rfl) (fun _ _ => blkinb_of rfl) (fun _ _ => Nat.le_of_ble_eq_true rfl) (fun b1 h => ?_) ?_
  · unfold m28_prog_rises_k1 at h
    refine cseq ?_
    refine cregion ?_
    refine sv rfl (opv_mv rfl) ?_
    refine spub 18 rfl (by (repeat' first | exact PubA.nil _ | apply PubA.cons | apply PubV.one | apply PubV.agg | exact PubL.nil | exact PubL.ls _ _ _ _ _ _ rfl (flat_len (f := (eL eU8)) (fun _ => rfl) _).symm | exact PubL.id _ rfl | exact PubLs.nil _ | apply PubLs.cons)) ?_
    obtain ⟨v2, hv2, h⟩ := bind_eq h
    refine scall1 rfl fn42 (opnds_cons rfl opnds_nil) (pubA_id rfl) (m42_keys_Sorted_c hv2) ?_
    refine sv rfl (opv_as rfl) ?_
    refine snil ?_
    refine cret ?_
    obtain rfl := Option.some.inj h
    refine ⟨Or.inr rfl, _, _, _, (resVs_cons (ResV.tmp _ _ rfl) resVs_nil), (pubA_id rfl), ?_⟩
    rfl
  · skip
    refine cblock ?_
    obtain ⟨x3, hx3, ho3⟩ := bind_eq h
    refine awc_loop (G := Nat × (Int × (List (List UInt8)))) (fun g => [(3, .s (.one (.ls 0 g.2.2.length))), (6, .s (.one (.sl a0.length (a0.flatMap eGApiKV)))), (7, .s (.one (.i .i64 (a0.length : Int)))), (8, .s (.one (.i .i64 g.2.1)))]) (fun g => [.arr 42 1 0 (g.2.2.flatMap (eL eU8))]) (fun g => iterB (m28_prog_rises_s3 a0) g.1 g.2 = some x3) (fun g => g.1) (fuel, (0, ([] : List (List UInt8)))) hx3 ⟨rfl, rfl, rfl, rfl, trivial⟩ [] rfl (fun _ _ => inbL_of rfl) (fun _ _ => blkinb_of rfl) (fun _ _ => Nat.le_of_ble_eq_true rfl) ?_
    clear hx3 h
    rintro ⟨n3, s3⟩ h
    obtain ⟨n3, y3, rfl, h, hk3⟩ := iterB_eq h
    unfold m28_prog_rises_s3 at h
    refine cseq ?_
    refine cregion ?_
    refine sv rfl (opv_lss rfl rfl) ?_
    refine snil ?_
    refine cseq ?_
    refine ccond rfl (fun hc => ?_) (fun hc => ?_)
    · replace h := ite_t hc h
      clear hc
      refine cskip ?_
      refine then_normal ?_
      refine cseq ?_
      refine cblock ?_
      refine cseq ?_
      refine cregion ?_
      obtain ⟨u4, hu4, h⟩ := bind_eq h
      refine sv rfl (opv_ix (f := eGApiKV) si25 (fun _ => rfl) rfl rfl rfl rfl hu4) ?_
      refine sv rfl (opv_loadNe (ys := [.sl u4.Key.length (u4.Key.flatMap eU8), .sl u4.Val.length (u4.Val.flatMap eU8)]) ti65 rfl (.cp _) rfl rfl) ?_
      refine salloc rfl zi65 ?_
      refine sstore sz65 rfl rfl rfl rfl (Nat.le_of_ble_eq_true rfl) ?_
      refine smem [.arr 42 1 0 (s3.2.flatMap (eL eU8)), .box u4] rfl ?_
      refine snil ?_
      refine cregion ?_
      refine sv rfl (opv_mv rfl) ?_
      refine sv rfl (opv_fieldAddr_lp fi65_0 rfl) ?_
      refine sv rfl (opv_load1 ti42 rfl (.lp _ _ _ rfl) rfl) ?_
      refine sbuild1 rfl Try.underlying98 ei42 rfl rfl (List.all_eq_true.1 rfl) (by decide) ?_
      refine smem [.arr 42 1 0 (s3.2.flatMap (eL eU8)), .box u4, .arr 42 1 0 ([u4.Key].flatMap (eL eU8))] rfl ?_
      obtain ⟨hb5, h⟩ := chk_eq h
      refine sapp (f := (eL eU8)) (xs := s3.2) (us := [u4.Key]) rfl Try.underlying98 ei42 ni98 (fun _ => rfl) rfl rfl (.one _ _ _ _ (.ls _ _ _ _ _ _ rfl (flat_len (f := (eL eU8)) (fun _ => rfl) [u4.Key]).symm)) rfl rfl rfl (.sl _ _ _ (flat_len (f := (eL eU8)) (fun _ => rfl) _)) rfl rfl hb5 (by decide) ?_
      refine sv rfl (opv_as rfl) ?_
      refine snil0 ?_
      refine block_normal ?_
      refine then_normal ?_
      refine cregion ?_
      refine sv rfl (opv_add rfl rfl) ?_
      refine sv rfl (opv_mv rfl) ?_
      refine snil ?_
      obtain rfl := Option.some.inj h
      exact ⟨(n3, ((wI (s3.1 + 1)), (s3.2 ++ [u4.Key]))), _, hk3, ⟨rfl, rfl, rfl, rfl, trivial⟩, rfl, Nat.lt_succ_self _⟩
    · replace h := ite_f hc h
      clear hc
      refine cexit ?_
      refine then_exit ?_
      refine then_exit ?_
      refine block_hit ?_
      refine then_normal ?_
      obtain rfl := Option.some.inj h
      obtain rfl : _ = x3 := hk3
      exact ⟨s3.2, _, ho3, ⟨rfl, trivial⟩, rfl⟩

def m32_prog_asks (a0 : GProgOp) : Option Bool :=
  (m46_prog_flagsOf a0.What).bind fun v1 => some (!((v1.R0 == false) && ((v1.R1 == false) && ((v1.R2 == false) && true))))

set_option maxRecDepth 100000 in
theorem m32_prog_asks_c {a0 : GProgOp} {r : Bool} (h : m32_prog_asks a0 = some r) : CallsA Try.prog 32 [.agg a0] (· = .s (.one (.b r))) := by
  unfold m32_prog_asks at h
  refine callsA_of Try.func32 rfl (nt := 8) rfl (Nat.le_of_ble_eq_true rfl) ?_
  intro w0 S0
  refine cseq ?_
  refine cregion ?_
  refine sbox rfl rfl ?_
  refine sv rfl (opv_as rfl) ?_
  refine snil ?_
  refine cseq ?_
  refine cregion ?_
  refine sv rfl (opv_fieldAddr_lp fi71_0 rfl) ?_
  refine sv rfl (opv_load1 ti3 rfl (.lp _ _ _ rfl) rfl) ?_
  obtain ⟨v1, hv1, h⟩ := bind_eq h
  refine scall1 rfl fn46 (opnds_cons rfl opnds_nil) (pubA_id rfl) (m46_prog_flagsOf_c hv1) ?_
  refine sv rfl (opv_builda zi105 ai105 parts_nil (.nil _)) ?_
  refine sv rfl (opv_dneq ed105 rfl rfl rfl rfl rfl) ?_
  refine sv rfl (opv_as rfl) ?_
  refine snil ?_
  refine cret ?_
  obtain rfl := Option.some.inj h
  refine ⟨Or.inr rfl, _, _, _, (resVs_cons (ResV.tmp _ _ rfl) resVs_nil), (pubA_id rfl), ?_⟩
  rfl

def m68_slices_Growo_k1 (a0 : Int) (b1 : Unit) : Option (List UInt8) :=
  if (decide (0 < (wI (a0 - (wI (0 - 0)))))) then (if 0 < (wI (a0 - (wI (0 - 0)))) ∧ (wI (a0 - (wI (0 - 0)))) * ((1 : Nat) : Int) ≤ 281474976710656 then (if (0 : Int) ≤ 0 ∧ 0 ≤ ((List.replicate (wI (a0 - (wI (0 - 0)))).toNat (0 : UInt8)).length : Int) then (some ((List.replicate (wI (a0 - (wI (0 - 0)))).toNat (0 : UInt8)).take (0 : Int).toNat)) else none) else none) else (some ([] : List UInt8))
def m68_slices_Growo (a0 : Int) : Option (List UInt8) :=
  if (decide (a0 < 0)) then none else (m68_slices_Growo_k1 a0 ())

set_option maxRecDepth 100000 in
theorem m68_slices_Growo_c {a0 : Int} {r : (List UInt8)} (h : m68_slices_Growo a0 = some r) : CallsB Try.prog 68 [] [.one (.raw (.slice none 0 0)), .one (.i .i64 a0)] (fun y m' => y = .s (.one (.ls 0 r.length)) ∧ m' = [.arr 5 1 0 (r.flatMap eU8)]) := by
  unfold m68_slices_Growo at h
  refine callsB_of Try.func68 rfl (nt := 27) rfl (Nat.le_of_ble_eq_true rfl) ?_
  intro w0 S0 X0 H0
  refine cseq ?_
  refine cregion ?_
  refine sv rfl (opv_as rfl) ?_
  refine snil ?_
  refine cseq ?_
  refine cseq ?_
  refine cregion ?_
  refine sv rfl (opv_mv rfl) ?_
  refine sv rfl (opv_lss rfl rfl) ?_
  refine snil ?_
  refine cjoin (Unit) (fun b1 => [(0, .s (.one (.raw (.slice none 0 0)))), (1, .s (.one (.i .i64 a0)))]) (fun b1 => []) (fun b1 => m68_slices_Growo_k1 a0 b1 = some r) (fun _ _ => inbL_of rfl) (fun _ _ => blkinb_of rfl) (fun _ _ => Nat.le_of_ble_eq_true rfl) (fun b1 h => ?_) ?_
  · unfold m68_slices_Growo_k1 at h
    refine cseq ?_
    refine cseq ?_
    refine cregion ?_
    refine sv rfl (opv_mv rfl) ?_
    refine sv rfl (opv_mv rfl) ?_
    refine sv rfl (opv_cap_nil si42 rfl) ?_
    refine sv rfl (opv_mv rfl) ?_
    refine sv rfl (opv_len_nil si42 rfl) ?_
    refine sv rfl (opv_sub rfl rfl) ?_
    refine sv rfl (opv_sub rfl rfl) ?_
    refine sv rfl (opv_as rfl) ?_
    refine snil ?_
    refine cseq ?_
    refine cregion ?_
    refine sv rfl (opv_mv rfl) ?_
    refine sv rfl (opv_gtr rfl rfl) ?_
    refine snil ?_
    refine ccond rfl (fun hc => ?_) (fun hc => ?_)
    · replace h := ite_t hc h
      clear hc
      refine cregion ?_
      refine sv rfl (opv_mv rfl) ?_
      refine sv rfl (opv_mv rfl) ?_
      refine sv rfl (opv_cap_nil si42 rfl) ?_
      refine sv rfl (opv_slice_nil si42 rfl rfl) ?_
      refine sv rfl (opv_mv rfl) ?_
      obtain ⟨hm2, h⟩ := chk_eq h
      refine sappz (f := eU8) (z := (0 : UInt8)) rfl Try.underlying42 ei5 Try.underlying3 (fun _ => rfl) rfl rfl rfl hm2 (by decide) ?_
      refine sv rfl (opv_mv rfl) ?_
      refine sv rfl (opv_len_nil si42 rfl) ?_
      obtain ⟨hs3, h⟩ := chk_eq h
      refine strunc (f := eU8) rfl si42 (fun _ => rfl) rfl rfl rfl rfl rfl hs3 ?_
      refine sv rfl (opv_as rfl) ?_
      refine snil ?_
      refine cseq ?_
      refine cregion ?_
      refine sv rfl (opv_mv rfl) ?_
      refine sv rfl (opv_as rfl) ?_
      refine snil ?_
      refine cret ?_
      obtain rfl := Option.some.inj h
      exact ⟨Or.inr rfl, _, [1], [.one (.ls 0 ((List.replicate (wI (a0 - (wI (0 - 0)))).toNat (0 : UInt8)).take (0 : Int).toNat).length)], [.arr 5 1 0 (((List.replicate (wI (a0 - (wI (0 - 0)))).toNat (0 : UInt8)).take (0 : Int).toNat).flatMap eU8)], (resVs_cons (ResV.tmp _ _ rfl) resVs_nil), rfl, rfl, ⟨by decide, rfl⟩, rfl, rfl, ⟨rfl, rfl⟩⟩
    · replace h := ite_f hc h
      clear hc
      refine cskip ?_
      refine then_normal ?_
      refine cseq ?_
      refine cregion ?_
      refine sv rfl (opv_mv rfl) ?_
      refine sv rfl (opv_as rfl) ?_
      refine snil ?_
      refine sadopt_c 5 1 4 (by decide) rfl ?_
      refine cret ?_
      obtain rfl := Option.some.inj h
      exact ⟨Or.inr rfl, _, [0], [.one (.ls 0 ([] : List UInt8).length)], [.arr 5 1 0 (([] : List UInt8).flatMap eU8)], (resVs_cons (ResV.tmp _ _ rfl) resVs_nil), rfl, rfl, ⟨by decide, rfl⟩, rfl, rfl, ⟨rfl, rfl⟩⟩
  · skip
    refine ccond rfl (fun hc => ?_) (fun hc => ?_)
    · replace h := ite_t hc h
      clear hc
      cases h
    · replace h := ite_f hc h
      clear hc
      refine cskip ?_
      refine then_normal ?_
      exact ⟨(), _, h, ⟨rfl, rfl, trivial⟩, rfl⟩

def m52_slices_Concato_k3 (b3 : (List UInt8)) : Option (List UInt8) :=
  some b3

def m52_slices_Concato_s4 (a0 : List (List UInt8)) (s4 : Int × (List UInt8)) : Option (LB (Int × (List UInt8)) ((List UInt8))) :=
  if (decide (s4.1 < (a0.length : Int))) then ((idx a0 s4.1).bind fun u5 => if (s4.2.length + u5.length) * 1 ≤ 140737488355328 then (some (.cont ((wI (s4.1 + 1)), (s4.2 ++ u5)))) else none) else (some (.brk s4.2))

def m52_slices_Concato_k1 (a0 : List (List UInt8)) (b1 : Int) : Option (List UInt8) :=
  (m68_slices_Growo b1).bind fun v2 => (iterB (m52_slices_Concato_s4 a0) fuel (0, v2)).bind fun e7 => m52_slices_Concato_k3 e7

def m52_slices_Concato_s8 (a0 : List (List UInt8)) (s8 : Int × Int) : Option (LB (Int × Int) (Int)) :=
  if (decide (s8.2 < (a0.length : Int))) then ((idx a0 s8.2).bind fun u9 => if (decide ((wI (s8.1 + (u9.length : Int))) < 0)) then none else (some (.cont ((wI (s8.1 + (u9.length : Int))), (wI (s8.2 + 1)))))) else (some (.brk s8.1))
def m52_slices_Concato (a0 : List (List UInt8)) : Option (List UInt8) :=
  (iterB (m52_slices_Concato_s8 a0) fuel (0, 0)).bind fun e10 => m52_slices_Concato_k1 a0 e10

set_option maxRecDepth 100000 in
theorem m52_slices_Concato_c {a0 : List (List UInt8)} {r : (List UInt8)} (h : m52_slices_Concato a0 = some r) : CallsB Try.prog 52 [] [.one (.sl a0.length (a0.flatMap (eL eU8)))] (fun y m' => y = .s (.one (.ls 0 r.length)) ∧ m' = [.arr 5 1 0 (r.flatMap eU8)]) := by
  unfold m52_slices_Concato at h
  refine callsB_of Try.func52 rfl (nt := 36) rfl (Nat.le_of_ble_eq_true rfl) ?_
  intro w0 S0 X0 H0
  refine cseq ?_
  refine cregion ?_
  refine sv rfl (opv_as rfl) ?_
  refine snil ?_
  refine cseq ?_
  refine cregion ?_
  refine sv rfl (opv_as rfl) ?_
  refine snil ?_
  refine cseq ?_
  refine cseq ?_
  refine cregion ?_
  refine sv rfl (opv_mv rfl) ?_
  refine sv rfl (opv_len_sl si98 rfl) ?_
  refine sv rfl (opv_mv rfl) ?_
  refine snil ?_
  refine cjoin (Int) (fun b1 => [(0, .s (.one (.sl a0.length (a0.flatMap (eL eU8))))), (3, .s (.one (.i .i64 b1)))]) (fun b1 => []) (fun b1 => m52_slices_Concato_k1 a0 b1 = some r) (fun _ _ => inbL_of rfl) (fun _ _ => blkinb_of rfl) (fun _ _ => Nat.le_of_ble_eq_true rfl) (fun b1 h => ?_) ?_
  · unfold m52_slices_Concato_k1 at h
    refine cseq ?_
    refine cregion ?_
    refine sv rfl (opv_mv rfl) ?_
    obtain ⟨v2, hv2, h⟩ := bind_eq h
    refine scallB (x' := .s (.one (.ls 0 v2.length))) (M' := [.arr 5 1 0 (v2.flatMap eU8)]) [] rfl fn68 (.func _) (opnds_cons rfl (opnds_cons rfl opnds_nil)) (m68_slices_Growo_c hv2) rfl rfl (by decide) rfl rfl rfl ?_
    refine sv rfl (opv_as rfl) ?_
    refine snil ?_
    refine cseq ?_
    refine cseq ?_
    refine cregion ?_
    refine sv rfl (opv_mv rfl) ?_
    refine sv rfl (opv_len_sl si98 rfl) ?_
    refine sv rfl (opv_mv rfl) ?_
    refine snil ?_
    refine cjoin ((List UInt8)) (fun b3 => [(6, .s (.one (.ls 0 b3.length)))]) (fun b3 => [.arr 5 1 0 (b3.flatMap eU8)]) (fun b3 => m52_slices_Concato_k3 b3 = some r) (fun _ _ => inbL_of rfl) (fun _ _ => blkinb_of rfl) (fun _ _ => Nat.le_of_ble_eq_true rfl) (fun b3 h => ?_) ?_
    · unfold m52_slices_Concato_k3 at h
      refine cseq ?_
      refine cregion ?_
      refine sv rfl (opv_mv rfl) ?_
      refine sv rfl (opv_as rfl) ?_
      refine snil ?_
      refine cret ?_
      obtain rfl := Option.some.inj h
      exact ⟨Or.inr rfl, _, [0], [.one (.ls 0 b3.length)], [.arr 5 1 0 (b3.flatMap eU8)], (resVs_cons (ResV.tmp _ _ rfl) resVs_nil), rfl, rfl, ⟨by decide, rfl⟩, rfl, rfl, ⟨rfl, rfl⟩⟩
    · skip
      refine cblock ?_
      obtain ⟨x4, hx4, ho4⟩ := bind_eq h
      refine awc_loop (G := Nat × (Int × (List UInt8))) (fun g => [(6, .s (.one (.ls 0 g.2.2.length))), (25, .s (.one (.sl a0.length (a0.flatMap (eL eU8))))), (26, .s (.one (.i .i64 (a0.length : Int)))), (27, .s (.one (.i .i64 g.2.1)))]) (fun g => [.arr 5 1 0 (g.2.2.flatMap eU8)]) (fun g => iterB (m52_slices_Concato_s4 a0) g.1 g.2 = some x4) (fun g => g.1) (fuel, (0, v2)) hx4 ⟨rfl, rfl, rfl, rfl, trivial⟩ [] rfl (fun _ _ => inbL_of rfl) (fun _ _ => blkinb_of rfl) (fun _ _ => Nat.le_of_ble_eq_true rfl) ?_
      clear hx4 h
      rintro ⟨n4, s4⟩ h
      obtain ⟨n4, y4, rfl, h, hk4⟩ := iterB_eq h
      unfold m52_slices_Concato_s4 at h
      refine cseq ?_
      refine cregion ?_
      refine sv rfl (opv_lss rfl rfl) ?_
      refine snil ?_
      refine cseq ?_
      refine ccond rfl (fun hc => ?_) (fun hc => ?_)
      · replace h := ite_t hc h
        clear hc
        refine cskip ?_
        refine then_normal ?_
        refine cseq ?_
        refine cblock ?_
        refine cseq ?_
        refine cregion ?_
        obtain ⟨u5, hu5, h⟩ := bind_eq h
        refine sv rfl (opv_ix (f := (eL eU8)) si98 (fun _ => rfl) rfl rfl rfl rfl hu5) ?_
        refine sv rfl (opv_load1 ti42 rfl (.cp _) rfl) ?_
        refine sv rfl (opv_as rfl) ?_
        refine snil ?_
        refine cregion ?_
        refine sv rfl (opv_mv rfl) ?_
        refine sv rfl (opv_mv rfl) ?_
        obtain ⟨hb6, h⟩ := chk_eq h
        refine sapp (f := eU8) (xs := s4.2) (us := u5) rfl Try.underlying42 ei5 ni42 (fun _ => rfl) rfl rfl (.one _ _ _ _ (.id _ rfl)) rfl rfl rfl (.sl _ _ _ (flat_len (f := eU8) (fun _ => rfl) _)) rfl rfl hb6 (by decide) ?_
        refine sv rfl (opv_as rfl) ?_
        refine snil0 ?_
        refine block_normal ?_
        refine then_normal ?_
        refine cregion ?_
        refine sv rfl (opv_add rfl rfl) ?_
        refine sv rfl (opv_mv rfl) ?_
        refine snil ?_
        obtain rfl := Option.some.inj h
        exact ⟨(n4, ((wI (s4.1 + 1)), (s4.2 ++ u5))), _, hk4, ⟨rfl, rfl, rfl, rfl, trivial⟩, rfl, Nat.lt_succ_self _⟩
      · replace h := ite_f hc h
        clear hc
        refine cexit ?_
        refine then_exit ?_
        refine then_exit ?_
        refine block_hit ?_
        refine then_normal ?_
        obtain rfl := Option.some.inj h
        obtain rfl : _ = x4 := hk4
        exact ⟨s4.2, _, ho4, ⟨rfl, trivial⟩, rfl⟩
  · skip
    refine cblock ?_
    obtain ⟨x8, hx8, ho8⟩ := bind_eq h
    refine awc_loop (G := Nat × (Int × Int)) (fun g => [(0, .s (.one (.sl a0.length (a0.flatMap (eL eU8))))), (3, .s (.one (.i .i64 g.2.1))), (9, .s (.one (.sl a0.length (a0.flatMap (eL eU8))))), (10, .s (.one (.i .i64 (a0.length : Int)))), (11, .s (.one (.i .i64 g.2.2)))]) (fun g => []) (fun g => iterB (m52_slices_Concato_s8 a0) g.1 g.2 = some x8) (fun g => g.1) (fuel, (0, 0)) hx8 ⟨rfl, rfl, rfl, rfl, rfl, trivial⟩ [] rfl (fun _ _ => inbL_of rfl) (fun _ _ => blkinb_of rfl) (fun _ _ => Nat.le_of_ble_eq_true rfl) ?_
    clear hx8 h
    rintro ⟨n8, s8⟩ h
    obtain ⟨n8, y8, rfl, h, hk8⟩ := iterB_eq h
    unfold m52_slices_Concato_s8 at h
    refine cseq ?_
    refine cregion ?_
    refine sv rfl (opv_lss rfl rfl) ?_
    refine snil ?_
    refine cseq ?_
    refine ccond rfl (fun hc => ?_) (fun hc => ?_)
    · replace h := ite_t hc h
      clear hc
      refine cskip ?_
      refine then_normal ?_
      refine cseq ?_
      refine cblock ?_
      refine cseq ?_
      refine cregion ?_
      obtain ⟨u9, hu9, h⟩ := bind_eq h
      refine sv rfl (opv_ix (f := (eL eU8)) si98 (fun _ => rfl) rfl rfl rfl rfl hu9) ?_
      refine sv rfl (opv_load1 ti42 rfl (.cp _) rfl) ?_
      refine sv rfl (opv_as rfl) ?_
      refine snil ?_
      refine cseq ?_
      refine cregion ?_
      refine sv rfl (opv_mv rfl) ?_
      refine sv rfl (opv_mv rfl) ?_
      refine sv rfl (opv_len_sl si42 rfl) ?_
      refine sv rfl (opv_add rfl rfl) ?_
      refine sv rfl (opv_as rfl) ?_
      refine snil ?_
      refine cseq ?_
      refine cregion ?_
      refine sv rfl (opv_mv rfl) ?_
      refine sv rfl (opv_lss rfl rfl) ?_
      refine snil ?_
      refine ccond rfl (fun hc => ?_) (fun hc => ?_)
      · replace h := ite_t hc h
        clear hc
        cases h
      · replace h := ite_f hc h
        clear hc
        refine cskip ?_
        refine block_normal ?_
        refine then_normal ?_
        refine cregion ?_
        refine sv rfl (opv_add rfl rfl) ?_
        refine sv rfl (opv_mv rfl) ?_
        refine snil ?_
        obtain rfl := Option.some.inj h
        exact ⟨(n8, ((wI (s8.1 + (u9.length : Int))), (wI (s8.2 + 1)))), _, hk8, ⟨rfl, rfl, rfl, rfl, rfl, trivial⟩, rfl, Nat.lt_succ_self _⟩
    · replace h := ite_f hc h
      clear hc
      refine cexit ?_
      refine then_exit ?_
      refine then_exit ?_
      refine block_hit ?_
      refine then_normal ?_
      obtain rfl := Option.some.inj h
      obtain rfl : _ = x8 := hk8
      exact ⟨s8.1, _, ho8, ⟨rfl, rfl, trivial⟩, rfl⟩

def m39_enc_U_k2 (a0 : List UInt8) (b2 : (List UInt8)) : Option (List UInt8) :=
  (m52_slices_Concato [a0, b2]).bind fun v3 => some v3

def m39_enc_U_s4 (a1 : BitVec 64) (a2 : Int) (s4 : Int × (List UInt8)) : Option (LB (Int × (List UInt8)) ((List UInt8))) :=
  if (decide (s4.1 < ((List.replicate (if (if 8 < a2 then 8 else a2) > 0 then (if 8 < a2 then 8 else a2) else 0).toNat (0 : UInt8)).length : Int))) then (if 0 ≤ (wI (8 * s4.1)) then ((idx s4.2 s4.1).bind fun u6 => some (.cont ((wI (s4.1 + 1)), (s4.2.set s4.1.toNat (UInt8.ofBitVec ((a1 >>> (wI (8 * s4.1)).toNat).setWidth 8)))))) else none) else (some (.brk s4.2))
def m39_enc_U (a0 : List UInt8) (a1 : BitVec 64) (a2 : Int) : Option (List UInt8) :=
  if (0 : Int) ≤ (if (if 8 < a2 then 8 else a2) > 0 then (if 8 < a2 then 8 else a2) else 0) ∧ (if (if 8 < a2 then 8 else a2) > 0 then (if 8 < a2 then 8 else a2) else 0) ≤ (if (if 8 < a2 then 8 else a2) > 0 then (if 8 < a2 then 8 else a2) else 0) ∧ ((1 : Nat) : Int) * (if (if 8 < a2 then 8 else a2) > 0 then (if 8 < a2 then 8 else a2) else 0) ≤ 281474976710656 then ((iterB (m39_enc_U_s4 a1 a2) fuel (0, (List.replicate (if (if 8 < a2 then 8 else a2) > 0 then (if 8 < a2 then 8 else a2) else 0).toNat (0 : UInt8)))).bind fun e7 => m39_enc_U_k2 a0 e7) else none

set_option maxRecDepth 100000 in
theorem m39_enc_U_c {a0 : List UInt8} {a1 : BitVec 64} {a2 : Int} {r : (List UInt8)} (h : m39_enc_U a0 a1 a2 = some r) : CallsA Try.prog 39 [.one (.sl a0.length (a0.flatMap eU8)), .one (.i .u64 (a1.toNat : Int)), .one (.i .i64 a2)] (· = .s (.one (.sl r.length (r.flatMap eU8)))) := by
  unfold m39_enc_U at h
  refine callsA_of Try.func39 rfl (nt := 32) rfl (Nat.le_of_ble_eq_true rfl) ?_
  intro w0 S0
  refine cseq ?_
  refine cregion ?_
  refine sv rfl (opv_as rfl) ?_
  refine snil ?_
  refine cseq ?_
  refine cregion ?_
  refine sv rfl (opv_mv rfl) ?_
  refine sv rfl (opv_min rfl rfl) ?_
  refine sv rfl (opv_max rfl rfl) ?_
  refine sv rfl (opv_as rfl) ?_
  refine snil ?_
  refine cseq ?_
  refine cregion ?_
  refine sv rfl (opv_mv rfl) ?_
  obtain ⟨hm1, h⟩ := chk_eq h
  refine smk (f := eU8) (z := (0 : UInt8)) rfl Try.underlying42 ei5 (fun _ => rfl) rfl rfl rfl hm1 (by decide) ?_
  refine sv rfl (opv_as rfl) ?_
  refine snil ?_
  refine cseq ?_
  refine cseq ?_
  refine cregion ?_
  refine sv rfl (opv_mv rfl) ?_
  refine sv rfl (opv_len_ls si42 rfl rfl (flat_len (f := eU8) (fun _ => rfl) _).symm) ?_
  refine sv rfl (opv_mv rfl) ?_
  refine snil ?_
  refine cjoin ((List UInt8)) (fun b2 => [(0, .s (.one (.sl a0.length (a0.flatMap eU8)))), (7, .s (.one (.ls 0 b2.length)))]) (fun b2 => [.arr 5 1 0 (b2.flatMap eU8)]) (fun b2 => m39_enc_U_k2 a0 b2 = some r) (fun _ _ => inbL_of rfl) (fun _ _ => blkinb_of rfl) (fun _ _ => Nat.le_of_ble_eq_true rfl) (fun b2 h => ?_) ?_
  · unfold m39_enc_U_k2 at h
    refine cseq ?_
    refine cregion ?_
    refine sv rfl (opv_mv rfl) ?_
    refine sv rfl (opv_mv rfl) ?_
    refine spub 29 rfl (by (repeat' first | exact PubA.nil _ | apply PubA.cons | apply PubV.one | apply PubV.agg | exact PubL.nil | exact PubL.ls _ _ _ _ _ _ rfl (flat_len (f := eU8) (fun _ => rfl) _).symm | exact PubL.id _ rfl | exact PubLs.nil _ | apply PubLs.cons)) ?_
    refine sbuildN (out := ([a0, b2] : List (List UInt8)).flatMap (eL eU8)) rfl Try.underlying98 ei42 (parts_cons rfl (parts_cons rfl parts_nil)) (.cons _ _ _ _ _ _ _ rfl rfl (Nat.le_of_ble_eq_true rfl) (.cons _ _ _ _ _ _ _ rfl rfl (Nat.le_of_ble_eq_true rfl) (.nil _))) rfl (by decide) ?_
    refine spub 30 rfl (by (repeat' first | exact PubA.nil _ | apply PubA.cons | apply PubV.one | apply PubV.agg | exact PubL.nil | exact PubL.ls _ _ _ _ _ _ rfl (flat_len (f := (eL eU8)) (fun _ => rfl) ([a0, b2] : List (List UInt8))).symm | exact PubL.ls _ _ _ _ _ _ rfl (flat_len (f := (eL eU8)) (fun _ => rfl) _).symm | exact PubL.ls _ _ _ _ _ _ rfl (flat_len (f := eU8) (fun _ => rfl) _).symm | exact PubL.id _ rfl | exact PubLs.nil _ | apply PubLs.cons)) ?_
    obtain ⟨v3, hv3, h⟩ := bind_eq h
    refine scallB (x' := .s (.one (.ls 2 v3.length))) (M' := [.arr 5 1 (b2.flatMap eU8).length (b2.flatMap eU8), .arr 42 1 ([a0, b2].flatMap (eL eU8)).length ([a0, b2].flatMap (eL eU8)), .arr 5 1 0 (v3.flatMap eU8)]) [] rfl fn52 (.func _) (opnds_cons rfl opnds_nil) (m52_slices_Concato_c hv3) rfl rfl (by decide) rfl rfl rfl ?_
    refine sv rfl (opv_as rfl) ?_
    refine snil ?_
    refine cret ?_
    obtain rfl := Option.some.inj h
    refine ⟨Or.inr rfl, _, _, _, (resVs_cons (ResV.tmp _ _ rfl) resVs_nil), (by (repeat' first | exact PubA.nil _ | apply PubA.cons | apply PubV.one | apply PubV.agg | exact PubL.nil | exact PubL.ls _ _ _ _ _ _ rfl (flat_len (f := (eL eU8)) (fun _ => rfl) _).symm | exact PubL.ls _ _ _ _ _ _ rfl (flat_len (f := eU8) (fun _ => rfl) _).symm | exact PubL.id _ rfl | exact PubLs.nil _ | apply PubLs.cons)), ?_⟩
    rfl
  · skip
    refine cblock ?_
    obtain ⟨x4, hx4, ho4⟩ := bind_eq h
    refine awc_loop (G := Nat × (Int × (List UInt8))) (fun g => [(0, .s (.one (.sl a0.length (a0.flatMap eU8)))), (1, .s (.one (.i .u64 (a1.toNat : Int)))), (7, .s (.one (.ls 0 g.2.2.length))), (15, .s (.one (.i .i64 ((List.replicate (if (if 8 < a2 then 8 else a2) > 0 then (if 8 < a2 then 8 else a2) else 0).toNat (0 : UInt8)).length : Int)))), (16, .s (.one (.i .i64 g.2.1)))]) (fun g => [.arr 5 1 0 (g.2.2.flatMap eU8)]) (fun g => iterB (m39_enc_U_s4 a1 a2) g.1 g.2 = some x4) (fun g => g.1) (fuel, (0, (List.replicate (if (if 8 < a2 then 8 else a2) > 0 then (if 8 < a2 then 8 else a2) else 0).toNat (0 : UInt8)))) hx4 ⟨rfl, rfl, rfl, rfl, rfl, trivial⟩ [] rfl (fun _ _ => inbL_of rfl) (fun _ _ => blkinb_of rfl) (fun _ _ => Nat.le_of_ble_eq_true rfl) ?_
    clear hx4 h
    rintro ⟨n4, s4⟩ h
    obtain ⟨n4, y4, rfl, h, hk4⟩ := iterB_eq h
    unfold m39_enc_U_s4 at h
    refine cseq ?_
    refine cregion ?_
    refine sv rfl (opv_lss rfl rfl) ?_
    refine snil ?_
    refine cseq ?_
    refine ccond rfl (fun hc => ?_) (fun hc => ?_)
    · replace h := ite_t hc h
      clear hc
      refine cskip ?_
      refine then_normal ?_
      refine cseq ?_
      refine cblock ?_
      refine cseq ?_
      refine cregion ?_
      refine sv rfl (opv_mv rfl) ?_
      refine sv rfl (opv_as rfl) ?_
      refine snil ?_
      refine cregion ?_
      refine sv rfl (opv_mv rfl) ?_
      refine sv rfl (opv_mv rfl) ?_
      refine sv rfl (opv_mv rfl) ?_
      refine sv rfl (opv_mv rfl) ?_
      refine sv rfl (opv_mul rfl rfl) ?_
      obtain ⟨hz5, h⟩ := chk_eq h
      refine sv rfl (opv_shr_u64 (a := a1) rfl rfl rfl hz5) ?_
      refine sv rfl (opv_conv_bv (k := .u64) (a := (a1 >>> (wI (8 * s4.1)).toNat)) rfl Try.underlying94 Try.underlying5 rfl rfl) ?_
      obtain ⟨u6, hu6, h⟩ := bind_eq h
      refine sv rfl (opv_ixo (f := eU8) si42 (fun _ => rfl) rfl rfl rfl rfl rfl hu6) ?_
      refine sseto (f := eU8) (u' := (UInt8.ofBitVec ((a1 >>> (wI (8 * s4.1)).toNat).setWidth 8))) (sz := 1) 0 sz5 (fun _ => rfl) rfl rfl rfl rfl rfl rfl rfl (List.all_eq_true.1 rfl) (idx_eq hu6).2 (Nat.le_of_ble_eq_true rfl) rfl ?_
      refine stell 7 (y := .s (.one (.ls 0 s4.2.length))) (.s (.one (.ls 0 (s4.2.set s4.1.toNat (UInt8.ofBitVec ((a1 >>> (wI (8 * s4.1)).toNat).setWidth 8))).length))) rfl (congrArg (fun n => AV.s (.one (.ls 0 n))) List.length_set.symm) ?_
      refine stell 19 (y := .s (.one (.ls 0 s4.2.length))) (.s (.one (.ls 0 (s4.2.set s4.1.toNat (UInt8.ofBitVec ((a1 >>> (wI (8 * s4.1)).toNat).setWidth 8))).length))) rfl (congrArg (fun n => AV.s (.one (.ls 0 n))) List.length_set.symm) ?_
      refine snil0 ?_
      refine block_normal ?_
      refine then_normal ?_
      refine cregion ?_
      refine sv rfl (opv_add rfl rfl) ?_
      refine sv rfl (opv_mv rfl) ?_
      refine snil ?_
      obtain rfl := Option.some.inj h
      exact ⟨(n4, ((wI (s4.1 + 1)), (s4.2.set s4.1.toNat (UInt8.ofBitVec ((a1 >>> (wI (8 * s4.1)).toNat).setWidth 8))))), _, hk4, ⟨rfl, rfl, rfl, rfl, rfl, trivial⟩, rfl, Nat.lt_succ_self _⟩
    · replace h := ite_f hc h
      clear hc
      refine cexit ?_
      refine then_exit ?_
      refine then_exit ?_
      refine block_hit ?_
      refine then_normal ?_
      obtain rfl := Option.some.inj h
      obtain rfl : _ = x4 := hk4
      exact ⟨s4.2, _, ho4, ⟨rfl, rfl, trivial⟩, rfl⟩

def m22_prog_Val (a0 : Int) : Option (List UInt8) :=
  (m39_enc_U ([] : List UInt8) (BitVec.ofInt 64 a0) 4).bind fun v1 => some v1

set_option maxRecDepth 100000 in
theorem m22_prog_Val_c {a0 : Int} {r : (List UInt8)} (h : m22_prog_Val a0 = some r) : CallsA Try.prog 22 [.one (.i .i64 a0)] (· = .s (.one (.sl r.length (r.flatMap eU8)))) := by
  unfold m22_prog_Val at h
  refine callsA_of Try.func22 rfl (nt := 6) rfl (Nat.le_of_ble_eq_true rfl) ?_
  intro w0 S0
  refine cseq ?_
  refine cregion ?_
  refine sv rfl (opv_as rfl) ?_
  refine snil ?_
  refine cseq ?_
  refine cregion ?_
  refine sv rfl (opv_mv rfl) ?_
  refine sv rfl (opv_conv_ibv rfl Try.underlying3 Try.underlying94 rfl) ?_
  obtain ⟨v1, hv1, h⟩ := bind_eq h
  refine scall1 rfl fn39 (opnds_cons rfl (opnds_cons rfl (opnds_cons rfl opnds_nil))) (pubC rfl) (m39_enc_U_c hv1) ?_
  refine sv rfl (opv_as rfl) ?_
  refine snil ?_
  refine cret ?_
  obtain rfl := Option.some.inj h
  refine ⟨Or.inr rfl, _, _, _, (resVs_cons (ResV.tmp _ _ rfl) resVs_nil), (pubA_id rfl), ?_⟩
  rfl

def m33_prog_request (a0 : GProgOp) (a1 : GProgState) : Option GMsgReq :=
  if (decide (a0.What = 1)) then (some (GMsgReq.mk 3 0 0 0 false a0.Key ([] : List UInt8) (GApiRange.mk ([] : List UInt8) ([] : List UInt8) false))) else (if (decide (a0.What = 2)) then (if 0 ≤ a0.B ∧ a0.B < ((8 : Nat) : Int) then ((idx [a1.Regs.R0, a1.Regs.R1, a1.Regs.R2, a1.Regs.R3, a1.Regs.R4, a1.Regs.R5, a1.Regs.R6, a1.Regs.R7] a0.B).bind fun u2 => (m22_prog_Val u2).bind fun v3 => some (GMsgReq.mk 4 0 0 0 false a0.Key v3 (GApiRange.mk ([] : List UInt8) ([] : List UInt8) false))) else none) else (if (decide (a0.What = 3)) then (some (GMsgReq.mk 5 0 0 0 false a0.Key ([] : List UInt8) (GApiRange.mk ([] : List UInt8) ([] : List UInt8) false))) else (some (GMsgReq.mk 6 0 0 0 false ([] : List UInt8) ([] : List UInt8) (GApiRange.mk a0.Rng.Lo a0.Rng.Hi a0.Rng.Open)))))

set_option maxRecDepth 100000 in
theorem m33_prog_request_c {a0 : GProgOp} {a1 : GProgState} {r : GMsgReq} (h : m33_prog_request a0 a1 = some r) : CallsA Try.prog 33 [.agg a0, .agg a1] (· = .s (.agg r)) := by
  unfold m33_prog_request at h
  refine callsA_of Try.func33 rfl (nt := 31) rfl (Nat.le_of_ble_eq_true rfl) ?_
  intro w0 S0
  refine cseq ?_
  refine cregion ?_
  refine sbox rfl rfl ?_
  refine sbox rfl rfl ?_
  refine salloc rfl zi46 ?_
  refine snil ?_
  refine cseq ?_
  refine cseq ?_
  refine cregion ?_
  refine sv rfl (opv_fieldAddr_lp fi71_0 rfl) ?_
  refine sv rfl (opv_load1 ti3 rfl (.lp _ _ _ rfl) rfl) ?_
  refine snil ?_
  refine cblock ?_
  refine cseq ?_
  refine cregion ?_
  refine sv rfl (opv_ieql rfl rfl) ?_
  refine sv rfl (opv_as rfl) ?_
  refine snil ?_
  refine ccond rfl (fun hc => ?_) (fun hc => ?_)
  · replace h := ite_t hc h
    clear hc
    refine cseq ?_
    refine cregion ?_
    refine sv rfl (opv_fieldAddr_lp fi71_4 rfl) ?_
    refine sv rfl (opv_load1 ti42 rfl (.lp _ _ _ rfl) rfl) ?_
    refine sv rfl (opv_build zi46 pi46 (parts_cons rfl (parts_cons rfl parts_nil)) (.cons _ _ _ _ _ _ _ rfl rfl (Nat.le_of_ble_eq_true rfl) (.cons _ _ _ _ _ _ _ rfl rfl (Nat.le_of_ble_eq_true rfl) (.nil _)))) ?_
    refine sstore sz46 rfl rfl rfl rfl (Nat.le_of_ble_eq_true rfl) ?_
    refine smem [.box a0, .box a1, .box [.i .i64 3, .i .i64 0, .i .i64 0, .i .i64 0, .b false, .sl a0.Key.length (a0.Key.flatMap eU8), .raw (.slice none 0 0), .raw (.slice none 0 0), .raw (.slice none 0 0), .b false]] rfl ?_
    refine snil ?_
    refine cret ?_
    refine block_ret ?_
    refine then_ret ?_
    obtain rfl := Option.some.inj h
    refine ⟨Or.inr rfl, _, _, _, (resVs_cons (ResV.agg _ _ _ _ _ ti46 rfl (.lp _ _ _ rfl) (Nat.le_of_ble_eq_true rfl)) resVs_nil), (pubC rfl), ?_⟩
    rfl
  · replace h := ite_f hc h
    clear hc
    refine cseq ?_
    refine cregion ?_
    refine sv rfl (opv_ieql rfl rfl) ?_
    refine sv rfl (opv_as rfl) ?_
    refine snil ?_
    refine ccond rfl (fun hc => ?_) (fun hc => ?_)
    · replace h := ite_t hc h
      clear hc
      refine cseq ?_
      obtain ⟨hj1, h⟩ := chk_eq h
      obtain ⟨u2, hu2, h⟩ := bind_eq h
      obtain ⟨v3, hv3, h⟩ := bind_eq h
      refine cdraw_e [9] [0, 1, 0, 4, 0, 28, 60, 124, 255, 511] [[.box a0, .box a1, .box [.i .i64 0, .i .i64 0, .i .i64 0, .i .i64 0, .b false, .raw (.slice none 0 0), .raw (.slice none 0 0), .raw (.slice none 0 0), .raw (.slice none 0 0), .b false]], [.box a0, .box a1, .box [.i .i64 4, .i .i64 0, .i .i64 0, .i .i64 0, .b false, .sl a0.Key.length (a0.Key.flatMap eU8), .sl v3.length (v3.flatMap eU8), .raw (.slice none 0 0), .raw (.slice none 0 0), .b false]]] (by kernel_rfl) mixed (by kernel_rfl) (by decide) rfl rfl rfl rfl ?_
      refine ev (sees_at 0 rfl rfl) rfl rfl (opv_fieldAddr_lp fi71_4 rfl) ?_
      refine ev (sees_at 0 rfl rfl) rfl rfl (opv_load1 ti42 rfl (.lp _ _ _ rfl) rfl) ?_
      refine ev (sees_at 0 rfl rfl) rfl rfl (opv_fieldAddr_lp fi71_2 rfl) ?_
      refine ev (sees_at 0 rfl rfl) rfl rfl (opv_load1 ti3 rfl (.lp _ _ _ rfl) rfl) ?_
      refine ev (sees_at 0 rfl rfl) rfl rfl (opv_fieldAddr_lp fi35_1 rfl) ?_
      refine ev (sees_at 0 rfl rfl) rfl rfl (opv_ixsx ai33 rfl rfl hj1) ?_
      refine ev (sees_at 0 rfl rfl) rfl rfl (opv_ldsx (fun x => .i .i64 x) [.b a1.Stopped] ti3 rfl rfl rfl hu2) ?_
      refine ed (sees_at 0 rfl rfl) rfl rfl (opD_call fn22 (opnds_cons rfl opnds_nil) rfl (m22_prog_Val_c hv3)) ?_
      refine ev (sees_at 0 rfl rfl) rfl rfl (opv_build zi46 pi46 (parts_cons rfl (parts_cons rfl (parts_cons rfl parts_nil))) (.cons _ _ _ _ _ _ _ rfl rfl (Nat.le_of_ble_eq_true rfl) (.cons _ _ _ _ _ _ _ rfl rfl (Nat.le_of_ble_eq_true rfl) (.cons _ _ _ _ _ _ _ rfl rfl (Nat.le_of_ble_eq_true rfl) (.nil _))))) ?_
      refine ee0 0 rfl rfl rfl rfl (fun ζ => ?_) ?_
      · refine sstore sz46 rfl rfl rfl rfl (Nat.le_of_ble_eq_true rfl) ?_
        refine smem [.box a0, .box a1, .box [.i .i64 4, .i .i64 0, .i .i64 0, .i .i64 0, .b false, .sl a0.Key.length (a0.Key.flatMap eU8), .sl v3.length (v3.flatMap eU8), .raw (.slice none 0 0), .raw (.slice none 0 0), .b false]] rfl ?_
        exact eend
      refine enil ?_
      refine then_normal ?_
      refine cret ?_
      refine block_ret ?_
      refine then_ret ?_
      obtain rfl := Option.some.inj h
      refine ⟨Or.inr rfl, _, _, _, (resVs_cons (ResV.agg _ _ _ _ _ ti46 rfl (.lp _ _ _ rfl) (Nat.le_of_ble_eq_true rfl)) resVs_nil), (pubC rfl), ?_⟩
      rfl
    · replace h := ite_f hc h
      clear hc
      refine cseq ?_
      refine cregion ?_
      refine sv rfl (opv_ieql rfl rfl) ?_
      refine sv rfl (opv_as rfl) ?_
      refine snil ?_
      refine ccond rfl (fun hc => ?_) (fun hc => ?_)
      · replace h := ite_t hc h
        clear hc
        refine cseq ?_
        refine cregion ?_
        refine sv rfl (opv_fieldAddr_lp fi71_4 rfl) ?_
        refine sv rfl (opv_load1 ti42 rfl (.lp _ _ _ rfl) rfl) ?_
        refine sv rfl (opv_build zi46 pi46 (parts_cons rfl (parts_cons rfl parts_nil)) (.cons _ _ _ _ _ _ _ rfl rfl (Nat.le_of_ble_eq_true rfl) (.cons _ _ _ _ _ _ _ rfl rfl (Nat.le_of_ble_eq_true rfl) (.nil _)))) ?_
        refine sstore sz46 rfl rfl rfl rfl (Nat.le_of_ble_eq_true rfl) ?_
        refine smem [.box a0, .box a1, .box [.i .i64 5, .i .i64 0, .i .i64 0, .i .i64 0, .b false, .sl a0.Key.length (a0.Key.flatMap eU8), .raw (.slice none 0 0), .raw (.slice none 0 0), .raw (.slice none 0 0), .b false]] rfl ?_
        refine snil ?_
        refine cret ?_
        refine block_ret ?_
        refine then_ret ?_
        obtain rfl := Option.some.inj h
        refine ⟨Or.inr rfl, _, _, _, (resVs_cons (ResV.agg _ _ _ _ _ ti46 rfl (.lp _ _ _ rfl) (Nat.le_of_ble_eq_true rfl)) resVs_nil), (pubC rfl), ?_⟩
        rfl
      · replace h := ite_f hc h
        clear hc
        refine cskip ?_
        refine block_normal ?_
        refine then_normal ?_
        refine cseq ?_
        refine cregion ?_
        refine sv rfl (opv_fieldAddr_lp fi71_5 rfl) ?_
        refine sv rfl (opv_loadN ti44 rfl (.lp _ _ _ rfl) (Nat.le_of_ble_eq_true rfl)) ?_
        refine sv rfl (opv_build zi46 pi46 (parts_cons rfl (parts_cons rfl parts_nil)) (.cons _ _ _ _ _ _ _ rfl rfl (Nat.le_of_ble_eq_true rfl) (.cons _ _ _ _ _ _ _ rfl rfl (Nat.le_of_ble_eq_true rfl) (.nil _)))) ?_
        refine sstore sz46 rfl rfl rfl rfl (Nat.le_of_ble_eq_true rfl) ?_
        refine smem [.box a0, .box a1, .box [.i .i64 6, .i .i64 0, .i .i64 0, .i .i64 0, .b false, .raw (.slice none 0 0), .raw (.slice none 0 0), .sl a0.Rng.Lo.length (a0.Rng.Lo.flatMap eU8), .sl a0.Rng.Hi.length (a0.Rng.Hi.flatMap eU8), .b a0.Rng.Open]] rfl ?_
        refine snil ?_
        refine cret ?_
        obtain rfl := Option.some.inj h
        refine ⟨Or.inr rfl, _, _, _, (resVs_cons (ResV.agg _ _ _ _ _ ti46 rfl (.lp _ _ _ rfl) (Nat.le_of_ble_eq_true rfl)) resVs_nil), (pubC rfl), ?_⟩
        rfl

def m50_prog_around (a0 : Int) : Option Int :=
  some (wI ((BitVec.ofInt 32 a0).toNat : Int))

set_option maxRecDepth 100000 in
theorem m50_prog_around_c {a0 : Int} {r : Int} (h : m50_prog_around a0 = some r) : CallsA Try.prog 50 [.one (.i .i64 a0)] (· = .s (.one (.i .i64 r))) := by
  unfold m50_prog_around at h
  refine callsA_of Try.func50 rfl (nt := 6) rfl (Nat.le_of_ble_eq_true rfl) ?_
  intro w0 S0
  refine cseq ?_
  refine cregion ?_
  refine sv rfl (opv_as rfl) ?_
  refine snil ?_
  refine cseq ?_
  refine cregion ?_
  refine sv rfl (opv_mv rfl) ?_
  refine sv rfl (opv_conv_ibv rfl Try.underlying3 Try.underlying124 rfl) ?_
  refine sv rfl (opv_conv_int Try.underlying124 Try.underlying3 rfl) ?_
  refine sv rfl (opv_as rfl) ?_
  refine snil ?_
  refine cret ?_
  obtain rfl := Option.some.inj h
  refine ⟨Or.inr rfl, _, _, _, (resVs_cons (ResV.tmp _ _ rfl) resVs_nil), (pubA_id rfl), ?_⟩
  rfl

def m34_prog_local (a0 : GProgOp) (a1 : GProgState) : Option GProgState :=
  if (decide (a0.What = 5)) then (if 0 ≤ a0.A ∧ a0.A < ((8 : Nat) : Int) then ((putGAnon33 (GAnon33.mk a1.Regs.R0 a1.Regs.R1 a1.Regs.R2 a1.Regs.R3 a1.Regs.R4 a1.Regs.R5 a1.Regs.R6 a1.Regs.R7) a0.A a0.N).bind fun q2 => some (GProgState.mk (wI (a1.PC + 1)) q2 a1.Stopped)) else none) else (if (decide (a0.What = 6)) then (if 0 ≤ a0.A ∧ a0.A < ((8 : Nat) : Int) then ((idx [a1.Regs.R0, a1.Regs.R1, a1.Regs.R2, a1.Regs.R3, a1.Regs.R4, a1.Regs.R5, a1.Regs.R6, a1.Regs.R7] a0.A).bind fun u4 => if 0 ≤ a0.B ∧ a0.B < ((8 : Nat) : Int) then ((idx [a1.Regs.R0, a1.Regs.R1, a1.Regs.R2, a1.Regs.R3, a1.Regs.R4, a1.Regs.R5, a1.Regs.R6, a1.Regs.R7] a0.B).bind fun u6 => (m50_prog_around (wI ((wI (u4 + u6)) + a0.N))).bind fun v7 => if 0 ≤ a0.A ∧ a0.A < ((8 : Nat) : Int) then ((putGAnon33 (GAnon33.mk a1.Regs.R0 a1.Regs.R1 a1.Regs.R2 a1.Regs.R3 a1.Regs.R4 a1.Regs.R5 a1.Regs.R6 a1.Regs.R7) a0.A v7).bind fun q9 => some (GProgState.mk (wI (a1.PC + 1)) q9 a1.Stopped)) else none) else none) else none) else (if (decide (a0.What = 7)) then (if 0 ≤ a0.A ∧ a0.A < ((8 : Nat) : Int) then ((idx [a1.Regs.R0, a1.Regs.R1, a1.Regs.R2, a1.Regs.R3, a1.Regs.R4, a1.Regs.R5, a1.Regs.R6, a1.Regs.R7] a0.A).bind fun u11 => if (decide (u11 = 0)) then (some (GProgState.mk (wI ((wI (a1.PC + 1)) + a0.N)) (GAnon33.mk a1.Regs.R0 a1.Regs.R1 a1.Regs.R2 a1.Regs.R3 a1.Regs.R4 a1.Regs.R5 a1.Regs.R6 a1.Regs.R7) a1.Stopped)) else (some (GProgState.mk (wI (a1.PC + 1)) (GAnon33.mk a1.Regs.R0 a1.Regs.R1 a1.Regs.R2 a1.Regs.R3 a1.Regs.R4 a1.Regs.R5 a1.Regs.R6 a1.Regs.R7) a1.Stopped))) else none) else (if (decide (a0.What = 8)) then (some (GProgState.mk (wI (a1.PC + 1)) (GAnon33.mk a1.Regs.R0 a1.Regs.R1 a1.Regs.R2 a1.Regs.R3 a1.Regs.R4 a1.Regs.R5 a1.Regs.R6 a1.Regs.R7) true)) else (some (GProgState.mk (wI (a1.PC + 1)) (GAnon33.mk a1.Regs.R0 a1.Regs.R1 a1.Regs.R2 a1.Regs.R3 a1.Regs.R4 a1.Regs.R5 a1.Regs.R6 a1.Regs.R7) a1.Stopped)))))

set_option maxRecDepth 100000 in
theorem m34_prog_local_c {a0 : GProgOp} {a1 : GProgState} {r : GProgState} (h : m34_prog_local a0 a1 = some r) : CallsA Try.prog 34 [.agg a0, .agg a1] (· = .s (.agg r)) := by
  unfold m34_prog_local at h
  refine callsA_of Try.func34 rfl (nt := 58) rfl (Nat.le_of_ble_eq_true rfl) ?_
  intro w0 S0
  refine cseq ?_
  refine cregion ?_
  refine sbox rfl rfl ?_
  refine sbox rfl rfl ?_
  refine salloc rfl zi35 ?_
  refine snil ?_
  refine cseq ?_
  refine cregion ?_
  refine sv rfl (opv_fieldAddr_lp fi35_0 rfl) ?_
  refine sv rfl (opv_load1 ti3 rfl (.lp _ _ _ rfl) rfl) ?_
  refine sv rfl (opv_add rfl rfl) ?_
  refine sv rfl (opv_fieldAddr_lp fi35_0 rfl) ?_
  refine sstore sz3 rfl rfl rfl rfl (Nat.le_of_ble_eq_true rfl) ?_
  refine smem [.box a0, .box [.i .i64 (wI (a1.PC + 1)), .i .i64 a1.Regs.R0, .i .i64 a1.Regs.R1, .i .i64 a1.Regs.R2, .i .i64 a1.Regs.R3, .i .i64 a1.Regs.R4, .i .i64 a1.Regs.R5, .i .i64 a1.Regs.R6, .i .i64 a1.Regs.R7, .b a1.Stopped], .box [.i .i64 0, .i .i64 0, .i .i64 0, .i .i64 0, .i .i64 0, .i .i64 0, .i .i64 0, .i .i64 0, .i .i64 0, .b false]] rfl ?_
  refine snil ?_
  refine cseq ?_
  refine cseq ?_
  refine cregion ?_
  refine sv rfl (opv_fieldAddr_lp fi71_0 rfl) ?_
  refine sv rfl (opv_load1 ti3 rfl (.lp _ _ _ rfl) rfl) ?_
  refine snil ?_
  refine cblock ?_
  refine cseq ?_
  refine cregion ?_
  refine sv rfl (opv_ieql rfl rfl) ?_
  refine sv rfl (opv_as rfl) ?_
  refine snil ?_
  refine ccond rfl (fun hc => ?_) (fun hc => ?_)
  · replace h := ite_t hc h
    clear hc
    refine cregion ?_
    refine sv rfl (opv_fieldAddr_lp fi71_1 rfl) ?_
    refine sv rfl (opv_load1 ti3 rfl (.lp _ _ _ rfl) rfl) ?_
    refine sv rfl (opv_fieldAddr_lp fi71_3 rfl) ?_
    refine sv rfl (opv_load1 ti3 rfl (.lp _ _ _ rfl) rfl) ?_
    refine sv rfl (opv_fieldAddr_lp fi35_1 rfl) ?_
    obtain ⟨hj1, h⟩ := chk_eq h
    refine sv rfl (opv_ixsx ai33 rfl rfl hj1) ?_
    obtain ⟨q2, hq2, h⟩ := bind_eq h
    refine sstore sz3 rfl rfl rfl rfl (fitsx hj1 (Nat.le_of_ble_eq_true rfl)) ?_
    refine smem [.box a0, .box [.i .i64 (wI (a1.PC + 1)), .i .i64 q2.R0, .i .i64 q2.R1, .i .i64 q2.R2, .i .i64 q2.R3, .i .i64 q2.R4, .i .i64 q2.R5, .i .i64 q2.R6, .i .i64 q2.R7, .b a1.Stopped], .box [.i .i64 0, .i .i64 0, .i .i64 0, .i .i64 0, .i .i64 0, .i .i64 0, .i .i64 0, .i .i64 0, .i .i64 0, .b false]] (put_blk (pu33 hq2 [.i .i64 (wI (a1.PC + 1))] [.b a1.Stopped])) ?_
    refine snil0 ?_
    refine block_normal ?_
    refine then_normal ?_
    refine cseq ?_
    refine cregion ?_
    refine sv rfl (opv_loadN ti35 rfl (.lp _ _ _ rfl) (Nat.le_of_ble_eq_true rfl)) ?_
    refine sstore sz35 rfl rfl rfl rfl (Nat.le_of_ble_eq_true rfl) ?_
    refine smem [.box a0, .box [.i .i64 (wI (a1.PC + 1)), .i .i64 q2.R0, .i .i64 q2.R1, .i .i64 q2.R2, .i .i64 q2.R3, .i .i64 q2.R4, .i .i64 q2.R5, .i .i64 q2.R6, .i .i64 q2.R7, .b a1.Stopped], .box [.i .i64 (wI (a1.PC + 1)), .i .i64 q2.R0, .i .i64 q2.R1, .i .i64 q2.R2, .i .i64 q2.R3, .i .i64 q2.R4, .i .i64 q2.R5, .i .i64 q2.R6, .i .i64 q2.R7, .b a1.Stopped]] rfl ?_
    refine snil ?_
    refine cret ?_
    obtain rfl := Option.some.inj h
    refine ⟨Or.inr rfl, _, _, _, (resVs_cons (ResV.agg _ _ _ _ _ ti35 rfl (.lp _ _ _ rfl) (Nat.le_of_ble_eq_true rfl)) resVs_nil), (pubA_id rfl), ?_⟩
    rfl
  · replace h := ite_f hc h
    clear hc
    refine cseq ?_
    refine cregion ?_
    refine sv rfl (opv_ieql rfl rfl) ?_
    refine sv rfl (opv_as rfl) ?_
    refine snil ?_
    refine ccond rfl (fun hc => ?_) (fun hc => ?_)
    · replace h := ite_t hc h
      clear hc
      obtain ⟨hj3, h⟩ := chk_eq h
      obtain ⟨u4, hu4, h⟩ := bind_eq h
      obtain ⟨hj5, h⟩ := chk_eq h
      obtain ⟨u6, hu6, h⟩ := bind_eq h
      obtain ⟨v7, hv7, h⟩ := bind_eq h
      obtain ⟨hj8, h⟩ := chk_eq h
      obtain ⟨q9, hq9, h⟩ := bind_eq h
      refine cdraw_e [19] [0, 1, 0, 4, 0, 28, 60, 0, 128, 0, 896, 1920, 4092, 0, 8192, 32764, 65532, 0, 262143, 524287] [[.box a0, .box [.i .i64 (wI (a1.PC + 1)), .i .i64 a1.Regs.R0, .i .i64 a1.Regs.R1, .i .i64 a1.Regs.R2, .i .i64 a1.Regs.R3, .i .i64 a1.Regs.R4, .i .i64 a1.Regs.R5, .i .i64 a1.Regs.R6, .i .i64 a1.Regs.R7, .b a1.Stopped], .box [.i .i64 0, .i .i64 0, .i .i64 0, .i .i64 0, .i .i64 0, .i .i64 0, .i .i64 0, .i .i64 0, .i .i64 0, .b false]], [.box a0, .box [.i .i64 (wI (a1.PC + 1)), .i .i64 q9.R0, .i .i64 q9.R1, .i .i64 q9.R2, .i .i64 q9.R3, .i .i64 q9.R4, .i .i64 q9.R5, .i .i64 q9.R6, .i .i64 q9.R7, .b a1.Stopped], .box [.i .i64 0, .i .i64 0, .i .i64 0, .i .i64 0, .i .i64 0, .i .i64 0, .i .i64 0, .i .i64 0, .i .i64 0, .b false]]] (by kernel_rfl) mixed (by kernel_rfl) (by decide) rfl rfl rfl rfl ?_
      refine ev (sees_at 0 rfl rfl) rfl rfl (opv_fieldAddr_lp fi71_1 rfl) ?_
      refine ev (sees_at 0 rfl rfl) rfl rfl (opv_load1 ti3 rfl (.lp _ _ _ rfl) rfl) ?_
      refine ev (sees_at 0 rfl rfl) rfl rfl (opv_fieldAddr_lp fi71_1 rfl) ?_
      refine ev (sees_at 0 rfl rfl) rfl rfl (opv_load1 ti3 rfl (.lp _ _ _ rfl) rfl) ?_
      refine ev (sees_at 0 rfl rfl) rfl rfl (opv_fieldAddr_lp fi35_1 rfl) ?_
      refine ev (sees_at 0 rfl rfl) rfl rfl (opv_ixsx ai33 rfl rfl hj3) ?_
      refine ev (sees_at 0 rfl rfl) rfl rfl (opv_ldsx (fun x => .i .i64 x) [.b a1.Stopped] ti3 rfl rfl rfl hu4) ?_
      refine ev (sees_at 0 rfl rfl) rfl rfl (opv_fieldAddr_lp fi71_2 rfl) ?_
      refine ev (sees_at 0 rfl rfl) rfl rfl (opv_load1 ti3 rfl (.lp _ _ _ rfl) rfl) ?_
      refine ev (sees_at 0 rfl rfl) rfl rfl (opv_fieldAddr_lp fi35_1 rfl) ?_
      refine ev (sees_at 0 rfl rfl) rfl rfl (opv_ixsx ai33 rfl rfl hj5) ?_
      refine ev (sees_at 0 rfl rfl) rfl rfl (opv_ldsx (fun x => .i .i64 x) [.b a1.Stopped] ti3 rfl rfl rfl hu6) ?_
      refine ev (sees_at 0 rfl rfl) rfl rfl (opv_add rfl rfl) ?_
      refine ev (sees_at 0 rfl rfl) rfl rfl (opv_fieldAddr_lp fi71_3 rfl) ?_
      refine ev (sees_at 0 rfl rfl) rfl rfl (opv_load1 ti3 rfl (.lp _ _ _ rfl) rfl) ?_
      refine ev (sees_at 0 rfl rfl) rfl rfl (opv_add rfl rfl) ?_
      refine ed (sees_at 0 rfl rfl) rfl rfl (opD_call fn50 (opnds_cons rfl opnds_nil) rfl (m50_prog_around_c hv7)) ?_
      refine ev (sees_at 0 rfl rfl) rfl rfl (opv_fieldAddr_lp fi35_1 rfl) ?_
      refine ev (sees_at 0 rfl rfl) rfl rfl (opv_ixsx ai33 rfl rfl hj8) ?_
      refine ee0 0 rfl rfl rfl rfl (fun ζ => ?_) ?_
      · refine sstore sz3 rfl rfl rfl rfl (fitsx hj8 (Nat.le_of_ble_eq_true rfl)) ?_
        refine smem [.box a0, .box [.i .i64 (wI (a1.PC + 1)), .i .i64 q9.R0, .i .i64 q9.R1, .i .i64 q9.R2, .i .i64 q9.R3, .i .i64 q9.R4, .i .i64 q9.R5, .i .i64 q9.R6, .i .i64 q9.R7, .b a1.Stopped], .box [.i .i64 0, .i .i64 0, .i .i64 0, .i .i64 0, .i .i64 0, .i .i64 0, .i .i64 0, .i .i64 0, .i .i64 0, .b false]] (put_blk (pu33 hq9 [.i .i64 (wI (a1.PC + 1))] [.b a1.Stopped])) ?_
        exact eend
      refine enil ?_
      refine block_normal ?_
      refine then_normal ?_
      refine cseq ?_
      refine cregion ?_
      refine sv rfl (opv_loadN ti35 rfl (.lp _ _ _ rfl) (Nat.le_of_ble_eq_true rfl)) ?_
      refine sstore sz35 rfl rfl rfl rfl (Nat.le_of_ble_eq_true rfl) ?_
      refine smem [.box a0, .box [.i .i64 (wI (a1.PC + 1)), .i .i64 q9.R0, .i .i64 q9.R1, .i .i64 q9.R2, .i .i64 q9.R3, .i .i64 q9.R4, .i .i64 q9.R5, .i .i64 q9.R6, .i .i64 q9.R7, .b a1.Stopped], .box [.i .i64 (wI (a1.PC + 1)), .i .i64 q9.R0, .i .i64 q9.R1, .i .i64 q9.R2, .i .i64 q9.R3, .i .i64 q9.R4, .i .i64 q9.R5, .i .i64 q9.R6, .i .i64 q9.R7, .b a1.Stopped]] rfl ?_
      refine snil ?_
      refine cret ?_
      obtain rfl := Option.some.inj h
      refine ⟨Or.inr rfl, _, _, _, (resVs_cons (ResV.agg _ _ _ _ _ ti35 rfl (.lp _ _ _ rfl) (Nat.le_of_ble_eq_true rfl)) resVs_nil), (pubA_id rfl), ?_⟩
      rfl
    · replace h := ite_f hc h
      clear hc
      refine cseq ?_
      refine cregion ?_
      refine sv rfl (opv_ieql rfl rfl) ?_
      refine sv rfl (opv_as rfl) ?_
      refine snil ?_
      refine ccond rfl (fun hc => ?_) (fun hc => ?_)
      · replace h := ite_t hc h
        clear hc
        refine cseq ?_
        refine cregion ?_
        refine sv rfl (opv_fieldAddr_lp fi71_1 rfl) ?_
        refine sv rfl (opv_load1 ti3 rfl (.lp _ _ _ rfl) rfl) ?_
        refine sv rfl (opv_fieldAddr_lp fi35_1 rfl) ?_
        obtain ⟨hj10, h⟩ := chk_eq h
        refine sv rfl (opv_ixsx ai33 rfl rfl hj10) ?_
        obtain ⟨u11, hu11, h⟩ := bind_eq h
        refine sv rfl (opv_ldsx (fun x => .i .i64 x) [.b a1.Stopped] ti3 rfl rfl rfl hu11) ?_
        refine sv rfl (opv_ieql rfl rfl) ?_
        refine snil ?_
        refine ccond rfl (fun hc => ?_) (fun hc => ?_)
        · replace h := ite_t hc h
          clear hc
          refine cregion ?_
          refine sv rfl (opv_fieldAddr_lp fi35_0 rfl) ?_
          refine sv rfl (opv_load1 ti3 rfl (.lp _ _ _ rfl) rfl) ?_
          refine sv rfl (opv_fieldAddr_lp fi71_3 rfl) ?_
          refine sv rfl (opv_load1 ti3 rfl (.lp _ _ _ rfl) rfl) ?_
          refine sv rfl (opv_add rfl rfl) ?_
          refine sv rfl (opv_fieldAddr_lp fi35_0 rfl) ?_
          refine sstore sz3 rfl rfl rfl rfl (Nat.le_of_ble_eq_true rfl) ?_
          refine smem [.box a0, .box [.i .i64 (wI ((wI (a1.PC + 1)) + a0.N)), .i .i64 a1.Regs.R0, .i .i64 a1.Regs.R1, .i .i64 a1.Regs.R2, .i .i64 a1.Regs.R3, .i .i64 a1.Regs.R4, .i .i64 a1.Regs.R5, .i .i64 a1.Regs.R6, .i .i64 a1.Regs.R7, .b a1.Stopped], .box [.i .i64 0, .i .i64 0, .i .i64 0, .i .i64 0, .i .i64 0, .i .i64 0, .i .i64 0, .i .i64 0, .i .i64 0, .b false]] rfl ?_
          refine snil0 ?_
          refine block_normal ?_
          refine then_normal ?_
          refine cseq ?_
          refine cregion ?_
          refine sv rfl (opv_loadN ti35 rfl (.lp _ _ _ rfl) (Nat.le_of_ble_eq_true rfl)) ?_
          refine sstore sz35 rfl rfl rfl rfl (Nat.le_of_ble_eq_true rfl) ?_
          refine smem [.box a0, .box [.i .i64 (wI ((wI (a1.PC + 1)) + a0.N)), .i .i64 a1.Regs.R0, .i .i64 a1.Regs.R1, .i .i64 a1.Regs.R2, .i .i64 a1.Regs.R3, .i .i64 a1.Regs.R4, .i .i64 a1.Regs.R5, .i .i64 a1.Regs.R6, .i .i64 a1.Regs.R7, .b a1.Stopped], .box [.i .i64 (wI ((wI (a1.PC + 1)) + a0.N)), .i .i64 a1.Regs.R0, .i .i64 a1.Regs.R1, .i .i64 a1.Regs.R2, .i .i64 a1.Regs.R3, .i .i64 a1.Regs.R4, .i .i64 a1.Regs.R5, .i .i64 a1.Regs.R6, .i .i64 a1.Regs.R7, .b a1.Stopped]] rfl ?_
          refine snil ?_
          refine cret ?_
          obtain rfl := Option.some.inj h
          refine ⟨Or.inr rfl, _, _, _, (resVs_cons (ResV.agg _ _ _ _ _ ti35 rfl (.lp _ _ _ rfl) (Nat.le_of_ble_eq_true rfl)) resVs_nil), (pubA_id rfl), ?_⟩
          rfl
        · replace h := ite_f hc h
          clear hc
          refine cskip ?_
          refine block_normal ?_
          refine then_normal ?_
          refine cseq ?_
          refine cregion ?_
          refine sv rfl (opv_loadN ti35 rfl (.lp _ _ _ rfl) (Nat.le_of_ble_eq_true rfl)) ?_
          refine sstore sz35 rfl rfl rfl rfl (Nat.le_of_ble_eq_true rfl) ?_
          refine smem [.box a0, .box [.i .i64 (wI (a1.PC + 1)), .i .i64 a1.Regs.R0, .i .i64 a1.Regs.R1, .i .i64 a1.Regs.R2, .i .i64 a1.Regs.R3, .i .i64 a1.Regs.R4, .i .i64 a1.Regs.R5, .i .i64 a1.Regs.R6, .i .i64 a1.Regs.R7, .b a1.Stopped], .box [.i .i64 (wI (a1.PC + 1)), .i .i64 a1.Regs.R0, .i .i64 a1.Regs.R1, .i .i64 a1.Regs.R2, .i .i64 a1.Regs.R3, .i .i64 a1.Regs.R4, .i .i64 a1.Regs.R5, .i .i64 a1.Regs.R6, .i .i64 a1.Regs.R7, .b a1.Stopped]] rfl ?_
          refine snil ?_
          refine cret ?_
          obtain rfl := Option.some.inj h
          refine ⟨Or.inr rfl, _, _, _, (resVs_cons (ResV.agg _ _ _ _ _ ti35 rfl (.lp _ _ _ rfl) (Nat.le_of_ble_eq_true rfl)) resVs_nil), (pubA_id rfl), ?_⟩
          rfl
      · replace h := ite_f hc h
        clear hc
        refine cseq ?_
        refine cregion ?_
        refine sv rfl (opv_ieql rfl rfl) ?_
        refine sv rfl (opv_as rfl) ?_
        refine snil ?_
        refine ccond rfl (fun hc => ?_) (fun hc => ?_)
        · replace h := ite_t hc h
          clear hc
          refine cregion ?_
          refine sv rfl (opv_fieldAddr_lp fi35_2 rfl) ?_
          refine sstore sz4 rfl rfl rfl rfl (Nat.le_of_ble_eq_true rfl) ?_
          refine smem [.box a0, .box [.i .i64 (wI (a1.PC + 1)), .i .i64 a1.Regs.R0, .i .i64 a1.Regs.R1, .i .i64 a1.Regs.R2, .i .i64 a1.Regs.R3, .i .i64 a1.Regs.R4, .i .i64 a1.Regs.R5, .i .i64 a1.Regs.R6, .i .i64 a1.Regs.R7, .b true], .box [.i .i64 0, .i .i64 0, .i .i64 0, .i .i64 0, .i .i64 0, .i .i64 0, .i .i64 0, .i .i64 0, .i .i64 0, .b false]] rfl ?_
          refine snil0 ?_
          refine block_normal ?_
          refine then_normal ?_
          refine cseq ?_
          refine cregion ?_
          refine sv rfl (opv_loadN ti35 rfl (.lp _ _ _ rfl) (Nat.le_of_ble_eq_true rfl)) ?_
          refine sstore sz35 rfl rfl rfl rfl (Nat.le_of_ble_eq_true rfl) ?_
          refine smem [.box a0, .box [.i .i64 (wI (a1.PC + 1)), .i .i64 a1.Regs.R0, .i .i64 a1.Regs.R1, .i .i64 a1.Regs.R2, .i .i64 a1.Regs.R3, .i .i64 a1.Regs.R4, .i .i64 a1.Regs.R5, .i .i64 a1.Regs.R6, .i .i64 a1.Regs.R7, .b true], .box [.i .i64 (wI (a1.PC + 1)), .i .i64 a1.Regs.R0, .i .i64 a1.Regs.R1, .i .i64 a1.Regs.R2, .i .i64 a1.Regs.R3, .i .i64 a1.Regs.R4, .i .i64 a1.Regs.R5, .i .i64 a1.Regs.R6, .i .i64 a1.Regs.R7, .b true]] rfl ?_
          refine snil ?_
          refine cret ?_
          obtain rfl := Option.some.inj h
          refine ⟨Or.inr rfl, _, _, _, (resVs_cons (ResV.agg _ _ _ _ _ ti35 rfl (.lp _ _ _ rfl) (Nat.le_of_ble_eq_true rfl)) resVs_nil), (pubA_id rfl), ?_⟩
          rfl
        · replace h := ite_f hc h
          clear hc
          refine cskip ?_
          refine block_normal ?_
          refine then_normal ?_
          refine cseq ?_
          refine cregion ?_
          refine sv rfl (opv_loadN ti35 rfl (.lp _ _ _ rfl) (Nat.le_of_ble_eq_true rfl)) ?_
          refine sstore sz35 rfl rfl rfl rfl (Nat.le_of_ble_eq_true rfl) ?_
          refine smem [.box a0, .box [.i .i64 (wI (a1.PC + 1)), .i .i64 a1.Regs.R0, .i .i64 a1.Regs.R1, .i .i64 a1.Regs.R2, .i .i64 a1.Regs.R3, .i .i64 a1.Regs.R4, .i .i64 a1.Regs.R5, .i .i64 a1.Regs.R6, .i .i64 a1.Regs.R7, .b a1.Stopped], .box [.i .i64 (wI (a1.PC + 1)), .i .i64 a1.Regs.R0, .i .i64 a1.Regs.R1, .i .i64 a1.Regs.R2, .i .i64 a1.Regs.R3, .i .i64 a1.Regs.R4, .i .i64 a1.Regs.R5, .i .i64 a1.Regs.R6, .i .i64 a1.Regs.R7, .b a1.Stopped]] rfl ?_
          refine snil ?_
          refine cret ?_
          obtain rfl := Option.some.inj h
          refine ⟨Or.inr rfl, _, _, _, (resVs_cons (ResV.agg _ _ _ _ _ ti35 rfl (.lp _ _ _ rfl) (Nat.le_of_ble_eq_true rfl)) resVs_nil), (pubA_id rfl), ?_⟩
          rfl

def m18_prog_Next_k2 (a0 : GProgProg) (b2 : Int × Int × Int × Int × Int × Int × Int × Int × Int × Bool) : Option (GMsgReq × GProgState × Bool) :=
  some ((GMsgReq.mk 0 0 0 0 false ([] : List UInt8) ([] : List UInt8) (GApiRange.mk ([] : List UInt8) ([] : List UInt8) false)), (GProgState.mk (if (a0.Ops.length : Int) < b2.1 then (a0.Ops.length : Int) else b2.1) (GAnon33.mk b2.2.1 b2.2.2.1 b2.2.2.2.1 b2.2.2.2.2.1 b2.2.2.2.2.2.1 b2.2.2.2.2.2.2.1 b2.2.2.2.2.2.2.2.1 b2.2.2.2.2.2.2.2.2.1) b2.2.2.2.2.2.2.2.2.2), false)

def m18_prog_Next_k4 (a0 : GProgProg) (s3 : Int × Int × Int × Int × Int × Int × Int × Int × Int × Bool) (b4 : Unit) : Option (LR (Int × Int × Int × Int × Int × Int × Int × Int × Int × Bool) (Int × Int × Int × Int × Int × Int × Int × Int × Int × Bool) (GMsgReq × GProgState × Bool)) :=
  (idx a0.Ops s3.1).bind fun u5 => (m32_prog_asks (GProgOp.mk u5.What u5.A u5.B u5.N u5.Key (GApiRange.mk u5.Rng.Lo u5.Rng.Hi u5.Rng.Open))).bind fun v6 => if v6 then ((m33_prog_request (GProgOp.mk u5.What u5.A u5.B u5.N u5.Key (GApiRange.mk u5.Rng.Lo u5.Rng.Hi u5.Rng.Open)) (GProgState.mk s3.1 (GAnon33.mk s3.2.1 s3.2.2.1 s3.2.2.2.1 s3.2.2.2.2.1 s3.2.2.2.2.2.1 s3.2.2.2.2.2.2.1 s3.2.2.2.2.2.2.2.1 s3.2.2.2.2.2.2.2.2.1) s3.2.2.2.2.2.2.2.2.2)).bind fun v7 => some (.ret ((GMsgReq.mk v7.Kind v7.Seq v7.Token v7.Attempt v7.RO v7.Key v7.Val (GApiRange.mk v7.Rng.Lo v7.Rng.Hi v7.Rng.Open)), (GProgState.mk s3.1 (GAnon33.mk s3.2.1 s3.2.2.1 s3.2.2.2.1 s3.2.2.2.2.1 s3.2.2.2.2.2.1 s3.2.2.2.2.2.2.1 s3.2.2.2.2.2.2.2.1 s3.2.2.2.2.2.2.2.2.1) s3.2.2.2.2.2.2.2.2.2), true))) else ((m34_prog_local (GProgOp.mk u5.What u5.A u5.B u5.N u5.Key (GApiRange.mk u5.Rng.Lo u5.Rng.Hi u5.Rng.Open)) (GProgState.mk s3.1 (GAnon33.mk s3.2.1 s3.2.2.1 s3.2.2.2.1 s3.2.2.2.2.1 s3.2.2.2.2.2.1 s3.2.2.2.2.2.2.1 s3.2.2.2.2.2.2.2.1 s3.2.2.2.2.2.2.2.2.1) s3.2.2.2.2.2.2.2.2.2)).bind fun v8 => some (.cont (v8.PC, v8.Regs.R0, v8.Regs.R1, v8.Regs.R2, v8.Regs.R3, v8.Regs.R4, v8.Regs.R5, v8.Regs.R6, v8.Regs.R7, v8.Stopped)))

def m18_prog_Next_s3 (a0 : GProgProg) (s3 : Int × Int × Int × Int × Int × Int × Int × Int × Int × Bool) : Option (LR (Int × Int × Int × Int × Int × Int × Int × Int × Int × Bool) (Int × Int × Int × Int × Int × Int × Int × Int × Int × Bool) (GMsgReq × GProgState × Bool)) :=
  if (decide (s3.1 < (a0.Ops.length : Int))) then (if (!s3.2.2.2.2.2.2.2.2.2) then (m18_prog_Next_k4 a0 s3 ()) else (some (.brk (s3.1, s3.2.1, s3.2.2.1, s3.2.2.2.1, s3.2.2.2.2.1, s3.2.2.2.2.2.1, s3.2.2.2.2.2.2.1, s3.2.2.2.2.2.2.2.1, s3.2.2.2.2.2.2.2.2.1, s3.2.2.2.2.2.2.2.2.2)))) else (some (.brk (s3.1, s3.2.1, s3.2.2.1, s3.2.2.2.1, s3.2.2.2.2.1, s3.2.2.2.2.2.1, s3.2.2.2.2.2.2.1, s3.2.2.2.2.2.2.2.1, s3.2.2.2.2.2.2.2.2.1, s3.2.2.2.2.2.2.2.2.2)))

def m18_prog_Next_k1 (a0 : GProgProg) (a1 : GProgState) (b1 : Unit) : Option (GMsgReq × GProgState × Bool) :=
  (iter (m18_prog_Next_s3 a0) fuel (a1.PC, a1.Regs.R0, a1.Regs.R1, a1.Regs.R2, a1.Regs.R3, a1.Regs.R4, a1.Regs.R5, a1.Regs.R6, a1.Regs.R7, a1.Stopped)).bind fun x => match x with | .inl r => some r | .inr e9 => m18_prog_Next_k2 a0 e9
def m18_prog_Next (a0 : GProgProg) (a1 : GProgState) : Option (GMsgReq × GProgState × Bool) :=
  (m15_prog_Sane (GProgProg.mk a0.RO a0.Ops)).bind fun v10 => if (!v10) then (some ((GMsgReq.mk 0 0 0 0 false ([] : List UInt8) ([] : List UInt8) (GApiRange.mk ([] : List UInt8) ([] : List UInt8) false)), (GProgState.mk a1.PC (GAnon33.mk a1.Regs.R0 a1.Regs.R1 a1.Regs.R2 a1.Regs.R3 a1.Regs.R4 a1.Regs.R5 a1.Regs.R6 a1.Regs.R7) a1.Stopped), false)) else (if (decide (a1.PC < 0)) then (some ((GMsgReq.mk 0 0 0 0 false ([] : List UInt8) ([] : List UInt8) (GApiRange.mk ([] : List UInt8) ([] : List UInt8) false)), (GProgState.mk a1.PC (GAnon33.mk a1.Regs.R0 a1.Regs.R1 a1.Regs.R2 a1.Regs.R3 a1.Regs.R4 a1.Regs.R5 a1.Regs.R6 a1.Regs.R7) a1.Stopped), false)) else (m18_prog_Next_k1 a0 a1 ()))

set_option maxRecDepth 100000 in
theorem m18_prog_Next_c {a0 : GProgProg} {a1 : GProgState} {r : GMsgReq × GProgState × Bool} (h : m18_prog_Next a0 a1 = some r) : CallsA Try.prog 18 [.agg a0, .agg a1] (· = .tup [.agg r.1, .agg r.2.1, .one (.b r.2.2)]) := by
  unfold m18_prog_Next at h
  refine callsA_of Try.func18 rfl (nt := 53) rfl (Nat.le_of_ble_eq_true rfl) ?_
  intro w0 S0
  refine cseq ?_
  refine cregion ?_
  refine sbox rfl rfl ?_
  refine sbox rfl rfl ?_
  refine salloc rfl zi46 ?_
  refine salloc rfl zi35 ?_
  refine sv rfl (opv_as rfl) ?_
  refine snil ?_
  refine cseq ?_
  refine cseq ?_
  refine cjoin3 (Unit) (fun b1 => [(2, .s (.one (.lp 0 0))), (3, .s (.one (.lp 1 0))), (4, .s (.one (.lp 2 0))), (5, .s (.one (.lp 3 0)))]) (fun b1 => [.box a0, .box a1, .box [.i .i64 0, .i .i64 0, .i .i64 0, .i .i64 0, .b false, .raw (.slice none 0 0), .raw (.slice none 0 0), .raw (.slice none 0 0), .raw (.slice none 0 0), .b false], .box [.i .i64 0, .i .i64 0, .i .i64 0, .i .i64 0, .i .i64 0, .i .i64 0, .i .i64 0, .i .i64 0, .i .i64 0, .b false]]) (fun b1 => m18_prog_Next_k1 a0 a1 b1 = some r) (fun _ _ => inbL_of rfl) (fun _ _ => blkinb_of rfl) (fun _ _ => Nat.le_of_ble_eq_true rfl) (fun b1 h => ?_) ?_
  · unfold m18_prog_Next_k1 at h
    refine cseq ?_
    refine cjoin (Int × Int × Int × Int × Int × Int × Int × Int × Int × Bool) (fun b2 => [(2, .s (.one (.lp 0 0))), (3, .s (.one (.lp 1 0))), (4, .s (.one (.lp 2 0))), (5, .s (.one (.lp 3 0)))]) (fun b2 => [.box a0, .box [.i .i64 b2.1, .i .i64 b2.2.1, .i .i64 b2.2.2.1, .i .i64 b2.2.2.2.1, .i .i64 b2.2.2.2.2.1, .i .i64 b2.2.2.2.2.2.1, .i .i64 b2.2.2.2.2.2.2.1, .i .i64 b2.2.2.2.2.2.2.2.1, .i .i64 b2.2.2.2.2.2.2.2.2.1, .b b2.2.2.2.2.2.2.2.2.2], .box [.i .i64 0, .i .i64 0, .i .i64 0, .i .i64 0, .b false, .raw (.slice none 0 0), .raw (.slice none 0 0), .raw (.slice none 0 0), .raw (.slice none 0 0), .b false], .box [.i .i64 0, .i .i64 0, .i .i64 0, .i .i64 0, .i .i64 0, .i .i64 0, .i .i64 0, .i .i64 0, .i .i64 0, .b false]]) (fun b2 => m18_prog_Next_k2 a0 b2 = some r) (fun _ _ => inbL_of rfl) (fun _ _ => blkinb_of rfl) (fun _ _ => Nat.le_of_ble_eq_true rfl) (fun b2 h => ?_) ?_
    · unfold m18_prog_Next_k2 at h
      refine cseq ?_
      refine cregion ?_
      refine sv rfl (opv_fieldAddr_lp fi35_0 rfl) ?_
      refine sv rfl (opv_load1 ti3 rfl (.lp _ _ _ rfl) rfl) ?_
      refine sv rfl (opv_fieldAddr_lp fi31_1 rfl) ?_
      refine sv rfl (opv_load1 ti29 rfl (.lp _ _ _ rfl) rfl) ?_
      refine sv rfl (opv_len_sl si29 rfl) ?_
      refine sv rfl (opv_min rfl rfl) ?_
      refine sv rfl (opv_fieldAddr_lp fi35_0 rfl) ?_
      refine sstore sz3 rfl rfl rfl rfl (Nat.le_of_ble_eq_true rfl) ?_
      refine smem [.box a0, .box [.i .i64 (if (a0.Ops.length : Int) < b2.1 then (a0.Ops.length : Int) else b2.1), .i .i64 b2.2.1, .i .i64 b2.2.2.1, .i .i64 b2.2.2.2.1, .i .i64 b2.2.2.2.2.1, .i .i64 b2.2.2.2.2.2.1, .i .i64 b2.2.2.2.2.2.2.1, .i .i64 b2.2.2.2.2.2.2.2.1, .i .i64 b2.2.2.2.2.2.2.2.2.1, .b b2.2.2.2.2.2.2.2.2.2], .box [.i .i64 0, .i .i64 0, .i .i64 0, .i .i64 0, .b false, .raw (.slice none 0 0), .raw (.slice none 0 0), .raw (.slice none 0 0), .raw (.slice none 0 0), .b false], .box [.i .i64 0, .i .i64 0, .i .i64 0, .i .i64 0, .i .i64 0, .i .i64 0, .i .i64 0, .i .i64 0, .i .i64 0, .b false]] rfl ?_
      refine snil ?_
      refine cseq ?_
      refine cdraw_e [2, 3] [0, 0, 1, 7, 15] [[.box a0, .box [.i .i64 (if (a0.Ops.length : Int) < b2.1 then (a0.Ops.length : Int) else b2.1), .i .i64 b2.2.1, .i .i64 b2.2.2.1, .i .i64 b2.2.2.2.1, .i .i64 b2.2.2.2.2.1, .i .i64 b2.2.2.2.2.2.1, .i .i64 b2.2.2.2.2.2.2.1, .i .i64 b2.2.2.2.2.2.2.2.1, .i .i64 b2.2.2.2.2.2.2.2.2.1, .b b2.2.2.2.2.2.2.2.2.2], .box [.i .i64 0, .i .i64 0, .i .i64 0, .i .i64 0, .b false, .raw (.slice none 0 0), .raw (.slice none 0 0), .raw (.slice none 0 0), .raw (.slice none 0 0), .b false], .box [.i .i64 0, .i .i64 0, .i .i64 0, .i .i64 0, .i .i64 0, .i .i64 0, .i .i64 0, .i .i64 0, .i .i64 0, .b false]], [.box a0, .box [.i .i64 (if (a0.Ops.length : Int) < b2.1 then (a0.Ops.length : Int) else b2.1), .i .i64 b2.2.1, .i .i64 b2.2.2.1, .i .i64 b2.2.2.2.1, .i .i64 b2.2.2.2.2.1, .i .i64 b2.2.2.2.2.2.1, .i .i64 b2.2.2.2.2.2.2.1, .i .i64 b2.2.2.2.2.2.2.2.1, .i .i64 b2.2.2.2.2.2.2.2.2.1, .b b2.2.2.2.2.2.2.2.2.2], .box [.i .i64 0, .i .i64 0, .i .i64 0, .i .i64 0, .b false, .raw (.slice none 0 0), .raw (.slice none 0 0), .raw (.slice none 0 0), .raw (.slice none 0 0), .b false], .box [.i .i64 0, .i .i64 0, .i .i64 0, .i .i64 0, .i .i64 0, .i .i64 0, .i .i64 0, .i .i64 0, .i .i64 0, .b false]], [.box a0, .box [.i .i64 (if (a0.Ops.length : Int) < b2.1 then (a0.Ops.length : Int) else b2.1), .i .i64 b2.2.1, .i .i64 b2.2.2.1, .i .i64 b2.2.2.2.1, .i .i64 b2.2.2.2.2.1, .i .i64 b2.2.2.2.2.2.1, .i .i64 b2.2.2.2.2.2.2.1, .i .i64 b2.2.2.2.2.2.2.2.1, .i .i64 b2.2.2.2.2.2.2.2.2.1, .b b2.2.2.2.2.2.2.2.2.2], .box [.i .i64 0, .i .i64 0, .i .i64 0, .i .i64 0, .b false, .raw (.slice none 0 0), .raw (.slice none 0 0), .raw (.slice none 0 0), .raw (.slice none 0 0), .b false], .box [.i .i64 (if (a0.Ops.length : Int) < b2.1 then (a0.Ops.length : Int) else b2.1), .i .i64 b2.2.1, .i .i64 b2.2.2.1, .i .i64 b2.2.2.2.1, .i .i64 b2.2.2.2.2.1, .i .i64 b2.2.2.2.2.2.1, .i .i64 b2.2.2.2.2.2.2.1, .i .i64 b2.2.2.2.2.2.2.2.1, .i .i64 b2.2.2.2.2.2.2.2.2.1, .b b2.2.2.2.2.2.2.2.2.2]]] (by kernel_rfl) mixed (by kernel_rfl) (by decide) rfl rfl rfl rfl ?_
      refine ev (sees_at 0 rfl rfl) rfl rfl (opv_build zi46 pi46 parts_nil (.nil _)) ?_
      refine ev (sees_all (md := [.box a0, .box [.i .i64 (if (a0.Ops.length : Int) < b2.1 then (a0.Ops.length : Int) else b2.1), .i .i64 b2.2.1, .i .i64 b2.2.2.1, .i .i64 b2.2.2.2.1, .i .i64 b2.2.2.2.2.1, .i .i64 b2.2.2.2.2.2.1, .i .i64 b2.2.2.2.2.2.2.1, .i .i64 b2.2.2.2.2.2.2.2.1, .i .i64 b2.2.2.2.2.2.2.2.2.1, .b b2.2.2.2.2.2.2.2.2.2], .box [.i .i64 0, .i .i64 0, .i .i64 0, .i .i64 0, .b false, .raw (.slice none 0 0), .raw (.slice none 0 0), .raw (.slice none 0 0), .raw (.slice none 0 0), .b false], .dead]) ⟨⟨rfl, ⟨rfl, ⟨rfl, ⟨trivial, trivial⟩⟩⟩⟩, ⟨⟨rfl, ⟨rfl, ⟨rfl, ⟨trivial, trivial⟩⟩⟩⟩, ⟨⟨rfl, ⟨rfl, ⟨rfl, ⟨trivial, trivial⟩⟩⟩⟩, trivial⟩⟩⟩) rfl rfl (opv_loadN ti35 rfl (.lp _ _ _ rfl) (Nat.le_of_ble_eq_true rfl)) ?_
      refine ee0 0 rfl rfl rfl rfl (fun ζ => ?_) ?_
      · refine sstore sz46 rfl rfl rfl rfl (Nat.le_of_ble_eq_true rfl) ?_
        refine smem [.box a0, .box [.i .i64 (if (a0.Ops.length : Int) < b2.1 then (a0.Ops.length : Int) else b2.1), .i .i64 b2.2.1, .i .i64 b2.2.2.1, .i .i64 b2.2.2.2.1, .i .i64 b2.2.2.2.2.1, .i .i64 b2.2.2.2.2.2.1, .i .i64 b2.2.2.2.2.2.2.1, .i .i64 b2.2.2.2.2.2.2.2.1, .i .i64 b2.2.2.2.2.2.2.2.2.1, .b b2.2.2.2.2.2.2.2.2.2], .box [.i .i64 0, .i .i64 0, .i .i64 0, .i .i64 0, .b false, .raw (.slice none 0 0), .raw (.slice none 0 0), .raw (.slice none 0 0), .raw (.slice none 0 0), .b false], .box [.i .i64 0, .i .i64 0, .i .i64 0, .i .i64 0, .i .i64 0, .i .i64 0, .i .i64 0, .i .i64 0, .i .i64 0, .b false]] rfl ?_
        exact eend
      refine ee0 1 rfl rfl rfl rfl (fun ζ => ?_) ?_
      · refine sstore sz35 rfl rfl rfl rfl (Nat.le_of_ble_eq_true rfl) ?_
        refine smem [.box a0, .box [.i .i64 (if (a0.Ops.length : Int) < b2.1 then (a0.Ops.length : Int) else b2.1), .i .i64 b2.2.1, .i .i64 b2.2.2.1, .i .i64 b2.2.2.2.1, .i .i64 b2.2.2.2.2.1, .i .i64 b2.2.2.2.2.2.1, .i .i64 b2.2.2.2.2.2.2.1, .i .i64 b2.2.2.2.2.2.2.2.1, .i .i64 b2.2.2.2.2.2.2.2.2.1, .b b2.2.2.2.2.2.2.2.2.2], .box [.i .i64 0, .i .i64 0, .i .i64 0, .i .i64 0, .b false, .raw (.slice none 0 0), .raw (.slice none 0 0), .raw (.slice none 0 0), .raw (.slice none 0 0), .b false], .box [.i .i64 (if (a0.Ops.length : Int) < b2.1 then (a0.Ops.length : Int) else b2.1), .i .i64 b2.2.1, .i .i64 b2.2.2.1, .i .i64 b2.2.2.2.1, .i .i64 b2.2.2.2.2.1, .i .i64 b2.2.2.2.2.2.1, .i .i64 b2.2.2.2.2.2.2.1, .i .i64 b2.2.2.2.2.2.2.2.1, .i .i64 b2.2.2.2.2.2.2.2.2.1, .b b2.2.2.2.2.2.2.2.2.2]] rfl ?_
        exact eend
      refine ev (sees_at 2 rfl rfl) rfl rfl (opv_as rfl) ?_
      refine enil ?_
      refine then_normal ?_
      refine cret ?_
      obtain rfl := Option.some.inj h
      refine ⟨Or.inr rfl, _, _, _, (resVs_cons (ResV.agg _ _ _ _ _ ti46 rfl (.lp _ _ _ rfl) (Nat.le_of_ble_eq_true rfl)) (resVs_cons (ResV.agg _ _ _ _ _ ti35 rfl (.lp _ _ _ rfl) (Nat.le_of_ble_eq_true rfl)) (resVs_cons (ResV.tmp _ _ rfl) resVs_nil))), (pubC rfl), ?_⟩
      rfl
    · skip
      refine cblock ?_
      obtain ⟨x3, hx3, ho3⟩ := bind_eq h
      refine awc_loop (G := Nat × (Int × Int × Int × Int × Int × Int × Int × Int × Int × Bool)) (fun g => [(2, .s (.one (.lp 0 0))), (3, .s (.one (.lp 1 0))), (4, .s (.one (.lp 2 0))), (5, .s (.one (.lp 3 0)))]) (fun g => [.box a0, .box [.i .i64 g.2.1, .i .i64 g.2.2.1, .i .i64 g.2.2.2.1, .i .i64 g.2.2.2.2.1, .i .i64 g.2.2.2.2.2.1, .i .i64 g.2.2.2.2.2.2.1, .i .i64 g.2.2.2.2.2.2.2.1, .i .i64 g.2.2.2.2.2.2.2.2.1, .i .i64 g.2.2.2.2.2.2.2.2.2.1, .b g.2.2.2.2.2.2.2.2.2.2], .box [.i .i64 0, .i .i64 0, .i .i64 0, .i .i64 0, .b false, .raw (.slice none 0 0), .raw (.slice none 0 0), .raw (.slice none 0 0), .raw (.slice none 0 0), .b false], .box [.i .i64 0, .i .i64 0, .i .i64 0, .i .i64 0, .i .i64 0, .i .i64 0, .i .i64 0, .i .i64 0, .i .i64 0, .b false]]) (fun g => iter (m18_prog_Next_s3 a0) g.1 g.2 = some x3) (fun g => g.1) (fuel, (a1.PC, a1.Regs.R0, a1.Regs.R1, a1.Regs.R2, a1.Regs.R3, a1.Regs.R4, a1.Regs.R5, a1.Regs.R6, a1.Regs.R7, a1.Stopped)) hx3 ⟨rfl, rfl, rfl, rfl, trivial⟩ [] rfl (fun _ _ => inbL_of rfl) (fun _ _ => blkinb_of rfl) (fun _ _ => Nat.le_of_ble_eq_true rfl) ?_
      clear hx3 h
      rintro ⟨n3, s3⟩ h
      obtain ⟨n3, y3, rfl, h, hk3⟩ := iter_eq h
      unfold m18_prog_Next_s3 at h
      refine cseq ?_
      refine cseq ?_
      refine cjoin3 (Unit) (fun b4 => [(2, .s (.one (.lp 0 0))), (3, .s (.one (.lp 1 0))), (4, .s (.one (.lp 2 0))), (5, .s (.one (.lp 3 0)))]) (fun b4 => [.box a0, .box [.i .i64 s3.1, .i .i64 s3.2.1, .i .i64 s3.2.2.1, .i .i64 s3.2.2.2.1, .i .i64 s3.2.2.2.2.1, .i .i64 s3.2.2.2.2.2.1, .i .i64 s3.2.2.2.2.2.2.1, .i .i64 s3.2.2.2.2.2.2.2.1, .i .i64 s3.2.2.2.2.2.2.2.2.1, .b s3.2.2.2.2.2.2.2.2.2], .box [.i .i64 0, .i .i64 0, .i .i64 0, .i .i64 0, .b false, .raw (.slice none 0 0), .raw (.slice none 0 0), .raw (.slice none 0 0), .raw (.slice none 0 0), .b false], .box [.i .i64 0, .i .i64 0, .i .i64 0, .i .i64 0, .i .i64 0, .i .i64 0, .i .i64 0, .i .i64 0, .i .i64 0, .b false]]) (fun b4 => m18_prog_Next_k4 a0 s3 b4 = some y3) (fun _ _ => inbL_of rfl) (fun _ _ => blkinb_of rfl) (fun _ _ => Nat.le_of_ble_eq_true rfl) (fun b4 h => ?_) ?_
      · unfold m18_prog_Next_k4 at h
        refine cblock ?_
        refine cseq ?_
        refine cregion ?_
        refine sv rfl (opv_fieldAddr_lp fi31_1 rfl) ?_
        refine sv rfl (opv_load1 ti29 rfl (.lp _ _ _ rfl) rfl) ?_
        refine sv rfl (opv_fieldAddr_lp fi35_0 rfl) ?_
        refine sv rfl (opv_load1 ti3 rfl (.lp _ _ _ rfl) rfl) ?_
        obtain ⟨u5, hu5, h⟩ := bind_eq h
        refine sv rfl (opv_ix (f := eGProgOp) si29 (fun _ => rfl) rfl rfl rfl rfl hu5) ?_
        refine sv rfl (opv_loadNe (ys := [.i .i64 u5.What, .i .i64 u5.A, .i .i64 u5.B, .i .i64 u5.N, .sl u5.Key.length (u5.Key.flatMap eU8), .sl u5.Rng.Lo.length (u5.Rng.Lo.flatMap eU8), .sl u5.Rng.Hi.length (u5.Rng.Hi.flatMap eU8), .b u5.Rng.Open]) ti71 rfl (.cp _) rfl rfl) ?_
        refine salloc rfl zi71 ?_
        refine sstore sz71 rfl rfl rfl rfl (Nat.le_of_ble_eq_true rfl) ?_
        refine smem [.box a0, .box [.i .i64 s3.1, .i .i64 s3.2.1, .i .i64 s3.2.2.1, .i .i64 s3.2.2.2.1, .i .i64 s3.2.2.2.2.1, .i .i64 s3.2.2.2.2.2.1, .i .i64 s3.2.2.2.2.2.2.1, .i .i64 s3.2.2.2.2.2.2.2.1, .i .i64 s3.2.2.2.2.2.2.2.2.1, .b s3.2.2.2.2.2.2.2.2.2], .box [.i .i64 0, .i .i64 0, .i .i64 0, .i .i64 0, .b false, .raw (.slice none 0 0), .raw (.slice none 0 0), .raw (.slice none 0 0), .raw (.slice none 0 0), .b false], .box [.i .i64 0, .i .i64 0, .i .i64 0, .i .i64 0, .i .i64 0, .i .i64 0, .i .i64 0, .i .i64 0, .i .i64 0, .b false], .box u5] rfl ?_
        refine snil ?_
        refine cseq ?_
        refine cseq ?_
        refine cregion ?_
        refine sv rfl (opv_loadN ti71 rfl (.lp _ _ _ rfl) (Nat.le_of_ble_eq_true rfl)) ?_
        obtain ⟨v6, hv6, h⟩ := bind_eq h
        refine scall1 rfl fn32 (opnds_cons rfl opnds_nil) (pubA_id rfl) (m32_prog_asks_c hv6) ?_
        refine snil ?_
        refine ccond rfl (fun hc => ?_) (fun hc => ?_)
        · replace h := ite_t hc h
          clear hc
          refine cseq ?_
          obtain ⟨v7, hv7, h⟩ := bind_eq h
          refine cdraw_e [4, 5] [0, 0, 3, 0, 7, 31, 63] [[.box a0, .box [.i .i64 s3.1, .i .i64 s3.2.1, .i .i64 s3.2.2.1, .i .i64 s3.2.2.2.1, .i .i64 s3.2.2.2.2.1, .i .i64 s3.2.2.2.2.2.1, .i .i64 s3.2.2.2.2.2.2.1, .i .i64 s3.2.2.2.2.2.2.2.1, .i .i64 s3.2.2.2.2.2.2.2.2.1, .b s3.2.2.2.2.2.2.2.2.2], .box [.i .i64 0, .i .i64 0, .i .i64 0, .i .i64 0, .b false, .raw (.slice none 0 0), .raw (.slice none 0 0), .raw (.slice none 0 0), .raw (.slice none 0 0), .b false], .box [.i .i64 0, .i .i64 0, .i .i64 0, .i .i64 0, .i .i64 0, .i .i64 0, .i .i64 0, .i .i64 0, .i .i64 0, .b false], .box u5], [.box a0, .box [.i .i64 s3.1, .i .i64 s3.2.1, .i .i64 s3.2.2.1, .i .i64 s3.2.2.2.1, .i .i64 s3.2.2.2.2.1, .i .i64 s3.2.2.2.2.2.1, .i .i64 s3.2.2.2.2.2.2.1, .i .i64 s3.2.2.2.2.2.2.2.1, .i .i64 s3.2.2.2.2.2.2.2.2.1, .b s3.2.2.2.2.2.2.2.2.2], .box v7, .box [.i .i64 0, .i .i64 0, .i .i64 0, .i .i64 0, .i .i64 0, .i .i64 0, .i .i64 0, .i .i64 0, .i .i64 0, .b false], .box u5], [.box a0, .box [.i .i64 s3.1, .i .i64 s3.2.1, .i .i64 s3.2.2.1, .i .i64 s3.2.2.2.1, .i .i64 s3.2.2.2.2.1, .i .i64 s3.2.2.2.2.2.1, .i .i64 s3.2.2.2.2.2.2.1, .i .i64 s3.2.2.2.2.2.2.2.1, .i .i64 s3.2.2.2.2.2.2.2.2.1, .b s3.2.2.2.2.2.2.2.2.2], .box v7, .box [.i .i64 s3.1, .i .i64 s3.2.1, .i .i64 s3.2.2.1, .i .i64 s3.2.2.2.1, .i .i64 s3.2.2.2.2.1, .i .i64 s3.2.2.2.2.2.1, .i .i64 s3.2.2.2.2.2.2.1, .i .i64 s3.2.2.2.2.2.2.2.1, .i .i64 s3.2.2.2.2.2.2.2.2.1, .b s3.2.2.2.2.2.2.2.2.2], .box u5]] (by kernel_rfl) mixed (by kernel_rfl) (by decide) rfl rfl rfl rfl ?_
          refine ev (sees_at 0 rfl rfl) rfl rfl (opv_loadN ti71 rfl (.lp _ _ _ rfl) (Nat.le_of_ble_eq_true rfl)) ?_
          refine ev (sees_at 0 rfl rfl) rfl rfl (opv_loadN ti35 rfl (.lp _ _ _ rfl) (Nat.le_of_ble_eq_true rfl)) ?_
          refine ed (sees_at 0 rfl rfl) rfl rfl (opD_call fn33 (opnds_cons rfl (opnds_cons rfl opnds_nil)) rfl (m33_prog_request_c hv7)) ?_
          refine ev (sees_all (md := [.box a0, .box [.i .i64 s3.1, .i .i64 s3.2.1, .i .i64 s3.2.2.1, .i .i64 s3.2.2.2.1, .i .i64 s3.2.2.2.2.1, .i .i64 s3.2.2.2.2.2.1, .i .i64 s3.2.2.2.2.2.2.1, .i .i64 s3.2.2.2.2.2.2.2.1, .i .i64 s3.2.2.2.2.2.2.2.2.1, .b s3.2.2.2.2.2.2.2.2.2], .dead, .dead, .box u5]) ⟨⟨rfl, ⟨rfl, ⟨trivial, ⟨trivial, ⟨rfl, trivial⟩⟩⟩⟩⟩, ⟨⟨rfl, ⟨rfl, ⟨trivial, ⟨trivial, ⟨rfl, trivial⟩⟩⟩⟩⟩, ⟨⟨rfl, ⟨rfl, ⟨trivial, ⟨trivial, ⟨rfl, trivial⟩⟩⟩⟩⟩, trivial⟩⟩⟩) rfl rfl (opv_loadN ti35 rfl (.lp _ _ _ rfl) (Nat.le_of_ble_eq_true rfl)) ?_
          refine ee0 0 rfl rfl rfl rfl (fun ζ => ?_) ?_
          · refine sstore sz46 rfl rfl rfl rfl (Nat.le_of_ble_eq_true rfl) ?_
            refine smem [.box a0, .box [.i .i64 s3.1, .i .i64 s3.2.1, .i .i64 s3.2.2.1, .i .i64 s3.2.2.2.1, .i .i64 s3.2.2.2.2.1, .i .i64 s3.2.2.2.2.2.1, .i .i64 s3.2.2.2.2.2.2.1, .i .i64 s3.2.2.2.2.2.2.2.1, .i .i64 s3.2.2.2.2.2.2.2.2.1, .b s3.2.2.2.2.2.2.2.2.2], .box v7, .box [.i .i64 0, .i .i64 0, .i .i64 0, .i .i64 0, .i .i64 0, .i .i64 0, .i .i64 0, .i .i64 0, .i .i64 0, .b false], .box u5] rfl ?_
            exact eend
          refine ee0 1 rfl rfl rfl rfl (fun ζ => ?_) ?_
          · refine sstore sz35 rfl rfl rfl rfl (Nat.le_of_ble_eq_true rfl) ?_
            refine smem [.box a0, .box [.i .i64 s3.1, .i .i64 s3.2.1, .i .i64 s3.2.2.1, .i .i64 s3.2.2.2.1, .i .i64 s3.2.2.2.2.1, .i .i64 s3.2.2.2.2.2.1, .i .i64 s3.2.2.2.2.2.2.1, .i .i64 s3.2.2.2.2.2.2.2.1, .i .i64 s3.2.2.2.2.2.2.2.2.1, .b s3.2.2.2.2.2.2.2.2.2], .box v7, .box [.i .i64 s3.1, .i .i64 s3.2.1, .i .i64 s3.2.2.1, .i .i64 s3.2.2.2.1, .i .i64 s3.2.2.2.2.1, .i .i64 s3.2.2.2.2.2.1, .i .i64 s3.2.2.2.2.2.2.1, .i .i64 s3.2.2.2.2.2.2.2.1, .i .i64 s3.2.2.2.2.2.2.2.2.1, .b s3.2.2.2.2.2.2.2.2.2], .box u5] rfl ?_
            exact eend
          refine ev (sees_at 2 rfl rfl) rfl rfl (opv_as rfl) ?_
          refine enil ?_
          refine then_normal ?_
          refine cret ?_
          refine then_ret ?_
          refine block_ret ?_
          refine then_ret ?_
          refine block_ret ?_
          refine then_ret ?_
          obtain rfl := Option.some.inj h
          obtain rfl : Sum.inl _ = x3 := hk3
          replace ho3 : some _ = some _ := ho3
          obtain rfl := Option.some.inj ho3
          refine ⟨Or.inr rfl, _, _, _, (resVs_cons (ResV.agg _ _ _ _ _ ti46 rfl (.lp _ _ _ rfl) (Nat.le_of_ble_eq_true rfl)) (resVs_cons (ResV.agg _ _ _ _ _ ti35 rfl (.lp _ _ _ rfl) (Nat.le_of_ble_eq_true rfl)) (resVs_cons (ResV.tmp _ _ rfl) resVs_nil))), (pubA_id rfl), ?_⟩
          rfl
        · replace h := ite_f hc h
          clear hc
          refine cskip ?_
          refine then_normal ?_
          refine cregion ?_
          refine sv rfl (opv_loadN ti71 rfl (.lp _ _ _ rfl) (Nat.le_of_ble_eq_true rfl)) ?_
          refine sv rfl (opv_loadN ti35 rfl (.lp _ _ _ rfl) (Nat.le_of_ble_eq_true rfl)) ?_
          obtain ⟨v8, hv8, h⟩ := bind_eq h
          refine scall1 rfl fn34 (opnds_cons rfl (opnds_cons rfl opnds_nil)) (pubA_id rfl) (m34_prog_local_c hv8) ?_
          refine sstore sz35 rfl rfl rfl rfl (Nat.le_of_ble_eq_true rfl) ?_
          refine smem [.box a0, .box v8, .box [.i .i64 0, .i .i64 0, .i .i64 0, .i .i64 0, .b false, .raw (.slice none 0 0), .raw (.slice none 0 0), .raw (.slice none 0 0), .raw (.slice none 0 0), .b false], .box [.i .i64 0, .i .i64 0, .i .i64 0, .i .i64 0, .i .i64 0, .i .i64 0, .i .i64 0, .i .i64 0, .i .i64 0, .b false], .box u5] rfl ?_
          refine snil0 ?_
          refine block_normal ?_
          refine then_normal ?_
          obtain rfl := Option.some.inj h
          exact ⟨(n3, (v8.PC, v8.Regs.R0, v8.Regs.R1, v8.Regs.R2, v8.Regs.R3, v8.Regs.R4, v8.Regs.R5, v8.Regs.R6, v8.Regs.R7, v8.Stopped)), _, hk3, ⟨rfl, rfl, rfl, rfl, trivial⟩, rfl, Nat.lt_succ_self _⟩
      · skip
        refine cregion ?_
        refine sv rfl (opv_fieldAddr_lp fi35_0 rfl) ?_
        refine sv rfl (opv_load1 ti3 rfl (.lp _ _ _ rfl) rfl) ?_
        refine sv rfl (opv_fieldAddr_lp fi31_1 rfl) ?_
        refine sv rfl (opv_load1 ti29 rfl (.lp _ _ _ rfl) rfl) ?_
        refine sv rfl (opv_len_sl si29 rfl) ?_
        refine sv rfl (opv_lss rfl rfl) ?_
        refine sv rfl (opv_mv rfl) ?_
        refine ssplit 24 rfl (fun hc => ?_) (fun hc => ?_)
        · replace h := ite_t hc h
          clear hc
          refine son rfl rfl rfl ?_
          refine sv rfl (opv_fieldAddr_lp fi35_2 rfl) ?_
          refine son rfl rfl rfl ?_
          refine sv rfl (opv_load1 ti4 rfl (.lp _ _ _ rfl) rfl) ?_
          refine son rfl rfl rfl ?_
          refine sv rfl (opv_not rfl) ?_
          refine sv rfl (opv_pick_t rfl rfl) ?_
          refine snil ?_
          refine ccond rfl (fun hc => ?_) (fun hc => ?_)
          · replace h := ite_t hc h
            clear hc
            refine cskip ?_
            refine then_normal ?_
            exact ⟨(), _, h, ⟨rfl, rfl, rfl, rfl, trivial⟩, rfl⟩
          · replace h := ite_f hc h
            clear hc
            refine cexit ?_
            refine then_exit ?_
            refine then_exit ?_
            refine block_hit ?_
            refine then_normal ?_
            obtain rfl := Option.some.inj h
            obtain rfl : _ = x3 := hk3
            exact ⟨(s3.1, s3.2.1, s3.2.2.1, s3.2.2.2.1, s3.2.2.2.2.1, s3.2.2.2.2.2.1, s3.2.2.2.2.2.2.1, s3.2.2.2.2.2.2.2.1, s3.2.2.2.2.2.2.2.2.1, s3.2.2.2.2.2.2.2.2.2), _, ho3, ⟨rfl, rfl, rfl, rfl, trivial⟩, rfl⟩
        · replace h := ite_f hc h
          clear hc
          refine soff rfl rfl rfl rfl ?_
          refine soff rfl rfl rfl rfl ?_
          refine soff rfl rfl rfl rfl ?_
          refine sv rfl (opv_pick_f rfl rfl) ?_
          refine snil ?_
          refine ccond rfl (fun hx => Bool.noConfusion hx) (fun _ => ?_)
          refine cexit ?_
          refine then_exit ?_
          refine then_exit ?_
          refine block_hit ?_
          refine then_normal ?_
          obtain rfl := Option.some.inj h
          obtain rfl : _ = x3 := hk3
          exact ⟨(s3.1, s3.2.1, s3.2.2.1, s3.2.2.2.1, s3.2.2.2.2.1, s3.2.2.2.2.2.1, s3.2.2.2.2.2.2.1, s3.2.2.2.2.2.2.2.1, s3.2.2.2.2.2.2.2.2.1, s3.2.2.2.2.2.2.2.2.2), _, ho3, ⟨rfl, rfl, rfl, rfl, trivial⟩, rfl⟩
  · skip
    refine cregion ?_
    refine sv rfl (opv_loadN ti31 rfl (.lp _ _ _ rfl) (Nat.le_of_ble_eq_true rfl)) ?_
    obtain ⟨v10, hv10, h⟩ := bind_eq h
    refine scall1 rfl fn15 (opnds_cons rfl opnds_nil) (pubA_id rfl) (m15_prog_Sane_c hv10) ?_
    refine sv rfl (opv_not rfl) ?_
    refine sv rfl (opv_mv rfl) ?_
    refine ssplit 11 rfl (fun hc => ?_) (fun hc => ?_)
    · replace h := ite_t hc h
      clear hc
      refine soff rfl rfl rfl rfl ?_
      refine soff rfl rfl rfl rfl ?_
      refine soff rfl rfl rfl rfl ?_
      refine sv rfl (opv_pick_t rfl rfl) ?_
      refine snil ?_
      refine ccond rfl (fun _ => ?_) (fun hx => Bool.noConfusion hx)
      refine cseq ?_
      refine cdraw_e [2, 3] [0, 0, 1, 7, 15] [[.box a0, .box a1, .box [.i .i64 0, .i .i64 0, .i .i64 0, .i .i64 0, .b false, .raw (.slice none 0 0), .raw (.slice none 0 0), .raw (.slice none 0 0), .raw (.slice none 0 0), .b false], .box [.i .i64 0, .i .i64 0, .i .i64 0, .i .i64 0, .i .i64 0, .i .i64 0, .i .i64 0, .i .i64 0, .i .i64 0, .b false]], [.box a0, .box a1, .box [.i .i64 0, .i .i64 0, .i .i64 0, .i .i64 0, .b false, .raw (.slice none 0 0), .raw (.slice none 0 0), .raw (.slice none 0 0), .raw (.slice none 0 0), .b false], .box [.i .i64 0, .i .i64 0, .i .i64 0, .i .i64 0, .i .i64 0, .i .i64 0, .i .i64 0, .i .i64 0, .i .i64 0, .b false]], [.box a0, .box a1, .box [.i .i64 0, .i .i64 0, .i .i64 0, .i .i64 0, .b false, .raw (.slice none 0 0), .raw (.slice none 0 0), .raw (.slice none 0 0), .raw (.slice none 0 0), .b false], .box a1]] (by kernel_rfl) mixed (by kernel_rfl) (by decide) rfl rfl rfl rfl ?_
      refine ev (sees_at 0 rfl rfl) rfl rfl (opv_build zi46 pi46 parts_nil (.nil _)) ?_
      refine ev (sees_all (md := [.box a0, .box a1, .box [.i .i64 0, .i .i64 0, .i .i64 0, .i .i64 0, .b false, .raw (.slice none 0 0), .raw (.slice none 0 0), .raw (.slice none 0 0), .raw (.slice none 0 0), .b false], .dead]) ⟨⟨rfl, ⟨rfl, ⟨rfl, ⟨trivial, trivial⟩⟩⟩⟩, ⟨⟨rfl, ⟨rfl, ⟨rfl, ⟨trivial, trivial⟩⟩⟩⟩, ⟨⟨rfl, ⟨rfl, ⟨rfl, ⟨trivial, trivial⟩⟩⟩⟩, trivial⟩⟩⟩) rfl rfl (opv_loadN ti35 rfl (.lp _ _ _ rfl) (Nat.le_of_ble_eq_true rfl)) ?_
      refine ee0 0 rfl rfl rfl rfl (fun ζ => ?_) ?_
      · refine sstore sz46 rfl rfl rfl rfl (Nat.le_of_ble_eq_true rfl) ?_
        refine smem [.box a0, .box a1, .box [.i .i64 0, .i .i64 0, .i .i64 0, .i .i64 0, .b false, .raw (.slice none 0 0), .raw (.slice none 0 0), .raw (.slice none 0 0), .raw (.slice none 0 0), .b false], .box [.i .i64 0, .i .i64 0, .i .i64 0, .i .i64 0, .i .i64 0, .i .i64 0, .i .i64 0, .i .i64 0, .i .i64 0, .b false]] rfl ?_
        exact eend
      refine ee0 1 rfl rfl rfl rfl (fun ζ => ?_) ?_
      · refine sstore sz35 rfl rfl rfl rfl (Nat.le_of_ble_eq_true rfl) ?_
        refine smem [.box a0, .box a1, .box [.i .i64 0, .i .i64 0, .i .i64 0, .i .i64 0, .b false, .raw (.slice none 0 0), .raw (.slice none 0 0), .raw (.slice none 0 0), .raw (.slice none 0 0), .b false], .box a1] rfl ?_
        exact eend
      refine ev (sees_at 2 rfl rfl) rfl rfl (opv_as rfl) ?_
      refine enil ?_
      refine then_normal ?_
      refine cret ?_
      refine then_ret ?_
      obtain rfl := Option.some.inj h
      refine ⟨Or.inr rfl, _, _, _, (resVs_cons (ResV.agg _ _ _ _ _ ti46 rfl (.lp _ _ _ rfl) (Nat.le_of_ble_eq_true rfl)) (resVs_cons (ResV.agg _ _ _ _ _ ti35 rfl (.lp _ _ _ rfl) (Nat.le_of_ble_eq_true rfl)) (resVs_cons (ResV.tmp _ _ rfl) resVs_nil))), (pubC rfl), ?_⟩
      rfl
    · replace h := ite_f hc h
      clear hc
      refine son rfl rfl rfl ?_
      refine sv rfl (opv_fieldAddr_lp fi35_0 rfl) ?_
      refine son rfl rfl rfl ?_
      refine sv rfl (opv_load1 ti3 rfl (.lp _ _ _ rfl) rfl) ?_
      refine son rfl rfl rfl ?_
      refine sv rfl (opv_lss rfl rfl) ?_
      refine sv rfl (opv_pick_f rfl rfl) ?_
      refine snil ?_
      refine ccond rfl (fun hc => ?_) (fun hc => ?_)
      · replace h := ite_t hc h
        clear hc
        refine cseq ?_
        refine cdraw_e [2, 3] [0, 0, 1, 7, 15] [[.box a0, .box a1, .box [.i .i64 0, .i .i64 0, .i .i64 0, .i .i64 0, .b false, .raw (.slice none 0 0), .raw (.slice none 0 0), .raw (.slice none 0 0), .raw (.slice none 0 0), .b false], .box [.i .i64 0, .i .i64 0, .i .i64 0, .i .i64 0, .i .i64 0, .i .i64 0, .i .i64 0, .i .i64 0, .i .i64 0, .b false]], [.box a0, .box a1, .box [.i .i64 0, .i .i64 0, .i .i64 0, .i .i64 0, .b false, .raw (.slice none 0 0), .raw (.slice none 0 0), .raw (.slice none 0 0), .raw (.slice none 0 0), .b false], .box [.i .i64 0, .i .i64 0, .i .i64 0, .i .i64 0, .i .i64 0, .i .i64 0, .i .i64 0, .i .i64 0, .i .i64 0, .b false]], [.box a0, .box a1, .box [.i .i64 0, .i .i64 0, .i .i64 0, .i .i64 0, .b false, .raw (.slice none 0 0), .raw (.slice none 0 0), .raw (.slice none 0 0), .raw (.slice none 0 0), .b false], .box a1]] (by kernel_rfl) mixed (by kernel_rfl) (by decide) rfl rfl rfl rfl ?_
        refine ev (sees_at 0 rfl rfl) rfl rfl (opv_build zi46 pi46 parts_nil (.nil _)) ?_
        refine ev (sees_all (md := [.box a0, .box a1, .box [.i .i64 0, .i .i64 0, .i .i64 0, .i .i64 0, .b false, .raw (.slice none 0 0), .raw (.slice none 0 0), .raw (.slice none 0 0), .raw (.slice none 0 0), .b false], .dead]) ⟨⟨rfl, ⟨rfl, ⟨rfl, ⟨trivial, trivial⟩⟩⟩⟩, ⟨⟨rfl, ⟨rfl, ⟨rfl, ⟨trivial, trivial⟩⟩⟩⟩, ⟨⟨rfl, ⟨rfl, ⟨rfl, ⟨trivial, trivial⟩⟩⟩⟩, trivial⟩⟩⟩) rfl rfl (opv_loadN ti35 rfl (.lp _ _ _ rfl) (Nat.le_of_ble_eq_true rfl)) ?_
        refine ee0 0 rfl rfl rfl rfl (fun ζ => ?_) ?_
        · refine sstore sz46 rfl rfl rfl rfl (Nat.le_of_ble_eq_true rfl) ?_
          refine smem [.box a0, .box a1, .box [.i .i64 0, .i .i64 0, .i .i64 0, .i .i64 0, .b false, .raw (.slice none 0 0), .raw (.slice none 0 0), .raw (.slice none 0 0), .raw (.slice none 0 0), .b false], .box [.i .i64 0, .i .i64 0, .i .i64 0, .i .i64 0, .i .i64 0, .i .i64 0, .i .i64 0, .i .i64 0, .i .i64 0, .b false]] rfl ?_
          exact eend
        refine ee0 1 rfl rfl rfl rfl (fun ζ => ?_) ?_
        · refine sstore sz35 rfl rfl rfl rfl (Nat.le_of_ble_eq_true rfl) ?_
          refine smem [.box a0, .box a1, .box [.i .i64 0, .i .i64 0, .i .i64 0, .i .i64 0, .b false, .raw (.slice none 0 0), .raw (.slice none 0 0), .raw (.slice none 0 0), .raw (.slice none 0 0), .b false], .box a1] rfl ?_
          exact eend
        refine ev (sees_at 2 rfl rfl) rfl rfl (opv_as rfl) ?_
        refine enil ?_
        refine then_normal ?_
        refine cret ?_
        refine then_ret ?_
        obtain rfl := Option.some.inj h
        refine ⟨Or.inr rfl, _, _, _, (resVs_cons (ResV.agg _ _ _ _ _ ti46 rfl (.lp _ _ _ rfl) (Nat.le_of_ble_eq_true rfl)) (resVs_cons (ResV.agg _ _ _ _ _ ti35 rfl (.lp _ _ _ rfl) (Nat.le_of_ble_eq_true rfl)) (resVs_cons (ResV.tmp _ _ rfl) resVs_nil))), (pubC rfl), ?_⟩
        rfl
      · replace h := ite_f hc h
        clear hc
        refine cskip ?_
        refine then_normal ?_
        exact ⟨(), _, h, ⟨rfl, rfl, rfl, rfl, trivial⟩, rfl⟩

def m43_prog_alone_look (a0 : GProgAlone) (a1 : GApiRange) (a2 : Int) : Option (List GApiKV) :=
  (m58_buffer_Over (GBufferBuf.mk a0.buf_.L) a0.base_ a1 a2).bind fun v1 => some v1

set_option maxRecDepth 100000 in
theorem m43_prog_alone_look_c {a0 : GProgAlone} {a1 : GApiRange} {a2 : Int} {r : (List GApiKV)} (h : m43_prog_alone_look a0 a1 a2 = some r) : CallsA Try.prog 43 [.agg a0, .agg a1, .one (.i .i64 a2)] (· = .s (.one (.sl r.length (r.flatMap eGApiKV)))) := by
  unfold m43_prog_alone_look at h
  refine callsA_of Try.func43 rfl (nt := 14) rfl (Nat.le_of_ble_eq_true rfl) ?_
  intro w0 S0
  refine cseq ?_
  refine cregion ?_
  refine sbox rfl rfl ?_
  refine sbox rfl rfl ?_
  refine sv rfl (opv_as rfl) ?_
  refine snil ?_
  refine cseq ?_
  refine cregion ?_
  refine sv rfl (opv_fieldAddr_lp fi78_1 rfl) ?_
  refine sv rfl (opv_loadN ti76 rfl (.lp _ _ _ rfl) (Nat.le_of_ble_eq_true rfl)) ?_
  refine sv rfl (opv_fieldAddr_lp fi78_0 rfl) ?_
  refine sv rfl (opv_load1 ti25 rfl (.lp _ _ _ rfl) rfl) ?_
  refine sv rfl (opv_loadN ti44 rfl (.lp _ _ _ rfl) (Nat.le_of_ble_eq_true rfl)) ?_
  refine sv rfl (opv_mv rfl) ?_
  obtain ⟨v1, hv1, h⟩ := bind_eq h
  refine scall1 rfl fn58 (opnds_cons rfl (opnds_cons rfl (opnds_cons rfl (opnds_cons rfl opnds_nil)))) (pubA_id rfl) (m58_buffer_Over_c hv1) ?_
  refine sv rfl (opv_as rfl) ?_
  refine snil ?_
  refine cret ?_
  obtain rfl := Option.some.inj h
  refine ⟨Or.inr rfl, _, _, _, (resVs_cons (ResV.tmp _ _ rfl) resVs_nil), (pubA_id rfl), ?_⟩
  rfl

def m29_prog_alone_all (a0 : GProgAlone) : Option (List GApiKV) :=
  (m43_prog_alone_look (GProgAlone.mk a0.base_ (GBufferBuf.mk a0.buf_.L)) (GApiRange.mk ([] : List UInt8) ([] : List UInt8) true) (wI ((a0.base_.length : Int) + (a0.buf_.L.length : Int)))).bind fun v1 => some v1

set_option maxRecDepth 100000 in
theorem m29_prog_alone_all_c {a0 : GProgAlone} {r : (List GApiKV)} (h : m29_prog_alone_all a0 = some r) : CallsA Try.prog 29 [.agg a0] (· = .s (.one (.sl r.length (r.flatMap eGApiKV)))) := by
  unfold m29_prog_alone_all at h
  refine callsA_of Try.func29 rfl (nt := 14) rfl (Nat.le_of_ble_eq_true rfl) ?_
  intro w0 S0
  refine cseq ?_
  refine cregion ?_
  refine sbox rfl rfl ?_
  refine sv rfl (opv_as rfl) ?_
  refine snil ?_
  refine cseq ?_
  refine cregion ?_
  refine sv rfl (opv_loadN ti78 rfl (.lp _ _ _ rfl) (Nat.le_of_ble_eq_true rfl)) ?_
  refine sv rfl (opv_build zi44 pi44 (parts_cons rfl parts_nil) (.cons _ _ _ _ _ _ _ rfl rfl (Nat.le_of_ble_eq_true rfl) (.nil _))) ?_
  refine sv rfl (opv_fieldAddr_lp fi78_0 rfl) ?_
  refine sv rfl (opv_load1 ti25 rfl (.lp _ _ _ rfl) rfl) ?_
  refine sv rfl (opv_len_sl si25 rfl) ?_
  refine sv rfl (opv_fieldAddr_lp fi78_1 rfl) ?_
  refine sv rfl (opv_fieldAddr_lp fi76_0 rfl) ?_
  refine sv rfl (opv_load1 ti74 rfl (.lp _ _ _ rfl) rfl) ?_
  refine sv rfl (opv_len_sl si74 rfl) ?_
  refine sv rfl (opv_add rfl rfl) ?_
  obtain ⟨v1, hv1, h⟩ := bind_eq h
  refine scall1 rfl fn43 (opnds_cons rfl (opnds_cons rfl (opnds_cons rfl opnds_nil))) (pubC rfl) (m43_prog_alone_look_c hv1) ?_
  refine sv rfl (opv_as rfl) ?_
  refine snil ?_
  refine cret ?_
  obtain rfl := Option.some.inj h
  refine ⟨Or.inr rfl, _, _, _, (resVs_cons (ResV.tmp _ _ rfl) resVs_nil), (pubA_id rfl), ?_⟩
  rfl

def m44_keys_One (a0 : List UInt8) : Option GApiRange :=
  (m52_slices_Concato [a0, [(UInt8.ofBitVec (0#8))]]).bind fun v1 => some (GApiRange.mk a0 v1 false)

set_option maxRecDepth 100000 in
theorem m44_keys_One_c {a0 : List UInt8} {r : GApiRange} (h : m44_keys_One a0 = some r) : CallsA Try.prog 44 [.one (.sl a0.length (a0.flatMap eU8))] (· = .s (.agg r)) := by
  unfold m44_keys_One at h
  refine callsA_of Try.func44 rfl (nt := 9) rfl (Nat.le_of_ble_eq_true rfl) ?_
  intro w0 S0
  refine cseq ?_
  refine cregion ?_
  refine salloc rfl zi44 ?_
  refine snil ?_
  refine cseq ?_
  refine cregion ?_
  refine sv rfl (opv_mv rfl) ?_
  refine sv rfl (opv_mv rfl) ?_
  refine sbuild1 rfl Try.underlying42 ei5 rfl rfl (List.all_eq_true.1 rfl) (by decide) ?_
  refine smem [.box [.raw (.slice none 0 0), .raw (.slice none 0 0), .b false], .arr 5 1 0 ([(UInt8.ofBitVec (0#8))].flatMap eU8)] rfl ?_
  refine spub 5 rfl (by (repeat' first | exact PubA.nil _ | apply PubA.cons | apply PubV.one | apply PubV.agg | exact PubL.nil | exact PubL.ls _ _ _ _ _ _ rfl (flat_len (f := eU8) (fun _ => rfl) ([(UInt8.ofBitVec (0#8))] : List UInt8)).symm | exact PubL.ls _ _ _ _ _ _ rfl (flat_len (f := eU8) (fun _ => rfl) _).symm | exact PubL.id _ rfl | exact PubLs.nil _ | apply PubLs.cons)) ?_
  refine sbuildN (out := ([a0, [(UInt8.ofBitVec (0#8))]] : List (List UInt8)).flatMap (eL eU8)) rfl Try.underlying98 ei42 (parts_cons rfl (parts_cons rfl parts_nil)) (.cons _ _ _ _ _ _ _ rfl rfl (Nat.le_of_ble_eq_true rfl) (.cons _ _ _ _ _ _ _ rfl rfl (Nat.le_of_ble_eq_true rfl) (.nil _))) rfl (by decide) ?_
  refine spub 6 rfl (by (repeat' first | exact PubA.nil _ | apply PubA.cons | apply PubV.one | apply PubV.agg | exact PubL.nil | exact PubL.ls _ _ _ _ _ _ rfl (flat_len (f := (eL eU8)) (fun _ => rfl) ([a0, [(UInt8.ofBitVec (0#8))]] : List (List UInt8))).symm | exact PubL.ls _ _ _ _ _ _ rfl (flat_len (f := (eL eU8)) (fun _ => rfl) _).symm | exact PubL.ls _ _ _ _ _ _ rfl (flat_len (f := eU8) (fun _ => rfl) _).symm | exact PubL.id _ rfl | exact PubLs.nil _ | apply PubLs.cons)) ?_
  obtain ⟨v1, hv1, h⟩ := bind_eq h
  refine scallB (x' := .s (.one (.ls 3 v1.length))) (M' := [.box [.raw (.slice none 0 0), .raw (.slice none 0 0), .b false], .arr 5 1 ([(UInt8.ofBitVec (0#8))].flatMap eU8).length ([(UInt8.ofBitVec (0#8))].flatMap eU8), .arr 42 1 ([a0, [(UInt8.ofBitVec (0#8))]].flatMap (eL eU8)).length ([a0, [(UInt8.ofBitVec (0#8))]].flatMap (eL eU8)), .arr 5 1 0 (v1.flatMap eU8)]) [] rfl fn52 (.func _) (opnds_cons rfl opnds_nil) (m52_slices_Concato_c hv1) rfl rfl (by decide) rfl rfl rfl ?_
  refine sv rfl (opv_build zi44 pi44 (parts_cons rfl (parts_cons rfl parts_nil)) (.cons _ _ _ _ _ _ _ rfl rfl (Nat.le_of_ble_eq_true rfl) (.cons _ _ _ _ _ _ _ rfl rfl (Nat.le_of_ble_eq_true rfl) (.nil _)))) ?_
  refine sstore sz44 rfl rfl rfl rfl (Nat.le_of_ble_eq_true rfl) ?_
  refine smem [.box [.sl a0.length (a0.flatMap eU8), .ls 3 v1.length, .b false], .arr 5 1 ([(UInt8.ofBitVec (0#8))].flatMap eU8).length ([(UInt8.ofBitVec (0#8))].flatMap eU8), .arr 42 1 ([a0, [(UInt8.ofBitVec (0#8))]].flatMap (eL eU8)).length ([a0, [(UInt8.ofBitVec (0#8))]].flatMap (eL eU8)), .arr 5 1 0 (v1.flatMap eU8)] rfl ?_
  refine snil ?_
  refine cret ?_
  obtain rfl := Option.some.inj h
  refine ⟨Or.inr rfl, _, _, _, (resVs_cons (ResV.agg _ _ _ _ _ ti44 rfl (.lp _ _ _ rfl) (Nat.le_of_ble_eq_true rfl)) resVs_nil), (by (repeat' first | exact PubA.nil _ | apply PubA.cons | apply PubV.one | apply PubV.agg | exact PubL.nil | exact PubL.ls _ _ _ _ _ _ rfl (flat_len (f := (eL eU8)) (fun _ => rfl) _).symm | exact PubL.ls _ _ _ _ _ _ rfl (flat_len (f := eU8) (fun _ => rfl) _).symm | exact PubL.id _ rfl | exact PubLs.nil _ | apply PubLs.cons)), ?_⟩
  rfl

def m76_keys_key_reacheds (a0 : List UInt8) (a1 : List UInt8) : Option Bool :=
  (m57_keys_Cmp a1 a0).bind fun v1 => some (decide (0 ≤ v1))

set_option maxRecDepth 100000 in
theorem m76_keys_key_reacheds_c {a0 : List UInt8} {a1 : List UInt8} {r : Bool} (h : m76_keys_key_reacheds a0 a1 = some r) : CallsA Try.prog 76 [.one (.sl a0.length (a0.flatMap eU8)), .one (.sl a1.length (a1.flatMap eU8))] (· = .s (.one (.b r))) := by
  unfold m76_keys_key_reacheds at h
  refine callsA_of Try.func76 rfl (nt := 9) rfl (Nat.le_of_ble_eq_true rfl) ?_
  intro w0 S0
  refine cseq ?_
  refine cregion ?_
  refine sv rfl (opv_as rfl) ?_
  refine snil ?_
  refine cseq ?_
  refine cregion ?_
  refine sv rfl (opv_mv rfl) ?_
  refine sv rfl (opv_mv rfl) ?_
  obtain ⟨v1, hv1, h⟩ := bind_eq h
  refine scall1 rfl fn57 (opnds_cons rfl (opnds_cons rfl opnds_nil)) (pubA_id rfl) (m57_keys_Cmp_c hv1) ?_
  refine sv rfl (opv_geq rfl rfl) ?_
  refine sv rfl (opv_as rfl) ?_
  refine snil ?_
  refine cret ?_
  obtain rfl := Option.some.inj h
  refine ⟨Or.inr rfl, _, _, _, (resVs_cons (ResV.tmp _ _ rfl) resVs_nil), (pubA_id rfl), ?_⟩
  rfl

def m75_slices_IndexFuncs_k1 (b1 : Unit) : Option Int :=
  some (-1)

def m75_slices_IndexFuncs_s2 (a0 : List (List UInt8)) (a1 : List UInt8) (s2 : Int) : Option (LR (Int) (Unit) (Int)) :=
  if (decide (s2 < (a0.length : Int))) then ((idx a0 s2).bind fun u3 => (m76_keys_key_reacheds a1 u3).bind fun v4 => if v4 then (some (.ret s2)) else (some (.cont (wI (s2 + 1))))) else (some (.brk ()))
def m75_slices_IndexFuncs (a0 : List (List UInt8)) (a1 : List UInt8) : Option Int :=
  (iter (m75_slices_IndexFuncs_s2 a0 a1) fuel 0).bind fun x => match x with | .inl r => some r | .inr e5 => m75_slices_IndexFuncs_k1 e5

set_option maxRecDepth 100000 in
theorem m75_slices_IndexFuncs_c {a0 : List (List UInt8)} {a1 : List UInt8} {r : Int} (h : m75_slices_IndexFuncs a0 a1 = some r) : CallsA Try.prog 75 [.one (.sl a0.length (a0.flatMap (eL eU8))), .one (.fn 76 [.sl a1.length (a1.flatMap eU8)] [])] (· = .s (.one (.i .i64 r))) := by
  unfold m75_slices_IndexFuncs at h
  refine callsA_of Try.func75 rfl (nt := 19) rfl (Nat.le_of_ble_eq_true rfl) ?_
  intro w0 S0
  refine cseq ?_
  refine cregion ?_
  refine sv rfl (opv_as rfl) ?_
  refine snil ?_
  refine cseq ?_
  refine cseq ?_
  refine cregion ?_
  refine sv rfl (opv_mv rfl) ?_
  refine sv rfl (opv_len_sl si98 rfl) ?_
  refine sv rfl (opv_mv rfl) ?_
  refine snil ?_
  refine cjoin (Unit) (fun b1 => []) (fun b1 => []) (fun b1 => m75_slices_IndexFuncs_k1 b1 = some r) (fun _ _ => inbL_of rfl) (fun _ _ => blkinb_of rfl) (fun _ _ => Nat.le_of_ble_eq_true rfl) (fun b1 h => ?_) ?_
  · unfold m75_slices_IndexFuncs_k1 at h
    refine cseq ?_
    refine cregion ?_
    refine sv rfl (opv_as rfl) ?_
    refine snil ?_
    refine cret ?_
    obtain rfl := Option.some.inj h
    refine ⟨Or.inr rfl, _, _, _, (resVs_cons (ResV.tmp _ _ rfl) resVs_nil), (pubA_id rfl), ?_⟩
    rfl
  · skip
    refine cblock ?_
    obtain ⟨x2, hx2, ho2⟩ := bind_eq h
    refine awc_loop (G := Nat × (Int)) (fun g => [(0, .s (.one (.sl a0.length (a0.flatMap (eL eU8))))), (1, .s (.one (.fn 76 [.sl a1.length (a1.flatMap eU8)] []))), (7, .s (.one (.i .i64 (a0.length : Int)))), (8, .s (.one (.i .i64 g.2)))]) (fun g => []) (fun g => iter (m75_slices_IndexFuncs_s2 a0 a1) g.1 g.2 = some x2) (fun g => g.1) (fuel, 0) hx2 ⟨rfl, rfl, rfl, rfl, trivial⟩ [] rfl (fun _ _ => inbL_of rfl) (fun _ _ => blkinb_of rfl) (fun _ _ => Nat.le_of_ble_eq_true rfl) ?_
    clear hx2 h
    rintro ⟨n2, s2⟩ h
    obtain ⟨n2, y2, rfl, h, hk2⟩ := iter_eq h
    unfold m75_slices_IndexFuncs_s2 at h
    refine cseq ?_
    refine cregion ?_
    refine sv rfl (opv_lss rfl rfl) ?_
    refine snil ?_
    refine cseq ?_
    refine ccond rfl (fun hc => ?_) (fun hc => ?_)
    · replace h := ite_t hc h
      clear hc
      refine cskip ?_
      refine then_normal ?_
      refine cseq ?_
      refine cblock ?_
      refine cseq ?_
      refine cregion ?_
      refine sv rfl (opv_mv rfl) ?_
      refine sv rfl (opv_as rfl) ?_
      refine snil ?_
      refine cseq ?_
      refine cregion ?_
      refine sv rfl (opv_mv rfl) ?_
      refine sv rfl (opv_mv rfl) ?_
      refine sv rfl (opv_mv rfl) ?_
      obtain ⟨u3, hu3, h⟩ := bind_eq h
      refine sv rfl (opv_ix (f := (eL eU8)) si98 (fun _ => rfl) rfl rfl rfl rfl hu3) ?_
      refine sv rfl (opv_load1 ti42 rfl (.cp _) rfl) ?_
      obtain ⟨v4, hv4, h⟩ := bind_eq h
      refine sd rfl (opD_callC fn76 (.fn _ _ _ _ rfl) (opnds_cons rfl opnds_nil) rfl (m76_keys_key_reacheds_c hv4)) ?_
      refine snil ?_
      refine ccond rfl (fun hc => ?_) (fun hc => ?_)
      · replace h := ite_t hc h
        clear hc
        refine cseq ?_
        refine cregion ?_
        refine sv rfl (opv_mv rfl) ?_
        refine sv rfl (opv_as rfl) ?_
        refine snil ?_
        refine cret ?_
        refine block_ret ?_
        refine then_ret ?_
        refine then_ret ?_
        refine block_ret ?_
        refine then_ret ?_
        obtain rfl := Option.some.inj h
        obtain rfl : Sum.inl _ = x2 := hk2
        replace ho2 : some _ = some _ := ho2
        obtain rfl := Option.some.inj ho2
        refine ⟨Or.inr rfl, _, _, _, (resVs_cons (ResV.tmp _ _ rfl) resVs_nil), (pubA_id rfl), ?_⟩
        rfl
      · replace h := ite_f hc h
        clear hc
        refine cskip ?_
        refine block_normal ?_
        refine then_normal ?_
        refine cregion ?_
        refine sv rfl (opv_add rfl rfl) ?_
        refine sv rfl (opv_mv rfl) ?_
        refine snil ?_
        obtain rfl := Option.some.inj h
        exact ⟨(n2, (wI (s2 + 1))), _, hk2, ⟨rfl, rfl, rfl, rfl, trivial⟩, rfl, Nat.lt_succ_self _⟩
    · replace h := ite_f hc h
      clear hc
      refine cexit ?_
      refine then_exit ?_
      refine then_exit ?_
      refine block_hit ?_
      refine then_normal ?_
      obtain rfl := Option.some.inj h
      obtain rfl : _ = x2 := hk2
      exact ⟨(), _, ho2, trivial, rfl⟩

def m77_bytes_Equal (a0 : List UInt8) (a1 : List UInt8) : Option Bool :=
  some (a0 == a1)

set_option maxRecDepth 100000 in
theorem m77_bytes_Equal_c {a0 : List UInt8} {a1 : List UInt8} {r : Bool} (h : m77_bytes_Equal a0 a1 = some r) : CallsA Try.prog 77 [.one (.sl a0.length (a0.flatMap eU8)), .one (.sl a1.length (a1.flatMap eU8))] (· = .s (.one (.b r))) := by
  unfold m77_bytes_Equal at h
  refine callsA_of Try.func77 rfl (nt := 10) rfl (Nat.le_of_ble_eq_true rfl) ?_
  intro w0 S0
  refine cseq ?_
  refine cregion ?_
  refine sv rfl (opv_as rfl) ?_
  refine snil ?_
  refine cseq ?_
  refine cregion ?_
  refine sv rfl (opv_mv rfl) ?_
  refine sv rfl (opv_bs (l := a0) Try.underlying42 Try.underlying5 Try.underlying9 rfl rfl rfl) ?_
  refine sv rfl (opv_mv rfl) ?_
  refine sv rfl (opv_bs (l := a1) Try.underlying42 Try.underlying5 Try.underlying9 rfl rfl rfl) ?_
  refine sv rfl (opv_seql' rfl rfl) ?_
  refine sv rfl (opv_as rfl) ?_
  refine snil ?_
  refine cret ?_
  obtain rfl := Option.some.inj h
  refine ⟨Or.inr rfl, _, _, _, (resVs_cons (ResV.tmp _ _ rfl) resVs_nil), (pubA_id rfl), ?_⟩
  rfl

def m61_keys_Find (a0 : List (List UInt8)) (a1 : List UInt8) : Option (Int × Bool) :=
  (m75_slices_IndexFuncs a0 a1).bind fun v1 => if (decide (v1 < 0)) then (some ((a0.length : Int), false)) else ((idx a0 v1).bind fun u2 => (m77_bytes_Equal u2 a1).bind fun v3 => some (v1, v3))

set_option maxRecDepth 100000 in
theorem m61_keys_Find_c {a0 : List (List UInt8)} {a1 : List UInt8} {r : Int × Bool} (h : m61_keys_Find a0 a1 = some r) : CallsA Try.prog 61 [.one (.sl a0.length (a0.flatMap (eL eU8))), .one (.sl a1.length (a1.flatMap eU8))] (· = .tup [.one (.i .i64 r.1), .one (.b r.2)]) := by
  unfold m61_keys_Find at h
  refine callsA_of Try.func61 rfl (nt := 22) rfl (Nat.le_of_ble_eq_true rfl) ?_
  intro w0 S0
  refine cseq ?_
  refine cregion ?_
  refine sv rfl (opv_as rfl) ?_
  refine sv rfl (opv_as rfl) ?_
  refine snil ?_
  refine cseq ?_
  refine cregion ?_
  refine sv rfl (opv_mv rfl) ?_
  refine sv rfl (opv_mv rfl) ?_
  refine sv rfl (opv_makeFunc (opnds1_cons rfl rfl opnds1_nil) opnds1_nil) ?_
  obtain ⟨v1, hv1, h⟩ := bind_eq h
  refine sd rfl (opD_callC fn75 (.func _) (opnds_cons rfl (opnds_cons rfl opnds_nil)) rfl (m75_slices_IndexFuncs_c hv1)) ?_
  refine sv rfl (opv_as rfl) ?_
  refine snil ?_
  refine cseq ?_
  refine cseq ?_
  refine cregion ?_
  refine sv rfl (opv_mv rfl) ?_
  refine sv rfl (opv_lss rfl rfl) ?_
  refine snil ?_
  refine ccond rfl (fun hc => ?_) (fun hc => ?_)
  · replace h := ite_t hc h
    clear hc
    refine cseq ?_
    refine cregion ?_
    refine sv rfl (opv_mv rfl) ?_
    refine sv rfl (opv_len_sl si98 rfl) ?_
    refine sv rfl (opv_as rfl) ?_
    refine sv rfl (opv_as rfl) ?_
    refine snil ?_
    refine cret ?_
    refine then_ret ?_
    obtain rfl := Option.some.inj h
    refine ⟨Or.inr rfl, _, _, _, (resVs_cons (ResV.tmp _ _ rfl) (resVs_cons (ResV.tmp _ _ rfl) resVs_nil)), (pubA_id rfl), ?_⟩
    rfl
  · replace h := ite_f hc h
    clear hc
    refine cskip ?_
    refine then_normal ?_
    refine cseq ?_
    refine cregion ?_
    refine sv rfl (opv_mv rfl) ?_
    refine sv rfl (opv_mv rfl) ?_
    refine sv rfl (opv_mv rfl) ?_
    obtain ⟨u2, hu2, h⟩ := bind_eq h
    refine sv rfl (opv_ix (f := (eL eU8)) si98 (fun _ => rfl) rfl rfl rfl rfl hu2) ?_
    refine sv rfl (opv_load1 ti42 rfl (.cp _) rfl) ?_
    refine sv rfl (opv_mv rfl) ?_
    obtain ⟨v3, hv3, h⟩ := bind_eq h
    refine scall1 rfl fn77 (opnds_cons rfl (opnds_cons rfl opnds_nil)) (pubA_id rfl) (m77_bytes_Equal_c hv3) ?_
    refine sv rfl (opv_as rfl) ?_
    refine sv rfl (opv_as rfl) ?_
    refine snil ?_
    refine cret ?_
    obtain rfl := Option.some.inj h
    refine ⟨Or.inr rfl, _, _, _, (resVs_cons (ResV.tmp _ _ rfl) (resVs_cons (ResV.tmp _ _ rfl) resVs_nil)), (pubA_id rfl), ?_⟩
    rfl

end Go.Proofs.Ytdehclinlcnlhaa.Abs
