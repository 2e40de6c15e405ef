/-
  t
-/
import Derived.Test.YtljkjkkpogkgbaaDoorAbsC
import Derived.Test.YtljkjkkpogkgbaaDoorProg
namespace Go.Proofs.YtljkjkkpogkgbaaDoor.Abs
open Go.RowKit Go.Proofs
structure GApiKV where
  Key : List UInt8
  Val : List UInt8
def eGApiKV (x : GApiKV) : List Lf := [.sl x.Key.length (x.Key.flatMap eU8), .sl x.Val.length (x.Val.flatMap eU8)]

structure GR05Reply where
  Kind : Int
  Seq : Int
  Code : Int
  N : Int
  Found : Bool
  Val : List UInt8
  List : List GApiKV
def eGR05Reply (x : GR05Reply) : List Lf := [.i .i64 x.Kind, .i .i64 x.Seq, .i .i64 x.Code, .i .i64 x.N, .b x.Found, .sl x.Val.length (x.Val.flatMap eU8), .sl x.List.length (x.List.flatMap eGApiKV)]

structure GApiRange where
  Lo : List UInt8
  Hi : List UInt8
  Open : Bool
def eGApiRange (x : GApiRange) : List Lf := [.sl x.Lo.length (x.Lo.flatMap eU8), .sl x.Hi.length (x.Hi.flatMap eU8), .b x.Open]

structure GMsgReq where
  Kind : Int
  Seq : Int
  Token : Int
  Attempt : Int
  RO : Bool
  Key : List UInt8
  Val : List UInt8
  Rng : GApiRange
def eGMsgReq (x : GMsgReq) : List Lf := [.i .i64 x.Kind, .i .i64 x.Seq, .i .i64 x.Token, .i .i64 x.Attempt, .b x.RO, .sl x.Key.length (x.Key.flatMap eU8), .sl x.Val.length (x.Val.flatMap eU8), .sl x.Rng.Lo.length (x.Rng.Lo.flatMap eU8), .sl x.Rng.Hi.length (x.Rng.Hi.flatMap eU8), .b x.Rng.Open]

structure GMsgParts where
  token_ : Bool
  attempt_ : Bool
  ro_ : Bool
  key_ : Bool
  val_ : Bool
  rng_ : Bool
def eGMsgParts (x : GMsgParts) : List Lf := [.b x.token_, .b x.attempt_, .b x.ro_, .b x.key_, .b x.val_, .b x.rng_]

def tab0 : List GMsgParts := [⟨false, false, false, false, false, false⟩, ⟨true, true, false, false, false, false⟩, ⟨true, true, true, false, false, false⟩, ⟨false, false, false, true, false, false⟩, ⟨false, false, false, true, true, false⟩, ⟨false, false, false, true, false, false⟩, ⟨false, false, false, false, false, true⟩, ⟨false, false, false, false, false, false⟩, ⟨false, false, false, false, false, false⟩, ⟨true, true, false, false, false, false⟩, ⟨true, false, false, false, false, false⟩, ⟨false, false, false, false, false, false⟩]

structure GMsgReply where
  Kind : Int
  Seq : Int
  Code : Int
  N : Int
  Found : Bool
  Val : List UInt8
  List : List GApiKV
def eGMsgReply (x : GMsgReply) : List Lf := [.i .i64 x.Kind, .i .i64 x.Seq, .i .i64 x.Code, .i .i64 x.N, .b x.Found, .sl x.Val.length (x.Val.flatMap eU8), .sl x.List.length (x.List.flatMap eGApiKV)]

theorem zi32 : ZI Tryd.prog 32 ([.i .i64 0, .i .i64 0, .i .i64 0, .i .i64 0, .b false, .raw (.slice none 0 0), .raw (.slice none 0 0), .raw (.slice none 0 0), .raw (.slice none 0 0), .b false]) := zi_of (by kernel_rfl)
theorem pi32 : PI Tryd.prog 32 [(0, 1), (1, 1), (2, 1), (3, 1), (4, 1), (5, 1), (6, 1), (7, 3)] := pi_of Tryd.underlying32 (by kernel_rfl) (by kernel_rfl)
theorem ti32 : TI Tryd.prog 32 true 10 := ⟨⟨_, Tryd.underlying32, rfl⟩, by kernel_rfl⟩
theorem fi32_0 : FI Tryd.prog 32 0 0 := ⟨⟨_, _, 1, Tryd.underlying32, rfl, rfl, by kernel_rfl, by decide⟩⟩
theorem ti3 : TI Tryd.prog 3 false 1 := ⟨⟨_, Tryd.underlying3, rfl⟩, by kernel_rfl⟩
theorem zi66 : ZI Tryd.prog 66 ([.b false, .b false, .b false, .b false, .b false, .b false]) := zi_of (by kernel_rfl)
theorem fn47 : FnI Tryd.prog 47 := ⟨⟨_, Tryd.func47, by kernel_rfl, by kernel_rfl⟩⟩
theorem pi66 : PI Tryd.prog 66 [(0, 1), (1, 1), (2, 1), (3, 1), (4, 1), (5, 1)] := pi_of Tryd.underlying66 (by kernel_rfl) (by kernel_rfl)
theorem sz66 : (Tryd.prog.info? 66).map (·.size) = some 6 := by kernel_rfl
theorem ti66 : TI Tryd.prog 66 true 6 := ⟨⟨_, Tryd.underlying66, rfl⟩, by kernel_rfl⟩
theorem tab0_in : (0, tab0.flatMap eGMsgParts) ∈ GL := List.mem_cons.2 (.inl rfl)

theorem ai98 : AI Tryd.prog 98 12 66 6 := ⟨Tryd.underlying98, by kernel_rfl, by decide, by decide⟩
theorem fn32 : FnI Tryd.prog 32 := ⟨⟨_, Tryd.func32, by kernel_rfl, by kernel_rfl⟩⟩
theorem fi32_1 : FI Tryd.prog 32 1 1 := ⟨⟨_, _, 1, Tryd.underlying32, rfl, rfl, by kernel_rfl, by decide⟩⟩
theorem fn58 : FnI Tryd.prog 58 := ⟨⟨_, Tryd.func58, by kernel_rfl, by kernel_rfl⟩⟩
theorem fi66_0 : FI Tryd.prog 66 0 0 := ⟨⟨_, _, 1, Tryd.underlying66, rfl, rfl, by kernel_rfl, by decide⟩⟩
theorem ti4 : TI Tryd.prog 4 false 1 := ⟨⟨_, Tryd.underlying4, rfl⟩, by kernel_rfl⟩
theorem fi32_2 : FI Tryd.prog 32 2 2 := ⟨⟨_, _, 1, Tryd.underlying32, rfl, rfl, by kernel_rfl, by decide⟩⟩
theorem fn59 : FnI Tryd.prog 59 := ⟨⟨_, Tryd.func59, by kernel_rfl, by kernel_rfl⟩⟩
theorem fi66_1 : FI Tryd.prog 66 1 1 := ⟨⟨_, _, 1, Tryd.underlying66, rfl, rfl, by kernel_rfl, by decide⟩⟩
theorem fi32_3 : FI Tryd.prog 32 3 3 := ⟨⟨_, _, 1, Tryd.underlying32, rfl, rfl, by kernel_rfl, by decide⟩⟩
theorem fi66_2 : FI Tryd.prog 66 2 2 := ⟨⟨_, _, 1, Tryd.underlying66, rfl, rfl, by kernel_rfl, by decide⟩⟩
theorem fi66_3 : FI Tryd.prog 66 3 3 := ⟨⟨_, _, 1, Tryd.underlying66, rfl, rfl, by kernel_rfl, by decide⟩⟩
theorem fi32_5 : FI Tryd.prog 32 5 5 := ⟨⟨_, _, 1, Tryd.underlying32, rfl, rfl, by kernel_rfl, by decide⟩⟩
theorem ti22 : TI Tryd.prog 22 false 1 := ⟨⟨_, Tryd.underlying22, rfl⟩, by kernel_rfl⟩
theorem si22 : SI Tryd.prog 22 5 1 := ⟨Tryd.underlying22, by kernel_rfl, by decide⟩
theorem fn60 : FnI Tryd.prog 60 := ⟨⟨_, Tryd.func60, by kernel_rfl, by kernel_rfl⟩⟩
theorem fi66_4 : FI Tryd.prog 66 4 4 := ⟨⟨_, _, 1, Tryd.underlying66, rfl, rfl, by kernel_rfl, by decide⟩⟩
theorem fi32_6 : FI Tryd.prog 32 6 6 := ⟨⟨_, _, 1, Tryd.underlying32, rfl, rfl, by kernel_rfl, by decide⟩⟩
theorem fi66_5 : FI Tryd.prog 66 5 5 := ⟨⟨_, _, 1, Tryd.underlying66, rfl, rfl, by kernel_rfl, by decide⟩⟩
theorem fi32_7 : FI Tryd.prog 32 7 7 := ⟨⟨_, _, 3, Tryd.underlying32, rfl, rfl, by kernel_rfl, by decide⟩⟩
theorem ti24 : TI Tryd.prog 24 true 3 := ⟨⟨_, Tryd.underlying24, rfl⟩, by kernel_rfl⟩
theorem fi24_0 : FI Tryd.prog 24 0 0 := ⟨⟨_, _, 1, Tryd.underlying24, rfl, rfl, by kernel_rfl, by decide⟩⟩
theorem fi24_1 : FI Tryd.prog 24 1 1 := ⟨⟨_, _, 1, Tryd.underlying24, rfl, rfl, by kernel_rfl, by decide⟩⟩
theorem fi24_2 : FI Tryd.prog 24 2 2 := ⟨⟨_, _, 1, Tryd.underlying24, rfl, rfl, by kernel_rfl, by decide⟩⟩
theorem fn61 : FnI Tryd.prog 61 := ⟨⟨_, Tryd.func61, by kernel_rfl, by kernel_rfl⟩⟩
theorem fi32_4 : FI Tryd.prog 32 4 4 := ⟨⟨_, _, 1, Tryd.underlying32, rfl, rfl, by kernel_rfl, by decide⟩⟩
theorem fn18 : FnI Tryd.prog 18 := ⟨⟨_, Tryd.func18, by kernel_rfl, by kernel_rfl⟩⟩
theorem mixed : Tryd.prog.follows .mixedOrders = true := by kernel_rfl
theorem ei5 : EI Tryd.prog 5 1 1 [.i .u8 0] := ei_of (by kernel_rfl) (by decide)
theorem sz5 : (Tryd.prog.info? 5).map (·.size) = some 1 := by kernel_rfl
theorem ei22 : EI Tryd.prog 22 1 24 [.raw (.slice none 0 0)] := ei_of (by kernel_rfl) (by decide)
theorem si106 : SI Tryd.prog 106 22 1 := ⟨Tryd.underlying106, by kernel_rfl, by decide⟩
theorem fn76 : FnI Tryd.prog 76 := ⟨⟨_, Tryd.func76, by kernel_rfl, by kernel_rfl⟩⟩
theorem ni22 : NI Tryd.prog 22 := ⟨.inl ⟨_, Tryd.underlying22⟩⟩
theorem fn69 : FnI Tryd.prog 69 := ⟨⟨_, Tryd.func69, by kernel_rfl, by kernel_rfl⟩⟩
theorem fn33 : FnI Tryd.prog 33 := ⟨⟨_, Tryd.func33, by kernel_rfl, by kernel_rfl⟩⟩
theorem fn34 : FnI Tryd.prog 34 := ⟨⟨_, Tryd.func34, by kernel_rfl, by kernel_rfl⟩⟩
theorem fn35 : FnI Tryd.prog 35 := ⟨⟨_, Tryd.func35, by kernel_rfl, by kernel_rfl⟩⟩
theorem fn11 : FnI Tryd.prog 11 := ⟨⟨_, Tryd.func11, by kernel_rfl, by kernel_rfl⟩⟩
theorem zi3 : ZI Tryd.prog 3 ([.i .i64 0]) := zi_of (by kernel_rfl)
theorem sz3 : (Tryd.prog.info? 3).map (·.size) = some 1 := by kernel_rfl
theorem zi102 : ZI Tryd.prog 102 ([.raw .nilFunc, .i .i64 0]) := zi_of (by kernel_rfl)
theorem pi102 : PI Tryd.prog 102 [(0, 1), (1, 1)] := pi_of Tryd.underlying102 (by kernel_rfl) (by kernel_rfl)
theorem fn45 : FnI Tryd.prog 45 := ⟨⟨_, Tryd.func45, by kernel_rfl, by kernel_rfl⟩⟩
theorem fi102_1 : FI Tryd.prog 102 1 1 := ⟨⟨_, _, 1, Tryd.underlying102, rfl, rfl, by kernel_rfl, by decide⟩⟩
theorem ti29 : TI Tryd.prog 29 false 1 := ⟨⟨_, Tryd.underlying29, rfl⟩, by kernel_rfl⟩
theorem fn71 : FnI Tryd.prog 71 := ⟨⟨_, Tryd.func71, by kernel_rfl, by kernel_rfl⟩⟩
theorem sz29 : (Tryd.prog.info? 29).map (·.size) = some 1 := by kernel_rfl
theorem fn48 : FnI Tryd.prog 48 := ⟨⟨_, Tryd.func48, by kernel_rfl, by kernel_rfl⟩⟩
theorem fi102_0 : FI Tryd.prog 102 0 0 := ⟨⟨_, _, 1, Tryd.underlying102, rfl, rfl, by kernel_rfl, by decide⟩⟩
theorem ti100 : TI Tryd.prog 100 false 1 := ⟨⟨_, Tryd.underlying100, rfl⟩, by kernel_rfl⟩
theorem fn70 : FnI Tryd.prog 70 := ⟨⟨_, Tryd.func70, by kernel_rfl, by kernel_rfl⟩⟩
theorem fn73 : FnI Tryd.prog 73 := ⟨⟨_, Tryd.func73, by kernel_rfl, by kernel_rfl⟩⟩
theorem fn72 : FnI Tryd.prog 72 := ⟨⟨_, Tryd.func72, by kernel_rfl, by kernel_rfl⟩⟩
theorem ti5 : TI Tryd.prog 5 false 1 := ⟨⟨_, Tryd.underlying5, rfl⟩, by kernel_rfl⟩
theorem fn46 : FnI Tryd.prog 46 := ⟨⟨_, Tryd.func46, by kernel_rfl, by kernel_rfl⟩⟩
theorem sz32 : (Tryd.prog.info? 32).map (·.size) = some 10 := by kernel_rfl
theorem fn65 : FnI Tryd.prog 65 := ⟨⟨_, Tryd.func65, by kernel_rfl, by kernel_rfl⟩⟩
theorem sz4 : (Tryd.prog.info? 4).map (·.size) = some 1 := by kernel_rfl
theorem fn75 : FnI Tryd.prog 75 := ⟨⟨_, Tryd.func75, by kernel_rfl, by kernel_rfl⟩⟩
theorem fn66 : FnI Tryd.prog 66 := ⟨⟨_, Tryd.func66, by kernel_rfl, by kernel_rfl⟩⟩
theorem sz22 : (Tryd.prog.info? 22).map (·.size) = some 1 := by kernel_rfl
theorem fn49 : FnI Tryd.prog 49 := ⟨⟨_, Tryd.func49, by kernel_rfl, by kernel_rfl⟩⟩
theorem fn50 : FnI Tryd.prog 50 := ⟨⟨_, Tryd.func50, by kernel_rfl, by kernel_rfl⟩⟩
theorem fn14 : FnI Tryd.prog 14 := ⟨⟨_, Tryd.func14, by kernel_rfl, by kernel_rfl⟩⟩
theorem zi49 : ZI Tryd.prog 49 ([.i .i64 0, .i .i64 0, .i .i64 0, .i .i64 0, .b false, .raw (.slice none 0 0), .raw (.slice none 0 0)]) := zi_of (by kernel_rfl)
theorem pi49 : PI Tryd.prog 49 [(0, 1), (1, 1), (2, 1), (3, 1), (4, 1), (5, 1), (6, 1)] := pi_of Tryd.underlying49 (by kernel_rfl) (by kernel_rfl)
theorem ti49 : TI Tryd.prog 49 true 7 := ⟨⟨_, Tryd.underlying49, rfl⟩, by kernel_rfl⟩
theorem fi49_6 : FI Tryd.prog 49 6 6 := ⟨⟨_, _, 1, Tryd.underlying49, rfl, rfl, by kernel_rfl, by decide⟩⟩
theorem ti44 : TI Tryd.prog 44 false 1 := ⟨⟨_, Tryd.underlying44, rfl⟩, by kernel_rfl⟩
theorem si44 : SI Tryd.prog 44 93 2 := ⟨Tryd.underlying44, by kernel_rfl, by decide⟩
theorem ti93 : TI Tryd.prog 93 true 2 := ⟨⟨_, Tryd.underlying93, rfl⟩, by kernel_rfl⟩
theorem zi93 : ZI Tryd.prog 93 ([.raw (.slice none 0 0), .raw (.slice none 0 0)]) := zi_of (by kernel_rfl)
theorem sz93 : (Tryd.prog.info? 93).map (·.size) = some 2 := by kernel_rfl
theorem fi93_0 : FI Tryd.prog 93 0 0 := ⟨⟨_, _, 1, Tryd.underlying93, rfl, rfl, by kernel_rfl, by decide⟩⟩
theorem fi93_1 : FI Tryd.prog 93 1 1 := ⟨⟨_, _, 1, Tryd.underlying93, rfl, rfl, by kernel_rfl, by decide⟩⟩
theorem fi49_0 : FI Tryd.prog 49 0 0 := ⟨⟨_, _, 1, Tryd.underlying49, rfl, rfl, by kernel_rfl, by decide⟩⟩
theorem fi49_1 : FI Tryd.prog 49 1 1 := ⟨⟨_, _, 1, Tryd.underlying49, rfl, rfl, by kernel_rfl, by decide⟩⟩
theorem fi49_2 : FI Tryd.prog 49 2 2 := ⟨⟨_, _, 1, Tryd.underlying49, rfl, rfl, by kernel_rfl, by decide⟩⟩
theorem fi49_3 : FI Tryd.prog 49 3 3 := ⟨⟨_, _, 1, Tryd.underlying49, rfl, rfl, by kernel_rfl, by decide⟩⟩
theorem fi49_4 : FI Tryd.prog 49 4 4 := ⟨⟨_, _, 1, Tryd.underlying49, rfl, rfl, by kernel_rfl, by decide⟩⟩
theorem fi49_5 : FI Tryd.prog 49 5 5 := ⟨⟨_, _, 1, Tryd.underlying49, rfl, rfl, by kernel_rfl, by decide⟩⟩
theorem fn29 : FnI Tryd.prog 29 := ⟨⟨_, Tryd.func29, by kernel_rfl, by kernel_rfl⟩⟩
theorem fn22 : FnI Tryd.prog 22 := ⟨⟨_, Tryd.func22, by kernel_rfl, by kernel_rfl⟩⟩
theorem sz49 : (Tryd.prog.info? 49).map (·.size) = some 7 := by kernel_rfl
theorem pi93 : PI Tryd.prog 93 [(0, 1), (1, 1)] := pi_of Tryd.underlying93 (by kernel_rfl) (by kernel_rfl)
theorem ei93 : EI Tryd.prog 93 2 48 [.raw (.slice none 0 0), .raw (.slice none 0 0)] := ei_of (by kernel_rfl) (by decide)
theorem ni44 : NI Tryd.prog 44 := ⟨.inl ⟨_, Tryd.underlying44⟩⟩
theorem fn67 : FnI Tryd.prog 67 := ⟨⟨_, Tryd.func67, by kernel_rfl, by kernel_rfl⟩⟩
theorem sz44 : (Tryd.prog.info? 44).map (·.size) = some 1 := by kernel_rfl
theorem fn25 : FnI Tryd.prog 25 := ⟨⟨_, Tryd.func25, by kernel_rfl, by kernel_rfl⟩⟩
theorem fn9 : FnI Tryd.prog 9 := ⟨⟨_, Tryd.func9, by kernel_rfl, by kernel_rfl⟩⟩
theorem ti46 : TI Tryd.prog 46 true 7 := ⟨⟨_, Tryd.underlying46, rfl⟩, by kernel_rfl⟩
theorem fi46_5 : FI Tryd.prog 46 5 5 := ⟨⟨_, _, 1, Tryd.underlying46, rfl, rfl, by kernel_rfl, by decide⟩⟩
theorem fi46_6 : FI Tryd.prog 46 6 6 := ⟨⟨_, _, 1, Tryd.underlying46, rfl, rfl, by kernel_rfl, by decide⟩⟩
theorem fn21 : FnI Tryd.prog 21 := ⟨⟨_, Tryd.func21, by kernel_rfl, by kernel_rfl⟩⟩
theorem fi46_0 : FI Tryd.prog 46 0 0 := ⟨⟨_, _, 1, Tryd.underlying46, rfl, rfl, by kernel_rfl, by decide⟩⟩
theorem fi46_1 : FI Tryd.prog 46 1 1 := ⟨⟨_, _, 1, Tryd.underlying46, rfl, rfl, by kernel_rfl, by decide⟩⟩
theorem fi46_2 : FI Tryd.prog 46 2 2 := ⟨⟨_, _, 1, Tryd.underlying46, rfl, rfl, by kernel_rfl, by decide⟩⟩
theorem fi46_3 : FI Tryd.prog 46 3 3 := ⟨⟨_, _, 1, Tryd.underlying46, rfl, rfl, by kernel_rfl, by decide⟩⟩
theorem fi46_4 : FI Tryd.prog 46 4 4 := ⟨⟨_, _, 1, Tryd.underlying46, rfl, rfl, by kernel_rfl, by decide⟩⟩
theorem fn23 : FnI Tryd.prog 23 := ⟨⟨_, Tryd.func23, by kernel_rfl, by kernel_rfl⟩⟩
theorem fn30 : FnI Tryd.prog 30 := ⟨⟨_, Tryd.func30, by kernel_rfl, by kernel_rfl⟩⟩
theorem fn36 : FnI Tryd.prog 36 := ⟨⟨_, Tryd.func36, by kernel_rfl, by kernel_rfl⟩⟩
theorem fn40 : FnI Tryd.prog 40 := ⟨⟨_, Tryd.func40, by kernel_rfl, by kernel_rfl⟩⟩
theorem fn42 : FnI Tryd.prog 42 := ⟨⟨_, Tryd.func42, by kernel_rfl, by kernel_rfl⟩⟩
theorem fn24 : FnI Tryd.prog 24 := ⟨⟨_, Tryd.func24, by kernel_rfl, by kernel_rfl⟩⟩
theorem zi46 : ZI Tryd.prog 46 ([.i .i64 0, .i .i64 0, .i .i64 0, .i .i64 0, .b false, .raw (.slice none 0 0), .raw (.slice none 0 0)]) := zi_of (by kernel_rfl)
theorem zi96 : ZI Tryd.prog 96 ([.raw (.slice none 0 0), .i .i64 0, .i .i64 0]) := zi_of (by kernel_rfl)
theorem pi96 : PI Tryd.prog 96 [(0, 1), (1, 1), (2, 1)] := pi_of Tryd.underlying96 (by kernel_rfl) (by kernel_rfl)
theorem fn51 : FnI Tryd.prog 51 := ⟨⟨_, Tryd.func51, by kernel_rfl, by kernel_rfl⟩⟩
theorem fi96_2 : FI Tryd.prog 96 2 2 := ⟨⟨_, _, 1, Tryd.underlying96, rfl, rfl, by kernel_rfl, by decide⟩⟩
theorem fn53 : FnI Tryd.prog 53 := ⟨⟨_, Tryd.func53, by kernel_rfl, by kernel_rfl⟩⟩
theorem fi96_0 : FI Tryd.prog 96 0 0 := ⟨⟨_, _, 1, Tryd.underlying96, rfl, rfl, by kernel_rfl, by decide⟩⟩
theorem fi96_1 : FI Tryd.prog 96 1 1 := ⟨⟨_, _, 1, Tryd.underlying96, rfl, rfl, by kernel_rfl, by decide⟩⟩
theorem fn74 : FnI Tryd.prog 74 := ⟨⟨_, Tryd.func74, by kernel_rfl, by kernel_rfl⟩⟩
theorem fn52 : FnI Tryd.prog 52 := ⟨⟨_, Tryd.func52, by kernel_rfl, by kernel_rfl⟩⟩
theorem pi46 : PI Tryd.prog 46 [(0, 1), (1, 1), (2, 1), (3, 1), (4, 1), (5, 1), (6, 1)] := pi_of Tryd.underlying46 (by kernel_rfl) (by kernel_rfl)
theorem sz46 : (Tryd.prog.info? 46).map (·.size) = some 7 := by kernel_rfl
theorem fn54 : FnI Tryd.prog 54 := ⟨⟨_, Tryd.func54, by kernel_rfl, by kernel_rfl⟩⟩
theorem fn55 : FnI Tryd.prog 55 := ⟨⟨_, Tryd.func55, by kernel_rfl, by kernel_rfl⟩⟩
theorem fn56 : FnI Tryd.prog 56 := ⟨⟨_, Tryd.func56, by kernel_rfl, by kernel_rfl⟩⟩
theorem fn57 : FnI Tryd.prog 57 := ⟨⟨_, Tryd.func57, by kernel_rfl, by kernel_rfl⟩⟩
theorem fn26 : FnI Tryd.prog 26 := ⟨⟨_, Tryd.func26, by kernel_rfl, by kernel_rfl⟩⟩
theorem fn28 : FnI Tryd.prog 28 := ⟨⟨_, Tryd.func28, by kernel_rfl, by kernel_rfl⟩⟩
theorem fn68 : FnI Tryd.prog 68 := ⟨⟨_, Tryd.func68, by kernel_rfl, by kernel_rfl⟩⟩
theorem fn27 : FnI Tryd.prog 27 := ⟨⟨_, Tryd.func27, by kernel_rfl, by kernel_rfl⟩⟩
theorem fn63 : FnI Tryd.prog 63 := ⟨⟨_, Tryd.func63, by kernel_rfl, by kernel_rfl⟩⟩
theorem fn31 : FnI Tryd.prog 31 := ⟨⟨_, Tryd.func31, by kernel_rfl, by kernel_rfl⟩⟩

def m47_msg_isKind (a0 : Int) : Option Bool :=
  if (decide (1 ≤ a0)) then (some (decide (a0 ≤ 11))) else (some false)

set_option maxRecDepth 100000 in
theorem m47_msg_isKind_c {a0 : Int} {r : Bool} (h : m47_msg_isKind a0 = some r) : CallsA Tryd.prog 47 [.one (.i .i64 a0)] (· = .s (.one (.b r))) := by
  unfold m47_msg_isKind at h
  refine callsA_of Tryd.func47 rfl (nt := 9) rfl (Nat.le_of_ble_eq_true rfl) ?_
  intro w0 S0
  refine cseq ?_
  refine cregion ?_
  refine sv rfl (opv_as rfl) ?_
  refine snil ?_
  refine cseq ?_
  refine cregion ?_
  refine sv rfl (opv_mv rfl) ?_
  refine sv rfl (opv_geq rfl rfl) ?_
  refine sv rfl (opv_mv rfl) ?_
  refine ssplit 5 rfl (fun hc => ?_) (fun hc => ?_)
  · replace h := ite_t hc h
    clear hc
    refine son rfl rfl rfl ?_
    refine sv rfl (opv_mv rfl) ?_
    refine son rfl rfl rfl ?_
    refine sv rfl (opv_leq rfl rfl) ?_
    refine sv rfl (opv_pick_t rfl rfl) ?_
    refine sv rfl (opv_as rfl) ?_
    refine snil ?_
    refine cret ?_
    obtain rfl := Option.some.inj h
    refine ⟨Or.inr rfl, _, _, _, (resVs_cons (ResV.tmp _ _ rfl) resVs_nil), (pubA_id rfl), ?_⟩
    rfl
  · replace h := ite_f hc h
    clear hc
    refine soff rfl rfl rfl rfl ?_
    refine soff rfl rfl rfl rfl ?_
    refine sv rfl (opv_pick_f rfl rfl) ?_
    refine sv rfl (opv_as rfl) ?_
    refine snil ?_
    refine cret ?_
    obtain rfl := Option.some.inj h
    refine ⟨Or.inr rfl, _, _, _, (resVs_cons (ResV.tmp _ _ rfl) resVs_nil), (pubA_id rfl), ?_⟩
    rfl

def m32_msg_partsOf (a0 : Int) : Option GMsgParts :=
  (m47_msg_isKind a0).bind fun v1 => if (!v1) then (some (GMsgParts.mk false false false false false false)) else ((idx tab0 a0).bind fun u2 => some u2)

set_option maxRecDepth 100000 in
theorem m32_msg_partsOf_c {a0 : Int} {r : GMsgParts} (h : m32_msg_partsOf a0 = some r) : CallsA Tryd.prog 32 [.one (.i .i64 a0)] (· = .s (.agg [.b r.token_, .b r.attempt_, .b r.ro_, .b r.key_, .b r.val_, .b r.rng_])) := by
  unfold m32_msg_partsOf at h
  refine callsA_of Tryd.func32 rfl (nt := 10) rfl (Nat.le_of_ble_eq_true rfl) ?_
  intro w0 S0
  refine cseq ?_
  refine cregion ?_
  refine salloc rfl zi66 ?_
  refine snil ?_
  refine cseq ?_
  refine cseq ?_
  refine cregion ?_
  refine sv rfl (opv_mv rfl) ?_
  obtain ⟨v1, hv1, h⟩ := bind_eq h
  refine scall1 rfl fn47 (opnds_cons rfl opnds_nil) (pubA_id rfl) (m47_msg_isKind_c hv1) ?_
  refine sv rfl (opv_not rfl) ?_
  refine snil ?_
  refine ccond rfl (fun hc => ?_) (fun hc => ?_)
  · replace h := ite_t hc h
    clear hc
    refine cseq ?_
    refine cregion ?_
    refine sv rfl (opv_build zi66 pi66 parts_nil (.nil _)) ?_
    refine sstore sz66 rfl rfl rfl rfl (Nat.le_of_ble_eq_true rfl) ?_
    refine smem [.box [.b false, .b false, .b false, .b false, .b false, .b false]] rfl ?_
    refine snil ?_
    refine cret ?_
    refine then_ret ?_
    obtain rfl := Option.some.inj h
    refine ⟨Or.inr rfl, _, _, _, (resVs_cons (ResV.agg _ _ _ _ _ ti66 rfl (.lp _ _ _ rfl) (Nat.le_of_ble_eq_true rfl)) resVs_nil), (pubA_id rfl), ?_⟩
    rfl
  · replace h := ite_f hc h
    clear hc
    refine cskip ?_
    refine then_normal ?_
    refine cseq ?_
    refine cregion ?_
    refine sv rfl (opv_mv rfl) ?_
    obtain ⟨u2, hu2, h⟩ := bind_eq h
    refine sv rfl (opv_gix (f := eGMsgParts) ai98 (fun _ => rfl) tab0_in rfl rfl rfl hu2) ?_
    refine sv rfl (opv_loadNe (ys := [.b u2.token_, .b u2.attempt_, .b u2.ro_, .b u2.key_, .b u2.val_, .b u2.rng_]) ti66 rfl (.cp _) rfl rfl) ?_
    refine sstore sz66 rfl rfl rfl rfl (Nat.le_of_ble_eq_true rfl) ?_
    refine smem [.box [.b u2.token_, .b u2.attempt_, .b u2.ro_, .b u2.key_, .b u2.val_, .b u2.rng_]] rfl ?_
    refine snil ?_
    refine cret ?_
    obtain rfl := Option.some.inj h
    refine ⟨Or.inr rfl, _, _, _, (resVs_cons (ResV.agg _ _ _ _ _ ti66 rfl (.lp _ _ _ rfl) (Nat.le_of_ble_eq_true rfl)) resVs_nil), (pubA_id rfl), ?_⟩
    rfl

def m58_msg_within (a0 : Int) (a1 : Int) : Option Bool :=
  if (decide (0 ≤ a0)) then (some (decide (a0 ≤ a1))) else (some false)

set_option maxRecDepth 100000 in
theorem m58_msg_within_c {a0 : Int} {a1 : Int} {r : Bool} (h : m58_msg_within a0 a1 = some r) : CallsA Tryd.prog 58 [.one (.i .i64 a0), .one (.i .i64 a1)] (· = .s (.one (.b r))) := by
  unfold m58_msg_within at h
  refine callsA_of Tryd.func58 rfl (nt := 12) rfl (Nat.le_of_ble_eq_true rfl) ?_
  intro w0 S0
  refine cseq ?_
  refine cregion ?_
  refine sv rfl (opv_as rfl) ?_
  refine snil ?_
  refine cseq ?_
  refine cregion ?_
  refine sv rfl (opv_mv rfl) ?_
  refine sv rfl (opv_geq rfl rfl) ?_
  refine sv rfl (opv_mv rfl) ?_
  refine ssplit 7 rfl (fun hc => ?_) (fun hc => ?_)
  · replace h := ite_t hc h
    clear hc
    refine son rfl rfl rfl ?_
    refine sv rfl (opv_mv rfl) ?_
    refine son rfl rfl rfl ?_
    refine sv rfl (opv_mv rfl) ?_
    refine son rfl rfl rfl ?_
    refine sv rfl (opv_leq rfl rfl) ?_
    refine sv rfl (opv_pick_t rfl rfl) ?_
    refine sv rfl (opv_as rfl) ?_
    refine snil ?_
    refine cret ?_
    obtain rfl := Option.some.inj h
    refine ⟨Or.inr rfl, _, _, _, (resVs_cons (ResV.tmp _ _ rfl) resVs_nil), (pubA_id rfl), ?_⟩
    rfl
  · replace h := ite_f hc h
    clear hc
    refine soff rfl rfl rfl rfl ?_
    refine soff rfl rfl rfl rfl ?_
    refine soff rfl rfl rfl rfl ?_
    refine sv rfl (opv_pick_f rfl rfl) ?_
    refine sv rfl (opv_as rfl) ?_
    refine snil ?_
    refine cret ?_
    obtain rfl := Option.some.inj h
    refine ⟨Or.inr rfl, _, _, _, (resVs_cons (ResV.tmp _ _ rfl) resVs_nil), (pubA_id rfl), ?_⟩
    rfl

def m59_msg_saneNum (a0 : Bool) (a1 : Int) (a2 : Int) : Option Bool :=
  if (!a0) then (some (decide (a1 = 0))) else ((m58_msg_within a1 a2).bind fun v1 => some v1)

set_option maxRecDepth 100000 in
theorem m59_msg_saneNum_c {a0 : Bool} {a1 : Int} {a2 : Int} {r : Bool} (h : m59_msg_saneNum a0 a1 a2 = some r) : CallsA Tryd.prog 59 [.one (.b a0), .one (.i .i64 a1), .one (.i .i64 a2)] (· = .s (.one (.b r))) := by
  unfold m59_msg_saneNum at h
  refine callsA_of Tryd.func59 rfl (nt := 14) rfl (Nat.le_of_ble_eq_true rfl) ?_
  intro w0 S0
  refine cseq ?_
  refine cregion ?_
  refine sv rfl (opv_as rfl) ?_
  refine snil ?_
  refine cseq ?_
  refine cseq ?_
  refine cregion ?_
  refine sv rfl (opv_mv rfl) ?_
  refine sv rfl (opv_not rfl) ?_
  refine snil ?_
  refine ccond rfl (fun hc => ?_) (fun hc => ?_)
  · replace h := ite_t hc h
    clear hc
    refine cseq ?_
    refine cregion ?_
    refine sv rfl (opv_mv rfl) ?_
    refine sv rfl (opv_ieql rfl rfl) ?_
    refine sv rfl (opv_as rfl) ?_
    refine snil ?_
    refine cret ?_
    refine then_ret ?_
    obtain rfl := Option.some.inj h
    refine ⟨Or.inr rfl, _, _, _, (resVs_cons (ResV.tmp _ _ rfl) resVs_nil), (pubA_id rfl), ?_⟩
    rfl
  · replace h := ite_f hc h
    clear hc
    refine cskip ?_
    refine then_normal ?_
    refine cseq ?_
    refine cregion ?_
    refine sv rfl (opv_mv rfl) ?_
    refine sv rfl (opv_mv rfl) ?_
    obtain ⟨v1, hv1, h⟩ := bind_eq h
    refine scall1 rfl fn58 (opnds_cons rfl (opnds_cons rfl opnds_nil)) (pubA_id rfl) (m58_msg_within_c hv1) ?_
    refine sv rfl (opv_as rfl) ?_
    refine snil ?_
    refine cret ?_
    obtain rfl := Option.some.inj h
    refine ⟨Or.inr rfl, _, _, _, (resVs_cons (ResV.tmp _ _ rfl) resVs_nil), (pubA_id rfl), ?_⟩
    rfl

def m60_msg_saneBytes (a0 : Bool) (a1 : List UInt8) (a2 : Int) (a3 : Int) : Option Bool :=
  if (!a0) then (some (decide ((a1.length : Int) = 0))) else (if (decide (a2 ≤ (a1.length : Int))) then (some (decide ((a1.length : Int) ≤ a3))) else (some false))

set_option maxRecDepth 100000 in
theorem m60_msg_saneBytes_c {a0 : Bool} {a1 : List UInt8} {a2 : Int} {a3 : Int} {r : Bool} (h : m60_msg_saneBytes a0 a1 a2 a3 = some r) : CallsA Tryd.prog 60 [.one (.b a0), .one (.sl a1.length (a1.flatMap eU8)), .one (.i .i64 a2), .one (.i .i64 a3)] (· = .s (.one (.b r))) := by
  unfold m60_msg_saneBytes at h
  refine callsA_of Tryd.func60 rfl (nt := 24) rfl (Nat.le_of_ble_eq_true rfl) ?_
  intro w0 S0
  refine cseq ?_
  refine cregion ?_
  refine sv rfl (opv_as rfl) ?_
  refine snil ?_
  refine cseq ?_
  refine cseq ?_
  refine cregion ?_
  refine sv rfl (opv_mv rfl) ?_
  refine sv rfl (opv_not rfl) ?_
  refine snil ?_
  refine ccond rfl (fun hc => ?_) (fun hc => ?_)
  · replace h := ite_t hc h
    clear hc
    refine cseq ?_
    refine cregion ?_
    refine sv rfl (opv_mv rfl) ?_
    refine sv rfl (opv_len_sl si22 rfl) ?_
    refine sv rfl (opv_ieql rfl rfl) ?_
    refine sv rfl (opv_as rfl) ?_
    refine snil ?_
    refine cret ?_
    refine then_ret ?_
    obtain rfl := Option.some.inj h
    refine ⟨Or.inr rfl, _, _, _, (resVs_cons (ResV.tmp _ _ rfl) resVs_nil), (pubA_id rfl), ?_⟩
    rfl
  · replace h := ite_f hc h
    clear hc
    refine cskip ?_
    refine then_normal ?_
    refine cseq ?_
    refine cregion ?_
    refine sv rfl (opv_mv rfl) ?_
    refine sv rfl (opv_len_sl si22 rfl) ?_
    refine sv rfl (opv_mv rfl) ?_
    refine sv rfl (opv_geq rfl rfl) ?_
    refine sv rfl (opv_mv rfl) ?_
    refine ssplit 18 rfl (fun hc => ?_) (fun hc => ?_)
    · replace h := ite_t hc h
      clear hc
      refine son rfl rfl rfl ?_
      refine sv rfl (opv_mv rfl) ?_
      refine son rfl rfl rfl ?_
      refine sv rfl (opv_len_sl si22 rfl) ?_
      refine son rfl rfl rfl ?_
      refine sv rfl (opv_mv rfl) ?_
      refine son rfl rfl rfl ?_
      refine sv rfl (opv_leq rfl rfl) ?_
      refine sv rfl (opv_pick_t rfl rfl) ?_
      refine sv rfl (opv_as rfl) ?_
      refine snil ?_
      refine cret ?_
      obtain rfl := Option.some.inj h
      refine ⟨Or.inr rfl, _, _, _, (resVs_cons (ResV.tmp _ _ rfl) resVs_nil), (pubA_id rfl), ?_⟩
      rfl
    · replace h := ite_f hc h
      clear hc
      refine soff rfl rfl rfl rfl ?_
      refine soff rfl rfl rfl rfl ?_
      refine soff rfl rfl rfl rfl ?_
      refine soff rfl rfl rfl rfl ?_
      refine sv rfl (opv_pick_f rfl rfl) ?_
      refine sv rfl (opv_as rfl) ?_
      refine snil ?_
      refine cret ?_
      obtain rfl := Option.some.inj h
      refine ⟨Or.inr rfl, _, _, _, (resVs_cons (ResV.tmp _ _ rfl) resVs_nil), (pubA_id rfl), ?_⟩
      rfl

def m61_msg_saneRng (a0 : Bool) (a1 : GApiRange) : Option Bool :=
  if (!a0) then (if (decide ((a1.Lo.length : Int) = 0)) then (if (decide ((a1.Hi.length : Int) = 0)) then (some (!a1.Open)) else (some false)) else (some false)) else (if (decide ((a1.Lo.length : Int) ≤ 16)) then ((m60_msg_saneBytes (!a1.Open) a1.Hi 0 16).bind fun v1 => some v1) else (some false))

set_option maxRecDepth 100000 in
theorem m61_msg_saneRng_c {a0 : Bool} {a1 : GApiRange} {r : Bool} (h : m61_msg_saneRng a0 a1 = some r) : CallsA Tryd.prog 61 [.one (.b a0), .agg [.sl a1.Lo.length (a1.Lo.flatMap eU8), .sl a1.Hi.length (a1.Hi.flatMap eU8), .b a1.Open]] (· = .s (.one (.b r))) := by
  unfold m61_msg_saneRng at h
  refine callsA_of Tryd.func61 rfl (nt := 34) rfl (Nat.le_of_ble_eq_true rfl) ?_
  intro w0 S0
  refine cseq ?_
  refine cregion ?_
  refine sbox rfl rfl ?_
  refine sv rfl (opv_as rfl) ?_
  refine snil ?_
  refine cseq ?_
  refine cseq ?_
  refine cregion ?_
  refine sv rfl (opv_mv rfl) ?_
  refine sv rfl (opv_not rfl) ?_
  refine snil ?_
  refine ccond rfl (fun hc => ?_) (fun hc => ?_)
  · replace h := ite_t hc h
    clear hc
    refine cseq ?_
    refine cregion ?_
    refine sv rfl (opv_fieldAddr_lp fi24_0 rfl) ?_
    refine sv rfl (opv_load1 ti22 rfl (.lp _ _ _ rfl) rfl) ?_
    refine sv rfl (opv_len_sl si22 rfl) ?_
    refine sv rfl (opv_ieql rfl rfl) ?_
    refine sv rfl (opv_mv rfl) ?_
    refine ssplit 11 rfl (fun hc => ?_) (fun hc => ?_)
    · replace h := ite_t hc h
      clear hc
      refine son rfl rfl rfl ?_
      refine sv rfl (opv_fieldAddr_lp fi24_1 rfl) ?_
      refine son rfl rfl rfl ?_
      refine sv rfl (opv_load1 ti22 rfl (.lp _ _ _ rfl) rfl) ?_
      refine son rfl rfl rfl ?_
      refine sv rfl (opv_len_sl si22 rfl) ?_
      refine son rfl rfl rfl ?_
      refine sv rfl (opv_ieql rfl rfl) ?_
      refine sv rfl (opv_pick_t rfl rfl) ?_
      refine sv rfl (opv_mv rfl) ?_
      refine ssplit 17 rfl (fun hc => ?_) (fun hc => ?_)
      · replace h := ite_t hc h
        clear hc
        refine son rfl rfl rfl ?_
        refine sv rfl (opv_fieldAddr_lp fi24_2 rfl) ?_
        refine son rfl rfl rfl ?_
        refine sv rfl (opv_load1 ti4 rfl (.lp _ _ _ rfl) rfl) ?_
        refine son rfl rfl rfl ?_
        refine sv rfl (opv_not rfl) ?_
        refine sv rfl (opv_pick_t rfl rfl) ?_
        refine sv rfl (opv_as rfl) ?_
        refine snil ?_
        refine cret ?_
        refine then_ret ?_
        obtain rfl := Option.some.inj h
        refine ⟨Or.inr rfl, _, _, _, (resVs_cons (ResV.tmp _ _ rfl) resVs_nil), (pubA_id rfl), ?_⟩
        rfl
      · replace h := ite_f hc h
        clear hc
        refine soff rfl rfl rfl rfl ?_
        refine soff rfl rfl rfl rfl ?_
        refine soff rfl rfl rfl rfl ?_
        refine sv rfl (opv_pick_f rfl rfl) ?_
        refine sv rfl (opv_as rfl) ?_
        refine snil ?_
        refine cret ?_
        refine then_ret ?_
        obtain rfl := Option.some.inj h
        refine ⟨Or.inr rfl, _, _, _, (resVs_cons (ResV.tmp _ _ rfl) resVs_nil), (pubA_id rfl), ?_⟩
        rfl
    · replace h := ite_f hc h
      clear hc
      refine soff rfl rfl rfl rfl ?_
      refine soff rfl rfl rfl rfl ?_
      refine soff rfl rfl rfl rfl ?_
      refine soff rfl rfl rfl rfl ?_
      refine sv rfl (opv_pick_f rfl rfl) ?_
      refine sv rfl (opv_mv rfl) ?_
      refine soff rfl rfl rfl rfl ?_
      refine soff rfl rfl rfl rfl ?_
      refine soff rfl rfl rfl rfl ?_
      refine sv rfl (opv_pick_f rfl rfl) ?_
      refine sv rfl (opv_as rfl) ?_
      refine snil ?_
      refine cret ?_
      refine then_ret ?_
      obtain rfl := Option.some.inj h
      refine ⟨Or.inr rfl, _, _, _, (resVs_cons (ResV.tmp _ _ rfl) resVs_nil), (pubA_id rfl), ?_⟩
      rfl
  · replace h := ite_f hc h
    clear hc
    refine cskip ?_
    refine then_normal ?_
    refine cseq ?_
    refine cregion ?_
    refine sv rfl (opv_fieldAddr_lp fi24_0 rfl) ?_
    refine sv rfl (opv_load1 ti22 rfl (.lp _ _ _ rfl) rfl) ?_
    refine sv rfl (opv_len_sl si22 rfl) ?_
    refine sv rfl (opv_leq rfl rfl) ?_
    refine sv rfl (opv_mv rfl) ?_
    refine ssplit 26 rfl (fun hc => ?_) (fun hc => ?_)
    · replace h := ite_t hc h
      clear hc
      refine son rfl rfl rfl ?_
      refine sv rfl (opv_fieldAddr_lp fi24_2 rfl) ?_
      refine son rfl rfl rfl ?_
      refine sv rfl (opv_load1 ti4 rfl (.lp _ _ _ rfl) rfl) ?_
      refine son rfl rfl rfl ?_
      refine sv rfl (opv_not rfl) ?_
      refine son rfl rfl rfl ?_
      refine sv rfl (opv_fieldAddr_lp fi24_1 rfl) ?_
      refine son rfl rfl rfl ?_
      refine sv rfl (opv_load1 ti22 rfl (.lp _ _ _ rfl) rfl) ?_
      refine son rfl rfl rfl ?_
      obtain ⟨v1, hv1, h⟩ := bind_eq h
      refine scall1 rfl fn60 (opnds_cons rfl (opnds_cons rfl (opnds_cons rfl (opnds_cons rfl opnds_nil)))) (pubA_id rfl) (m60_msg_saneBytes_c hv1) ?_
      refine sv rfl (opv_pick_t rfl rfl) ?_
      refine sv rfl (opv_as rfl) ?_
      refine snil ?_
      refine cret ?_
      obtain rfl := Option.some.inj h
      refine ⟨Or.inr rfl, _, _, _, (resVs_cons (ResV.tmp _ _ rfl) resVs_nil), (pubA_id rfl), ?_⟩
      rfl
    · replace h := ite_f hc h
      clear hc
      refine soff rfl rfl rfl rfl ?_
      refine soff rfl rfl rfl rfl ?_
      refine soff rfl rfl rfl rfl ?_
      refine soff rfl rfl rfl rfl ?_
      refine soff rfl rfl rfl rfl ?_
      refine soff rfl rfl rfl rfl ?_
      refine sv rfl (opv_pick_f rfl rfl) ?_
      refine sv rfl (opv_as rfl) ?_
      refine snil ?_
      refine cret ?_
      obtain rfl := Option.some.inj h
      refine ⟨Or.inr rfl, _, _, _, (resVs_cons (ResV.tmp _ _ rfl) resVs_nil), (pubA_id rfl), ?_⟩
      rfl

def m18_msg_SaneReq (a0 : GMsgReq) : Option Bool :=
  (m32_msg_partsOf a0.Kind).bind fun v1 => (m47_msg_isKind a0.Kind).bind fun v2 => if v2 then ((m58_msg_within a0.Seq 4294967295).bind fun v3 => if v3 then ((m59_msg_saneNum v1.token_ a0.Token 1099511627776).bind fun v4 => if v4 then ((m59_msg_saneNum v1.attempt_ a0.Attempt 65535).bind fun v5 => if v5 then (if v1.ro_ then ((m60_msg_saneBytes v1.key_ a0.Key 1 16).bind fun v6 => if v6 then ((m60_msg_saneBytes v1.val_ a0.Val 0 32).bind fun v7 => if v7 then ((m61_msg_saneRng v1.rng_ (GApiRange.mk a0.Rng.Lo a0.Rng.Hi a0.Rng.Open)).bind fun v8 => some v8) else (some false)) else (some false)) else (if (!a0.RO) then ((m60_msg_saneBytes v1.key_ a0.Key 1 16).bind fun v9 => if v9 then ((m60_msg_saneBytes v1.val_ a0.Val 0 32).bind fun v10 => if v10 then ((m61_msg_saneRng v1.rng_ (GApiRange.mk a0.Rng.Lo a0.Rng.Hi a0.Rng.Open)).bind fun v11 => some v11) else (some false)) else (some false)) else (some false))) else (some false)) else (some false)) else (some false)) else (some false)

set_option maxRecDepth 100000 in
theorem m18_msg_SaneReq_c {a0 : GMsgReq} {r : Bool} (h : m18_msg_SaneReq a0 = some r) : CallsA Tryd.prog 18 [.agg [.i .i64 a0.Kind, .i .i64 a0.Seq, .i .i64 a0.Token, .i .i64 a0.Attempt, .b a0.RO, .sl a0.Key.length (a0.Key.flatMap eU8), .sl a0.Val.length (a0.Val.flatMap eU8), .sl a0.Rng.Lo.length (a0.Rng.Lo.flatMap eU8), .sl a0.Rng.Hi.length (a0.Rng.Hi.flatMap eU8), .b a0.Rng.Open]] (· = .s (.one (.b r))) := by
  unfold m18_msg_SaneReq at h
  refine callsA_of Tryd.func18 rfl (nt := 59) rfl (Nat.le_of_ble_eq_true rfl) ?_
  intro w0 S0
  refine cseq ?_
  refine cregion ?_
  refine sbox rfl rfl ?_
  refine sv rfl (opv_as rfl) ?_
  refine snil ?_
  refine cseq ?_
  refine cregion ?_
  refine sv rfl (opv_fieldAddr_lp fi32_0 rfl) ?_
  refine sv rfl (opv_load1 ti3 rfl (.lp _ _ _ rfl) rfl) ?_
  obtain ⟨v1, hv1, h⟩ := bind_eq h
  refine scall1 rfl fn32 (opnds_cons rfl opnds_nil) (pubA_id rfl) (m32_msg_partsOf_c hv1) ?_
  refine salloc rfl zi66 ?_
  refine sstore sz66 rfl rfl rfl rfl (Nat.le_of_ble_eq_true rfl) ?_
  refine smem [.box [.i .i64 a0.Kind, .i .i64 a0.Seq, .i .i64 a0.Token, .i .i64 a0.Attempt, .b a0.RO, .sl a0.Key.length (a0.Key.flatMap eU8), .sl a0.Val.length (a0.Val.flatMap eU8), .sl a0.Rng.Lo.length (a0.Rng.Lo.flatMap eU8), .sl a0.Rng.Hi.length (a0.Rng.Hi.flatMap eU8), .b a0.Rng.Open], .box [.b v1.token_, .b v1.attempt_, .b v1.ro_, .b v1.key_, .b v1.val_, .b v1.rng_]] rfl ?_
  refine snil ?_
  refine cseq ?_
  refine cregion ?_
  refine sv rfl (opv_fieldAddr_lp fi32_0 rfl) ?_
  refine sv rfl (opv_load1 ti3 rfl (.lp _ _ _ rfl) rfl) ?_
  obtain ⟨v2, hv2, h⟩ := bind_eq h
  refine scall1 rfl fn47 (opnds_cons rfl opnds_nil) (pubA_id rfl) (m47_msg_isKind_c hv2) ?_
  refine sv rfl (opv_mv rfl) ?_
  refine ssplit 10 rfl (fun hc => ?_) (fun hc => ?_)
  · replace h := ite_t hc h
    clear hc
    refine son rfl rfl rfl ?_
    refine sv rfl (opv_fieldAddr_lp fi32_1 rfl) ?_
    refine son rfl rfl rfl ?_
    refine sv rfl (opv_load1 ti3 rfl (.lp _ _ _ rfl) rfl) ?_
    refine son rfl rfl rfl ?_
    obtain ⟨v3, hv3, h⟩ := bind_eq h
    refine scall1 rfl fn58 (opnds_cons rfl (opnds_cons rfl opnds_nil)) (pubA_id rfl) (m58_msg_within_c hv3) ?_
    refine sv rfl (opv_pick_t rfl rfl) ?_
    refine sv rfl (opv_mv rfl) ?_
    refine ssplit 15 rfl (fun hc => ?_) (fun hc => ?_)
    · replace h := ite_t hc h
      clear hc
      refine son rfl rfl rfl ?_
      refine sv rfl (opv_fieldAddr_lp fi66_0 rfl) ?_
      refine son rfl rfl rfl ?_
      refine sv rfl (opv_load1 ti4 rfl (.lp _ _ _ rfl) rfl) ?_
      refine son rfl rfl rfl ?_
      refine sv rfl (opv_fieldAddr_lp fi32_2 rfl) ?_
      refine son rfl rfl rfl ?_
      refine sv rfl (opv_load1 ti3 rfl (.lp _ _ _ rfl) rfl) ?_
      refine son rfl rfl rfl ?_
      obtain ⟨v4, hv4, h⟩ := bind_eq h
      refine scall1 rfl fn59 (opnds_cons rfl (opnds_cons rfl (opnds_cons rfl opnds_nil))) (pubA_id rfl) (m59_msg_saneNum_c hv4) ?_
      refine sv rfl (opv_pick_t rfl rfl) ?_
      refine sv rfl (opv_mv rfl) ?_
      refine ssplit 22 rfl (fun hc => ?_) (fun hc => ?_)
      · replace h := ite_t hc h
        clear hc
        refine son rfl rfl rfl ?_
        refine sv rfl (opv_fieldAddr_lp fi66_1 rfl) ?_
        refine son rfl rfl rfl ?_
        refine sv rfl (opv_load1 ti4 rfl (.lp _ _ _ rfl) rfl) ?_
        refine son rfl rfl rfl ?_
        refine sv rfl (opv_fieldAddr_lp fi32_3 rfl) ?_
        refine son rfl rfl rfl ?_
        refine sv rfl (opv_load1 ti3 rfl (.lp _ _ _ rfl) rfl) ?_
        refine son rfl rfl rfl ?_
        obtain ⟨v5, hv5, h⟩ := bind_eq h
        refine scall1 rfl fn59 (opnds_cons rfl (opnds_cons rfl (opnds_cons rfl opnds_nil))) (pubA_id rfl) (m59_msg_saneNum_c hv5) ?_
        refine sv rfl (opv_pick_t rfl rfl) ?_
        refine sv rfl (opv_mv rfl) ?_
        refine ssplit 29 rfl (fun hc => ?_) (fun hc => ?_)
        · replace h := ite_t hc h
          clear hc
          refine son rfl rfl rfl ?_
          refine sv rfl (opv_fieldAddr_lp fi66_2 rfl) ?_
          refine son rfl rfl rfl ?_
          refine sv rfl (opv_load1 ti4 rfl (.lp _ _ _ rfl) rfl) ?_
          refine son rfl rfl rfl ?_
          refine sv rfl (opv_mv rfl) ?_
          refine ssplit 32 rfl (fun hc => ?_) (fun hc => ?_)
          · replace h := ite_t hc h
            clear hc
            refine soff rfl rfl rfl rfl ?_
            refine soff rfl rfl rfl rfl ?_
            refine soff rfl rfl rfl rfl ?_
            refine son rfl rfl rfl ?_
            refine sv rfl (opv_pick_t rfl rfl) ?_
            refine sv rfl (opv_pick_t rfl rfl) ?_
            refine sv rfl (opv_mv rfl) ?_
            refine son rfl rfl rfl ?_
            refine sv rfl (opv_fieldAddr_lp fi66_3 rfl) ?_
            refine son rfl rfl rfl ?_
            refine sv rfl (opv_load1 ti4 rfl (.lp _ _ _ rfl) rfl) ?_
            refine son rfl rfl rfl ?_
            refine sv rfl (opv_fieldAddr_lp fi32_5 rfl) ?_
            refine son rfl rfl rfl ?_
            refine sv rfl (opv_load1 ti22 rfl (.lp _ _ _ rfl) rfl) ?_
            refine son rfl rfl rfl ?_
            obtain ⟨v6, hv6, h⟩ := bind_eq h
            refine scall1 rfl fn60 (opnds_cons rfl (opnds_cons rfl (opnds_cons rfl (opnds_cons rfl opnds_nil)))) (pubA_id rfl) (m60_msg_saneBytes_c hv6) ?_
            refine sv rfl (opv_pick_t rfl rfl) ?_
            refine sv rfl (opv_mv rfl) ?_
            refine ssplit 45 rfl (fun hc => ?_) (fun hc => ?_)
            · replace h := ite_t hc h
              clear hc
              refine son rfl rfl rfl ?_
              refine sv rfl (opv_fieldAddr_lp fi66_4 rfl) ?_
              refine son rfl rfl rfl ?_
              refine sv rfl (opv_load1 ti4 rfl (.lp _ _ _ rfl) rfl) ?_
              refine son rfl rfl rfl ?_
              refine sv rfl (opv_fieldAddr_lp fi32_6 rfl) ?_
              refine son rfl rfl rfl ?_
              refine sv rfl (opv_load1 ti22 rfl (.lp _ _ _ rfl) rfl) ?_
              refine son rfl rfl rfl ?_
              obtain ⟨v7, hv7, h⟩ := bind_eq h
              refine scall1 rfl fn60 (opnds_cons rfl (opnds_cons rfl (opnds_cons rfl (opnds_cons rfl opnds_nil)))) (pubA_id rfl) (m60_msg_saneBytes_c hv7) ?_
              refine sv rfl (opv_pick_t rfl rfl) ?_
              refine sv rfl (opv_mv rfl) ?_
              refine ssplit 52 rfl (fun hc => ?_) (fun hc => ?_)
              · replace h := ite_t hc h
                clear hc
                refine son rfl rfl rfl ?_
                refine sv rfl (opv_fieldAddr_lp fi66_5 rfl) ?_
                refine son rfl rfl rfl ?_
                refine sv rfl (opv_load1 ti4 rfl (.lp _ _ _ rfl) rfl) ?_
                refine son rfl rfl rfl ?_
                refine sv rfl (opv_fieldAddr_lp fi32_7 rfl) ?_
                refine son rfl rfl rfl ?_
                refine sv rfl (opv_loadN ti24 rfl (.lp _ _ _ rfl) (Nat.le_of_ble_eq_true rfl)) ?_
                refine son rfl rfl rfl ?_
                obtain ⟨v8, hv8, h⟩ := bind_eq h
                refine scall1 rfl fn61 (opnds_cons rfl (opnds_cons rfl opnds_nil)) (pubA_id rfl) (m61_msg_saneRng_c hv8) ?_
                refine sv rfl (opv_pick_t rfl rfl) ?_
                refine sv rfl (opv_as rfl) ?_
                refine snil ?_
                refine cret ?_
                obtain rfl := Option.some.inj h
                refine ⟨Or.inr rfl, _, _, _, (resVs_cons (ResV.tmp _ _ rfl) resVs_nil), (pubA_id rfl), ?_⟩
                rfl
              · replace h := ite_f hc h
                clear hc
                refine soff rfl rfl rfl rfl ?_
                refine soff rfl rfl rfl rfl ?_
                refine soff rfl rfl rfl rfl ?_
                refine soff rfl rfl rfl rfl ?_
                refine soff rfl rfl rfl rfl ?_
                refine sv rfl (opv_pick_f rfl rfl) ?_
                refine sv rfl (opv_as rfl) ?_
                refine snil ?_
                refine cret ?_
                obtain rfl := Option.some.inj h
                refine ⟨Or.inr rfl, _, _, _, (resVs_cons (ResV.tmp _ _ rfl) resVs_nil), (pubA_id rfl), ?_⟩
                rfl
            · replace h := ite_f hc h
              clear hc
              refine soff rfl rfl rfl rfl ?_
              refine soff rfl rfl rfl rfl ?_
              refine soff rfl rfl rfl rfl ?_
              refine soff rfl rfl rfl rfl ?_
              refine soff rfl rfl rfl rfl ?_
              refine sv rfl (opv_pick_f rfl rfl) ?_
              refine sv rfl (opv_mv rfl) ?_
              refine soff rfl rfl rfl rfl ?_
              refine soff rfl rfl rfl rfl ?_
              refine soff rfl rfl rfl rfl ?_
              refine soff rfl rfl rfl rfl ?_
              refine soff rfl rfl rfl rfl ?_
              refine sv rfl (opv_pick_f rfl rfl) ?_
              refine sv rfl (opv_as rfl) ?_
              refine snil ?_
              refine cret ?_
              obtain rfl := Option.some.inj h
              refine ⟨Or.inr rfl, _, _, _, (resVs_cons (ResV.tmp _ _ rfl) resVs_nil), (pubA_id rfl), ?_⟩
              rfl
          · replace h := ite_f hc h
            clear hc
            refine son rfl rfl rfl ?_
            refine sv rfl (opv_fieldAddr_lp fi32_4 rfl) ?_
            refine son rfl rfl rfl ?_
            refine sv rfl (opv_load1 ti4 rfl (.lp _ _ _ rfl) rfl) ?_
            refine son rfl rfl rfl ?_
            refine sv rfl (opv_not rfl) ?_
            refine son rfl rfl rfl ?_
            refine sv rfl (opv_pick_f rfl rfl) ?_
            refine sv rfl (opv_pick_t rfl rfl) ?_
            refine sv rfl (opv_mv rfl) ?_
            refine ssplit 38 rfl (fun hc => ?_) (fun hc => ?_)
            · replace h := ite_t hc h
              clear hc
              refine son rfl rfl rfl ?_
              refine sv rfl (opv_fieldAddr_lp fi66_3 rfl) ?_
              refine son rfl rfl rfl ?_
              refine sv rfl (opv_load1 ti4 rfl (.lp _ _ _ rfl) rfl) ?_
              refine son rfl rfl rfl ?_
              refine sv rfl (opv_fieldAddr_lp fi32_5 rfl) ?_
              refine son rfl rfl rfl ?_
              refine sv rfl (opv_load1 ti22 rfl (.lp _ _ _ rfl) rfl) ?_
              refine son rfl rfl rfl ?_
              obtain ⟨v9, hv9, h⟩ := bind_eq h
              refine scall1 rfl fn60 (opnds_cons rfl (opnds_cons rfl (opnds_cons rfl (opnds_cons rfl opnds_nil)))) (pubA_id rfl) (m60_msg_saneBytes_c hv9) ?_
              refine sv rfl (opv_pick_t rfl rfl) ?_
              refine sv rfl (opv_mv rfl) ?_
              refine ssplit 45 rfl (fun hc => ?_) (fun hc => ?_)
              · replace h := ite_t hc h
                clear hc
                refine son rfl rfl rfl ?_
                refine sv rfl (opv_fieldAddr_lp fi66_4 rfl) ?_
                refine son rfl rfl rfl ?_
                refine sv rfl (opv_load1 ti4 rfl (.lp _ _ _ rfl) rfl) ?_
                refine son rfl rfl rfl ?_
                refine sv rfl (opv_fieldAddr_lp fi32_6 rfl) ?_
                refine son rfl rfl rfl ?_
                refine sv rfl (opv_load1 ti22 rfl (.lp _ _ _ rfl) rfl) ?_
                refine son rfl rfl rfl ?_
                obtain ⟨v10, hv10, h⟩ := bind_eq h
                refine scall1 rfl fn60 (opnds_cons rfl (opnds_cons rfl (opnds_cons rfl (opnds_cons rfl opnds_nil)))) (pubA_id rfl) (m60_msg_saneBytes_c hv10) ?_
                refine sv rfl (opv_pick_t rfl rfl) ?_
                refine sv rfl (opv_mv rfl) ?_
                refine ssplit 52 rfl (fun hc => ?_) (fun hc => ?_)
                · replace h := ite_t hc h
                  clear hc
                  refine son rfl rfl rfl ?_
                  refine sv rfl (opv_fieldAddr_lp fi66_5 rfl) ?_
                  refine son rfl rfl rfl ?_
                  refine sv rfl (opv_load1 ti4 rfl (.lp _ _ _ rfl) rfl) ?_
                  refine son rfl rfl rfl ?_
                  refine sv rfl (opv_fieldAddr_lp fi32_7 rfl) ?_
                  refine son rfl rfl rfl ?_
                  refine sv rfl (opv_loadN ti24 rfl (.lp _ _ _ rfl) (Nat.le_of_ble_eq_true rfl)) ?_
                  refine son rfl rfl rfl ?_
                  obtain ⟨v11, hv11, h⟩ := bind_eq h
                  refine scall1 rfl fn61 (opnds_cons rfl (opnds_cons rfl opnds_nil)) (pubA_id rfl) (m61_msg_saneRng_c hv11) ?_
                  refine sv rfl (opv_pick_t rfl rfl) ?_
                  refine sv rfl (opv_as rfl) ?_
                  refine snil ?_
                  refine cret ?_
                  obtain rfl := Option.some.inj h
                  refine ⟨Or.inr rfl, _, _, _, (resVs_cons (ResV.tmp _ _ rfl) resVs_nil), (pubA_id rfl), ?_⟩
                  rfl
                · replace h := ite_f hc h
                  clear hc
                  refine soff rfl rfl rfl rfl ?_
                  refine soff rfl rfl rfl rfl ?_
                  refine soff rfl rfl rfl rfl ?_
                  refine soff rfl rfl rfl rfl ?_
                  refine soff rfl rfl rfl rfl ?_
                  refine sv rfl (opv_pick_f rfl rfl) ?_
                  refine sv rfl (opv_as rfl) ?_
                  refine snil ?_
                  refine cret ?_
                  obtain rfl := Option.some.inj h
                  refine ⟨Or.inr rfl, _, _, _, (resVs_cons (ResV.tmp _ _ rfl) resVs_nil), (pubA_id rfl), ?_⟩
                  rfl
              · replace h := ite_f hc h
                clear hc
                refine soff rfl rfl rfl rfl ?_
                refine soff rfl rfl rfl rfl ?_
                refine soff rfl rfl rfl rfl ?_
                refine soff rfl rfl rfl rfl ?_
                refine soff rfl rfl rfl rfl ?_
                refine sv rfl (opv_pick_f rfl rfl) ?_
                refine sv rfl (opv_mv rfl) ?_
                refine soff rfl rfl rfl rfl ?_
                refine soff rfl rfl rfl rfl ?_
                refine soff rfl rfl rfl rfl ?_
                refine soff rfl rfl rfl rfl ?_
                refine soff rfl rfl rfl rfl ?_
                refine sv rfl (opv_pick_f rfl rfl) ?_
                refine sv rfl (opv_as rfl) ?_
                refine snil ?_
                refine cret ?_
                obtain rfl := Option.some.inj h
                refine ⟨Or.inr rfl, _, _, _, (resVs_cons (ResV.tmp _ _ rfl) resVs_nil), (pubA_id rfl), ?_⟩
                rfl
            · replace h := ite_f hc h
              clear hc
              refine soff rfl rfl rfl rfl ?_
              refine soff rfl rfl rfl rfl ?_
              refine soff rfl rfl rfl rfl ?_
              refine soff rfl rfl rfl rfl ?_
              refine soff rfl rfl rfl rfl ?_
              refine sv rfl (opv_pick_f rfl rfl) ?_
              refine sv rfl (opv_mv rfl) ?_
              refine soff rfl rfl rfl rfl ?_
              refine soff rfl rfl rfl rfl ?_
              refine soff rfl rfl rfl rfl ?_
              refine soff rfl rfl rfl rfl ?_
              refine soff rfl rfl rfl rfl ?_
              refine sv rfl (opv_pick_f rfl rfl) ?_
              refine sv rfl (opv_mv rfl) ?_
              refine soff rfl rfl rfl rfl ?_
              refine soff rfl rfl rfl rfl ?_
              refine soff rfl rfl rfl rfl ?_
              refine soff rfl rfl rfl rfl ?_
              refine soff rfl rfl rfl rfl ?_
              refine sv rfl (opv_pick_f rfl rfl) ?_
              refine sv rfl (opv_as rfl) ?_
              refine snil ?_
              refine cret ?_
              obtain rfl := Option.some.inj h
              refine ⟨Or.inr rfl, _, _, _, (resVs_cons (ResV.tmp _ _ rfl) resVs_nil), (pubA_id rfl), ?_⟩
              rfl
        · replace h := ite_f hc h
          clear hc
          refine soff rfl rfl rfl rfl ?_
          refine soff rfl rfl rfl rfl ?_
          refine soff rfl rfl rfl rfl ?_
          refine soffu rfl rfl rfl ?_
          refine soffu rfl rfl rfl ?_
          refine soffu rfl rfl rfl ?_
          refine soff rfl rfl rfl rfl ?_
          refine sv rfl (opv_pick_f rfl rfl) ?_
          refine sv rfl (opv_mv rfl) ?_
          refine soff rfl rfl rfl rfl ?_
          refine soff rfl rfl rfl rfl ?_
          refine soff rfl rfl rfl rfl ?_
          refine soff rfl rfl rfl rfl ?_
          refine soff rfl rfl rfl rfl ?_
          refine sv rfl (opv_pick_f rfl rfl) ?_
          refine sv rfl (opv_mv rfl) ?_
          refine soff rfl rfl rfl rfl ?_
          refine soff rfl rfl rfl rfl ?_
          refine soff rfl rfl rfl rfl ?_
          refine soff rfl rfl rfl rfl ?_
          refine soff rfl rfl rfl rfl ?_
          refine sv rfl (opv_pick_f rfl rfl) ?_
          refine sv rfl (opv_mv rfl) ?_
          refine soff rfl rfl rfl rfl ?_
          refine soff rfl rfl rfl rfl ?_
          refine soff rfl rfl rfl rfl ?_
          refine soff rfl rfl rfl rfl ?_
          refine soff rfl rfl rfl rfl ?_
          refine sv rfl (opv_pick_f rfl rfl) ?_
          refine sv rfl (opv_as rfl) ?_
          refine snil ?_
          refine cret ?_
          obtain rfl := Option.some.inj h
          refine ⟨Or.inr rfl, _, _, _, (resVs_cons (ResV.tmp _ _ rfl) resVs_nil), (pubA_id rfl), ?_⟩
          rfl
      · replace h := ite_f hc h
        clear hc
        refine soff rfl rfl rfl rfl ?_
        refine soff rfl rfl rfl rfl ?_
        refine soff rfl rfl rfl rfl ?_
        refine soff rfl rfl rfl rfl ?_
        refine soff rfl rfl rfl rfl ?_
        refine sv rfl (opv_pick_f rfl rfl) ?_
        refine sv rfl (opv_mv rfl) ?_
        refine soff rfl rfl rfl rfl ?_
        refine soff rfl rfl rfl rfl ?_
        refine soff rfl rfl rfl rfl ?_
        refine soffu rfl rfl rfl ?_
        refine soffu rfl rfl rfl ?_
        refine soffu rfl rfl rfl ?_
        refine soff rfl rfl rfl rfl ?_
        refine sv rfl (opv_pick_f rfl rfl) ?_
        refine sv rfl (opv_mv rfl) ?_
        refine soff rfl rfl rfl rfl ?_
        refine soff rfl rfl rfl rfl ?_
        refine soff rfl rfl rfl rfl ?_
        refine soff rfl rfl rfl rfl ?_
        refine soff rfl rfl rfl rfl ?_
        refine sv rfl (opv_pick_f rfl rfl) ?_
        refine sv rfl (opv_mv rfl) ?_
        refine soff rfl rfl rfl rfl ?_
        refine soff rfl rfl rfl rfl ?_
        refine soff rfl rfl rfl rfl ?_
        refine soff rfl rfl rfl rfl ?_
        refine soff rfl rfl rfl rfl ?_
        refine sv rfl (opv_pick_f rfl rfl) ?_
        refine sv rfl (opv_mv rfl) ?_
        refine soff rfl rfl rfl rfl ?_
        refine soff rfl rfl rfl rfl ?_
        refine soff rfl rfl rfl rfl ?_
        refine soff rfl rfl rfl rfl ?_
        refine soff rfl rfl rfl rfl ?_
        refine sv rfl (opv_pick_f rfl rfl) ?_
        refine sv rfl (opv_as rfl) ?_
        refine snil ?_
        refine cret ?_
        obtain rfl := Option.some.inj h
        refine ⟨Or.inr rfl, _, _, _, (resVs_cons (ResV.tmp _ _ rfl) resVs_nil), (pubA_id rfl), ?_⟩
        rfl
    · replace h := ite_f hc h
      clear hc
      refine soff rfl rfl rfl rfl ?_
      refine soff rfl rfl rfl rfl ?_
      refine soff rfl rfl rfl rfl ?_
      refine soff rfl rfl rfl rfl ?_
      refine soff rfl rfl rfl rfl ?_
      refine sv rfl (opv_pick_f rfl rfl) ?_
      refine sv rfl (opv_mv rfl) ?_
      refine soff rfl rfl rfl rfl ?_
      refine soff rfl rfl rfl rfl ?_
      refine soff rfl rfl rfl rfl ?_
      refine soff rfl rfl rfl rfl ?_
      refine soff rfl rfl rfl rfl ?_
      refine sv rfl (opv_pick_f rfl rfl) ?_
      refine sv rfl (opv_mv rfl) ?_
      refine soff rfl rfl rfl rfl ?_
      refine soff rfl rfl rfl rfl ?_
      refine soff rfl rfl rfl rfl ?_
      refine soffu rfl rfl rfl ?_
      refine soffu rfl rfl rfl ?_
      refine soffu rfl rfl rfl ?_
      refine soff rfl rfl rfl rfl ?_
      refine sv rfl (opv_pick_f rfl rfl) ?_
      refine sv rfl (opv_mv rfl) ?_
      refine soff rfl rfl rfl rfl ?_
      refine soff rfl rfl rfl rfl ?_
      refine soff rfl rfl rfl rfl ?_
      refine soff rfl rfl rfl rfl ?_
      refine soff rfl rfl rfl rfl ?_
      refine sv rfl (opv_pick_f rfl rfl) ?_
      refine sv rfl (opv_mv rfl) ?_
      refine soff rfl rfl rfl rfl ?_
      refine soff rfl rfl rfl rfl ?_
      refine soff rfl rfl rfl rfl ?_
      refine soff rfl rfl rfl rfl ?_
      refine soff rfl rfl rfl rfl ?_
      refine sv rfl (opv_pick_f rfl rfl) ?_
      refine sv rfl (opv_mv rfl) ?_
      refine soff rfl rfl rfl rfl ?_
      refine soff rfl rfl rfl rfl ?_
      refine soff rfl rfl rfl rfl ?_
      refine soff rfl rfl rfl rfl ?_
      refine soff rfl rfl rfl rfl ?_
      refine sv rfl (opv_pick_f rfl rfl) ?_
      refine sv rfl (opv_as rfl) ?_
      refine snil ?_
      refine cret ?_
      obtain rfl := Option.some.inj h
      refine ⟨Or.inr rfl, _, _, _, (resVs_cons (ResV.tmp _ _ rfl) resVs_nil), (pubA_id rfl), ?_⟩
      rfl
  · replace h := ite_f hc h
    clear hc
    refine soff rfl rfl rfl rfl ?_
    refine soff rfl rfl rfl rfl ?_
    refine soff rfl rfl rfl rfl ?_
    refine sv rfl (opv_pick_f rfl rfl) ?_
    refine sv rfl (opv_mv rfl) ?_
    refine soff rfl rfl rfl rfl ?_
    refine soff rfl rfl rfl rfl ?_
    refine soff rfl rfl rfl rfl ?_
    refine soff rfl rfl rfl rfl ?_
    refine soff rfl rfl rfl rfl ?_
    refine sv rfl (opv_pick_f rfl rfl) ?_
    refine sv rfl (opv_mv rfl) ?_
    refine soff rfl rfl rfl rfl ?_
    refine soff rfl rfl rfl rfl ?_
    refine soff rfl rfl rfl rfl ?_
    refine soff rfl rfl rfl rfl ?_
    refine soff rfl rfl rfl rfl ?_
    refine sv rfl (opv_pick_f rfl rfl) ?_
    refine sv rfl (opv_mv rfl) ?_
    refine soff rfl rfl rfl rfl ?_
    refine soff rfl rfl rfl rfl ?_
    refine soff rfl rfl rfl rfl ?_
    refine soffu rfl rfl rfl ?_
    refine soffu rfl rfl rfl ?_
    refine soffu rfl rfl rfl ?_
    refine soff rfl rfl rfl rfl ?_
    refine sv rfl (opv_pick_f rfl rfl) ?_
    refine sv rfl (opv_mv rfl) ?_
    refine soff rfl rfl rfl rfl ?_
    refine soff rfl rfl rfl rfl ?_
    refine soff rfl rfl rfl rfl ?_
    refine soff rfl rfl rfl rfl ?_
    refine soff rfl rfl rfl rfl ?_
    refine sv rfl (opv_pick_f rfl rfl) ?_
    refine sv rfl (opv_mv rfl) ?_
    refine soff rfl rfl rfl rfl ?_
    refine soff rfl rfl rfl rfl ?_
    refine soff rfl rfl rfl rfl ?_
    refine soff rfl rfl rfl rfl ?_
    refine soff rfl rfl rfl rfl ?_
    refine sv rfl (opv_pick_f rfl rfl) ?_
    refine sv rfl (opv_mv rfl) ?_
    refine soff rfl rfl rfl rfl ?_
    refine soff rfl rfl rfl rfl ?_
    refine soff rfl rfl rfl rfl ?_
    refine soff rfl rfl rfl rfl ?_
    refine soff rfl rfl rfl rfl ?_
    refine sv rfl (opv_pick_f rfl rfl) ?_
    refine sv rfl (opv_as rfl) ?_
    refine snil ?_
    refine cret ?_
    obtain rfl := Option.some.inj h
    refine ⟨Or.inr rfl, _, _, _, (resVs_cons (ResV.tmp _ _ rfl) resVs_nil), (pubA_id rfl), ?_⟩
    rfl

def m76_slices_Growo_k1 (a0 : Int) (b1 : Unit) : Option (List UInt8) :=
  if (decide (0 < (wI (a0 - (wI (0 - 0)))))) then (if 0 < (wI (a0 - (wI (0 - 0)))) ∧ (wI (a0 - (wI (0 - 0)))) * ((1 : Nat) : Int) ≤ 281474976710656 then (if (0 : Int) ≤ 0 ∧ 0 ≤ ((List.replicate (wI (a0 - (wI (0 - 0)))).toNat (0 : UInt8)).length : Int) then (some ((List.replicate (wI (a0 - (wI (0 - 0)))).toNat (0 : UInt8)).take (0 : Int).toNat)) else none) else none) else (some ([] : List UInt8))
def m76_slices_Growo (a0 : Int) : Option (List UInt8) :=
  if (decide (a0 < 0)) then none else (m76_slices_Growo_k1 a0 ())

set_option maxRecDepth 100000 in
theorem m76_slices_Growo_c {a0 : Int} {r : (List UInt8)} (h : m76_slices_Growo a0 = some r) : CallsB Tryd.prog 76 [] [.one (.raw (.slice none 0 0)), .one (.i .i64 a0)] (fun y m' => y = .s (.one (.ls 0 r.length)) ∧ m' = [.arr 5 1 0 (r.flatMap eU8)]) := by
  unfold m76_slices_Growo at h
  refine callsB_of Tryd.func76 rfl (nt := 27) rfl (Nat.le_of_ble_eq_true rfl) ?_
  intro w0 S0 X0 H0
  refine cseq ?_
  refine cregion ?_
  refine sv rfl (opv_as rfl) ?_
  refine snil ?_
  refine cseq ?_
  refine cseq ?_
  refine cregion ?_
  refine sv rfl (opv_mv rfl) ?_
  refine sv rfl (opv_lss rfl rfl) ?_
  refine snil ?_
  refine cjoin (Unit) (fun b1 => [(0, .s (.one (.raw (.slice none 0 0)))), (1, .s (.one (.i .i64 a0)))]) (fun b1 => []) (fun b1 => m76_slices_Growo_k1 a0 b1 = some r) (fun _ _ => inbL_of rfl) (fun _ _ => blkinb_of rfl) (fun _ _ => Nat.le_of_ble_eq_true rfl) (fun b1 h => ?_) ?_
  · unfold m76_slices_Growo_k1 at h
    refine cseq ?_
    refine cseq ?_
    refine cregion ?_
    refine sv rfl (opv_mv rfl) ?_
    refine sv rfl (opv_mv rfl) ?_
    refine sv rfl (opv_cap_nil si22 rfl) ?_
    refine sv rfl (opv_mv rfl) ?_
    refine sv rfl (opv_len_nil si22 rfl) ?_
    refine sv rfl (opv_sub rfl rfl) ?_
    refine sv rfl (opv_sub rfl rfl) ?_
    refine sv rfl (opv_as rfl) ?_
    refine snil ?_
    refine cseq ?_
    refine cregion ?_
    refine sv rfl (opv_mv rfl) ?_
    refine sv rfl (opv_gtr rfl rfl) ?_
    refine snil ?_
    refine ccond rfl (fun hc => ?_) (fun hc => ?_)
    · replace h := ite_t hc h
      clear hc
      refine cregion ?_
      refine sv rfl (opv_mv rfl) ?_
      refine sv rfl (opv_mv rfl) ?_
      refine sv rfl (opv_cap_nil si22 rfl) ?_
      refine sv rfl (opv_slice_nil si22 rfl rfl) ?_
      refine sv rfl (opv_mv rfl) ?_
      obtain ⟨hm2, h⟩ := chk_eq h
      refine sappz (f := eU8) (z := (0 : UInt8)) rfl Tryd.underlying22 ei5 Tryd.underlying3 (fun _ => rfl) rfl rfl rfl hm2 (by decide) ?_
      refine sv rfl (opv_mv rfl) ?_
      refine sv rfl (opv_len_nil si22 rfl) ?_
      obtain ⟨hs3, h⟩ := chk_eq h
      refine strunc (f := eU8) rfl si22 (fun _ => rfl) rfl rfl rfl rfl rfl hs3 ?_
      refine sv rfl (opv_as rfl) ?_
      refine snil ?_
      refine cseq ?_
      refine cregion ?_
      refine sv rfl (opv_mv rfl) ?_
      refine sv rfl (opv_as rfl) ?_
      refine snil ?_
      refine cret ?_
      obtain rfl := Option.some.inj h
      exact ⟨Or.inr rfl, _, [1], [.one (.ls 0 ((List.replicate (wI (a0 - (wI (0 - 0)))).toNat (0 : UInt8)).take (0 : Int).toNat).length)], [.arr 5 1 0 (((List.replicate (wI (a0 - (wI (0 - 0)))).toNat (0 : UInt8)).take (0 : Int).toNat).flatMap eU8)], (resVs_cons (ResV.tmp _ _ rfl) resVs_nil), rfl, rfl, ⟨by decide, rfl⟩, rfl, rfl, ⟨rfl, rfl⟩⟩
    · replace h := ite_f hc h
      clear hc
      refine cskip ?_
      refine then_normal ?_
      refine cseq ?_
      refine cregion ?_
      refine sv rfl (opv_mv rfl) ?_
      refine sv rfl (opv_as rfl) ?_
      refine snil ?_
      refine sadopt_c 5 1 4 (by decide) rfl ?_
      refine cret ?_
      obtain rfl := Option.some.inj h
      exact ⟨Or.inr rfl, _, [0], [.one (.ls 0 ([] : List UInt8).length)], [.arr 5 1 0 (([] : List UInt8).flatMap eU8)], (resVs_cons (ResV.tmp _ _ rfl) resVs_nil), rfl, rfl, ⟨by decide, rfl⟩, rfl, rfl, ⟨rfl, rfl⟩⟩
  · skip
    refine ccond rfl (fun hc => ?_) (fun hc => ?_)
    · replace h := ite_t hc h
      clear hc
      cases h
    · replace h := ite_f hc h
      clear hc
      refine cskip ?_
      refine then_normal ?_
      exact ⟨(), _, h, ⟨rfl, rfl, trivial⟩, rfl⟩

def m69_slices_Concato_k3 (b3 : (List UInt8)) : Option (List UInt8) :=
  some b3

def m69_slices_Concato_s4 (a0 : List (List UInt8)) (s4 : Int × (List UInt8)) : Option (LB (Int × (List UInt8)) ((List UInt8))) :=
  if (decide (s4.1 < (a0.length : Int))) then ((idx a0 s4.1).bind fun u5 => if (s4.2.length + u5.length) * 1 ≤ 140737488355328 then (some (.cont ((wI (s4.1 + 1)), (s4.2 ++ u5)))) else none) else (some (.brk s4.2))

def m69_slices_Concato_k1 (a0 : List (List UInt8)) (b1 : Int) : Option (List UInt8) :=
  (m76_slices_Growo b1).bind fun v2 => (iterB (m69_slices_Concato_s4 a0) fuel (0, v2)).bind fun e7 => m69_slices_Concato_k3 e7

def m69_slices_Concato_s8 (a0 : List (List UInt8)) (s8 : Int × Int) : Option (LB (Int × Int) (Int)) :=
  if (decide (s8.2 < (a0.length : Int))) then ((idx a0 s8.2).bind fun u9 => if (decide ((wI (s8.1 + (u9.length : Int))) < 0)) then none else (some (.cont ((wI (s8.1 + (u9.length : Int))), (wI (s8.2 + 1)))))) else (some (.brk s8.1))
def m69_slices_Concato (a0 : List (List UInt8)) : Option (List UInt8) :=
  (iterB (m69_slices_Concato_s8 a0) fuel (0, 0)).bind fun e10 => m69_slices_Concato_k1 a0 e10

set_option maxRecDepth 100000 in
theorem m69_slices_Concato_c {a0 : List (List UInt8)} {r : (List UInt8)} (h : m69_slices_Concato a0 = some r) : CallsB Tryd.prog 69 [] [.one (.sl a0.length (a0.flatMap (eL eU8)))] (fun y m' => y = .s (.one (.ls 0 r.length)) ∧ m' = [.arr 5 1 0 (r.flatMap eU8)]) := by
  unfold m69_slices_Concato at h
  refine callsB_of Tryd.func69 rfl (nt := 36) rfl (Nat.le_of_ble_eq_true rfl) ?_
  intro w0 S0 X0 H0
  refine cseq ?_
  refine cregion ?_
  refine sv rfl (opv_as rfl) ?_
  refine snil ?_
  refine cseq ?_
  refine cregion ?_
  refine sv rfl (opv_as rfl) ?_
  refine snil ?_
  refine cseq ?_
  refine cseq ?_
  refine cregion ?_
  refine sv rfl (opv_mv rfl) ?_
  refine sv rfl (opv_len_sl si106 rfl) ?_
  refine sv rfl (opv_mv rfl) ?_
  refine snil ?_
  refine cjoin (Int) (fun b1 => [(0, .s (.one (.sl a0.length (a0.flatMap (eL eU8))))), (3, .s (.one (.i .i64 b1)))]) (fun b1 => []) (fun b1 => m69_slices_Concato_k1 a0 b1 = some r) (fun _ _ => inbL_of rfl) (fun _ _ => blkinb_of rfl) (fun _ _ => Nat.le_of_ble_eq_true rfl) (fun b1 h => ?_) ?_
  · unfold m69_slices_Concato_k1 at h
    refine cseq ?_
    refine cregion ?_
    refine sv rfl (opv_mv rfl) ?_
    obtain ⟨v2, hv2, h⟩ := bind_eq h
    refine scallB (x' := .s (.one (.ls 0 v2.length))) (M' := [.arr 5 1 0 (v2.flatMap eU8)]) [] rfl fn76 (.func _) (opnds_cons rfl (opnds_cons rfl opnds_nil)) (m76_slices_Growo_c hv2) rfl rfl (by decide) rfl rfl rfl ?_
    refine sv rfl (opv_as rfl) ?_
    refine snil ?_
    refine cseq ?_
    refine cseq ?_
    refine cregion ?_
    refine sv rfl (opv_mv rfl) ?_
    refine sv rfl (opv_len_sl si106 rfl) ?_
    refine sv rfl (opv_mv rfl) ?_
    refine snil ?_
    refine cjoin ((List UInt8)) (fun b3 => [(6, .s (.one (.ls 0 b3.length)))]) (fun b3 => [.arr 5 1 0 (b3.flatMap eU8)]) (fun b3 => m69_slices_Concato_k3 b3 = some r) (fun _ _ => inbL_of rfl) (fun _ _ => blkinb_of rfl) (fun _ _ => Nat.le_of_ble_eq_true rfl) (fun b3 h => ?_) ?_
    · unfold m69_slices_Concato_k3 at h
      refine cseq ?_
      refine cregion ?_
      refine sv rfl (opv_mv rfl) ?_
      refine sv rfl (opv_as rfl) ?_
      refine snil ?_
      refine cret ?_
      obtain rfl := Option.some.inj h
      exact ⟨Or.inr rfl, _, [0], [.one (.ls 0 b3.length)], [.arr 5 1 0 (b3.flatMap eU8)], (resVs_cons (ResV.tmp _ _ rfl) resVs_nil), rfl, rfl, ⟨by decide, rfl⟩, rfl, rfl, ⟨rfl, rfl⟩⟩
    · skip
      refine cblock ?_
      obtain ⟨x4, hx4, ho4⟩ := bind_eq h
      refine awc_loop (G := Nat × (Int × (List UInt8))) (fun g => [(6, .s (.one (.ls 0 g.2.2.length))), (25, .s (.one (.sl a0.length (a0.flatMap (eL eU8))))), (26, .s (.one (.i .i64 (a0.length : Int)))), (27, .s (.one (.i .i64 g.2.1)))]) (fun g => [.arr 5 1 0 (g.2.2.flatMap eU8)]) (fun g => iterB (m69_slices_Concato_s4 a0) g.1 g.2 = some x4) (fun g => g.1) (fuel, (0, v2)) hx4 ⟨rfl, rfl, rfl, rfl, trivial⟩ [] rfl (fun _ _ => inbL_of rfl) (fun _ _ => blkinb_of rfl) (fun _ _ => Nat.le_of_ble_eq_true rfl) ?_
      clear hx4 h
      rintro ⟨n4, s4⟩ h
      obtain ⟨n4, y4, rfl, h, hk4⟩ := iterB_eq h
      unfold m69_slices_Concato_s4 at h
      refine cseq ?_
      refine cregion ?_
      refine sv rfl (opv_lss rfl rfl) ?_
      refine snil ?_
      refine cseq ?_
      refine ccond rfl (fun hc => ?_) (fun hc => ?_)
      · replace h := ite_t hc h
        clear hc
        refine cskip ?_
        refine then_normal ?_
        refine cseq ?_
        refine cblock ?_
        refine cseq ?_
        refine cregion ?_
        obtain ⟨u5, hu5, h⟩ := bind_eq h
        refine sv rfl (opv_ix (f := (eL eU8)) si106 (fun _ => rfl) rfl rfl rfl rfl hu5) ?_
        refine sv rfl (opv_load1 ti22 rfl (.cp _) rfl) ?_
        refine sv rfl (opv_as rfl) ?_
        refine snil ?_
        refine cregion ?_
        refine sv rfl (opv_mv rfl) ?_
        refine sv rfl (opv_mv rfl) ?_
        obtain ⟨hb6, h⟩ := chk_eq h
        refine sapp (f := eU8) (xs := s4.2) (us := u5) rfl Tryd.underlying22 ei5 ni22 (fun _ => rfl) rfl rfl (.one _ _ _ _ (.id _ rfl)) rfl rfl rfl (.sl _ _ _ (flat_len (f := eU8) (fun _ => rfl) _)) rfl rfl hb6 (by decide) ?_
        refine sv rfl (opv_as rfl) ?_
        refine snil0 ?_
        refine block_normal ?_
        refine then_normal ?_
        refine cregion ?_
        refine sv rfl (opv_add rfl rfl) ?_
        refine sv rfl (opv_mv rfl) ?_
        refine snil ?_
        obtain rfl := Option.some.inj h
        exact ⟨(n4, ((wI (s4.1 + 1)), (s4.2 ++ u5))), _, hk4, ⟨rfl, rfl, rfl, rfl, trivial⟩, rfl, Nat.lt_succ_self _⟩
      · replace h := ite_f hc h
        clear hc
        refine cexit ?_
        refine then_exit ?_
        refine then_exit ?_
        refine block_hit ?_
        refine then_normal ?_
        obtain rfl := Option.some.inj h
        obtain rfl : _ = x4 := hk4
        exact ⟨s4.2, _, ho4, ⟨rfl, trivial⟩, rfl⟩
  · skip
    refine cblock ?_
    obtain ⟨x8, hx8, ho8⟩ := bind_eq h
    refine awc_loop (G := Nat × (Int × Int)) (fun g => [(0, .s (.one (.sl a0.length (a0.flatMap (eL eU8))))), (3, .s (.one (.i .i64 g.2.1))), (9, .s (.one (.sl a0.length (a0.flatMap (eL eU8))))), (10, .s (.one (.i .i64 (a0.length : Int)))), (11, .s (.one (.i .i64 g.2.2)))]) (fun g => []) (fun g => iterB (m69_slices_Concato_s8 a0) g.1 g.2 = some x8) (fun g => g.1) (fuel, (0, 0)) hx8 ⟨rfl, rfl, rfl, rfl, rfl, trivial⟩ [] rfl (fun _ _ => inbL_of rfl) (fun _ _ => blkinb_of rfl) (fun _ _ => Nat.le_of_ble_eq_true rfl) ?_
    clear hx8 h
    rintro ⟨n8, s8⟩ h
    obtain ⟨n8, y8, rfl, h, hk8⟩ := iterB_eq h
    unfold m69_slices_Concato_s8 at h
    refine cseq ?_
    refine cregion ?_
    refine sv rfl (opv_lss rfl rfl) ?_
    refine snil ?_
    refine cseq ?_
    refine ccond rfl (fun hc => ?_) (fun hc => ?_)
    · replace h := ite_t hc h
      clear hc
      refine cskip ?_
      refine then_normal ?_
      refine cseq ?_
      refine cblock ?_
      refine cseq ?_
      refine cregion ?_
      obtain ⟨u9, hu9, h⟩ := bind_eq h
      refine sv rfl (opv_ix (f := (eL eU8)) si106 (fun _ => rfl) rfl rfl rfl rfl hu9) ?_
      refine sv rfl (opv_load1 ti22 rfl (.cp _) rfl) ?_
      refine sv rfl (opv_as rfl) ?_
      refine snil ?_
      refine cseq ?_
      refine cregion ?_
      refine sv rfl (opv_mv rfl) ?_
      refine sv rfl (opv_mv rfl) ?_
      refine sv rfl (opv_len_sl si22 rfl) ?_
      refine sv rfl (opv_add rfl rfl) ?_
      refine sv rfl (opv_as rfl) ?_
      refine snil ?_
      refine cseq ?_
      refine cregion ?_
      refine sv rfl (opv_mv rfl) ?_
      refine sv rfl (opv_lss rfl rfl) ?_
      refine snil ?_
      refine ccond rfl (fun hc => ?_) (fun hc => ?_)
      · replace h := ite_t hc h
        clear hc
        cases h
      · replace h := ite_f hc h
        clear hc
        refine cskip ?_
        refine block_normal ?_
        refine then_normal ?_
        refine cregion ?_
        refine sv rfl (opv_add rfl rfl) ?_
        refine sv rfl (opv_mv rfl) ?_
        refine snil ?_
        obtain rfl := Option.some.inj h
        exact ⟨(n8, ((wI (s8.1 + (u9.length : Int))), (wI (s8.2 + 1)))), _, hk8, ⟨rfl, rfl, rfl, rfl, rfl, trivial⟩, rfl, Nat.lt_succ_self _⟩
    · replace h := ite_f hc h
      clear hc
      refine cexit ?_
      refine then_exit ?_
      refine then_exit ?_
      refine block_hit ?_
      refine then_normal ?_
      obtain rfl := Option.some.inj h
      obtain rfl : _ = x8 := hk8
      exact ⟨s8.1, _, ho8, ⟨rfl, rfl, trivial⟩, rfl⟩

def m33_enc_U_k2 (a0 : List UInt8) (b2 : (List UInt8)) : Option (List UInt8) :=
  (m69_slices_Concato [a0, b2]).bind fun v3 => some v3

def m33_enc_U_s4 (a1 : BitVec 64) (a2 : Int) (s4 : Int × (List UInt8)) : Option (LB (Int × (List UInt8)) ((List UInt8))) :=
  if (decide (s4.1 < ((List.replicate (if (if 8 < a2 then 8 else a2) > 0 then (if 8 < a2 then 8 else a2) else 0).toNat (0 : UInt8)).length : Int))) then (if 0 ≤ (wI (8 * s4.1)) then ((idx s4.2 s4.1).bind fun u6 => some (.cont ((wI (s4.1 + 1)), (s4.2.set s4.1.toNat (UInt8.ofBitVec ((a1 >>> (wI (8 * s4.1)).toNat).setWidth 8)))))) else none) else (some (.brk s4.2))
def m33_enc_U (a0 : List UInt8) (a1 : BitVec 64) (a2 : Int) : Option (List UInt8) :=
  if (0 : Int) ≤ (if (if 8 < a2 then 8 else a2) > 0 then (if 8 < a2 then 8 else a2) else 0) ∧ (if (if 8 < a2 then 8 else a2) > 0 then (if 8 < a2 then 8 else a2) else 0) ≤ (if (if 8 < a2 then 8 else a2) > 0 then (if 8 < a2 then 8 else a2) else 0) ∧ ((1 : Nat) : Int) * (if (if 8 < a2 then 8 else a2) > 0 then (if 8 < a2 then 8 else a2) else 0) ≤ 281474976710656 then ((iterB (m33_enc_U_s4 a1 a2) fuel (0, (List.replicate (if (if 8 < a2 then 8 else a2) > 0 then (if 8 < a2 then 8 else a2) else 0).toNat (0 : UInt8)))).bind fun e7 => m33_enc_U_k2 a0 e7) else none

set_option maxRecDepth 100000 in
theorem m33_enc_U_c {a0 : List UInt8} {a1 : BitVec 64} {a2 : Int} {r : (List UInt8)} (h : m33_enc_U a0 a1 a2 = some r) : CallsA Tryd.prog 33 [.one (.sl a0.length (a0.flatMap eU8)), .one (.i .u64 (a1.toNat : Int)), .one (.i .i64 a2)] (· = .s (.one (.sl r.length (r.flatMap eU8)))) := by
  unfold m33_enc_U at h
  refine callsA_of Tryd.func33 rfl (nt := 32) rfl (Nat.le_of_ble_eq_true rfl) ?_
  intro w0 S0
  refine cseq ?_
  refine cregion ?_
  refine sv rfl (opv_as rfl) ?_
  refine snil ?_
  refine cseq ?_
  refine cregion ?_
  refine sv rfl (opv_mv rfl) ?_
  refine sv rfl (opv_min rfl rfl) ?_
  refine sv rfl (opv_max rfl rfl) ?_
  refine sv rfl (opv_as rfl) ?_
  refine snil ?_
  refine cseq ?_
  refine cregion ?_
  refine sv rfl (opv_mv rfl) ?_
  obtain ⟨hm1, h⟩ := chk_eq h
  refine smk (f := eU8) (z := (0 : UInt8)) rfl Tryd.underlying22 ei5 (fun _ => rfl) rfl rfl rfl hm1 (by decide) ?_
  refine sv rfl (opv_as rfl) ?_
  refine snil ?_
  refine cseq ?_
  refine cseq ?_
  refine cregion ?_
  refine sv rfl (opv_mv rfl) ?_
  refine sv rfl (opv_len_ls si22 rfl rfl (flat_len (f := eU8) (fun _ => rfl) _).symm) ?_
  refine sv rfl (opv_mv rfl) ?_
  refine snil ?_
  refine cjoin ((List UInt8)) (fun b2 => [(0, .s (.one (.sl a0.length (a0.flatMap eU8)))), (7, .s (.one (.ls 0 b2.length)))]) (fun b2 => [.arr 5 1 0 (b2.flatMap eU8)]) (fun b2 => m33_enc_U_k2 a0 b2 = some r) (fun _ _ => inbL_of rfl) (fun _ _ => blkinb_of rfl) (fun _ _ => Nat.le_of_ble_eq_true rfl) (fun b2 h => ?_) ?_
  · unfold m33_enc_U_k2 at h
    refine cseq ?_
    refine cregion ?_
    refine sv rfl (opv_mv rfl) ?_
    refine sv rfl (opv_mv rfl) ?_
    refine spub 29 rfl (by (repeat' first | exact PubA.nil _ | apply PubA.cons | apply PubV.one | apply PubV.agg | exact PubL.nil | exact PubL.ls _ _ _ _ _ _ rfl (flat_len (f := eU8) (fun _ => rfl) _).symm | exact PubL.id _ rfl | exact PubLs.nil _ | apply PubLs.cons)) ?_
    refine sbuildN (out := ([a0, b2] : List (List UInt8)).flatMap (eL eU8)) rfl Tryd.underlying106 ei22 (parts_cons rfl (parts_cons rfl parts_nil)) (.cons _ _ _ _ _ _ _ rfl rfl (Nat.le_of_ble_eq_true rfl) (.cons _ _ _ _ _ _ _ rfl rfl (Nat.le_of_ble_eq_true rfl) (.nil _))) rfl (by decide) ?_
    refine spub 30 rfl (by (repeat' first | exact PubA.nil _ | apply PubA.cons | apply PubV.one | apply PubV.agg | exact PubL.nil | exact PubL.ls _ _ _ _ _ _ rfl (flat_len (f := (eL eU8)) (fun _ => rfl) ([a0, b2] : List (List UInt8))).symm | exact PubL.ls _ _ _ _ _ _ rfl (flat_len (f := (eL eU8)) (fun _ => rfl) _).symm | exact PubL.ls _ _ _ _ _ _ rfl (flat_len (f := eU8) (fun _ => rfl) _).symm | exact PubL.id _ rfl | exact PubLs.nil _ | apply PubLs.cons)) ?_
    obtain ⟨v3, hv3, h⟩ := bind_eq h
    refine scallB (x' := .s (.one (.ls 2 v3.length))) (M' := [.arr 5 1 (b2.flatMap eU8).length (b2.flatMap eU8), .arr 22 1 ([a0, b2].flatMap (eL eU8)).length ([a0, b2].flatMap (eL eU8)), .arr 5 1 0 (v3.flatMap eU8)]) [] rfl fn69 (.func _) (opnds_cons rfl opnds_nil) (m69_slices_Concato_c hv3) rfl rfl (by decide) rfl rfl rfl ?_
    refine sv rfl (opv_as rfl) ?_
    refine snil ?_
    refine cret ?_
    obtain rfl := Option.some.inj h
    refine ⟨Or.inr rfl, _, _, _, (resVs_cons (ResV.tmp _ _ rfl) resVs_nil), (by (repeat' first | exact PubA.nil _ | apply PubA.cons | apply PubV.one | apply PubV.agg | exact PubL.nil | exact PubL.ls _ _ _ _ _ _ rfl (flat_len (f := (eL eU8)) (fun _ => rfl) _).symm | exact PubL.ls _ _ _ _ _ _ rfl (flat_len (f := eU8) (fun _ => rfl) _).symm | exact PubL.id _ rfl | exact PubLs.nil _ | apply PubLs.cons)), ?_⟩
    rfl
  · skip
    refine cblock ?_
    obtain ⟨x4, hx4, ho4⟩ := bind_eq h
    refine awc_loop (G := Nat × (Int × (List UInt8))) (fun g => [(0, .s (.one (.sl a0.length (a0.flatMap eU8)))), (1, .s (.one (.i .u64 (a1.toNat : Int)))), (7, .s (.one (.ls 0 g.2.2.length))), (15, .s (.one (.i .i64 ((List.replicate (if (if 8 < a2 then 8 else a2) > 0 then (if 8 < a2 then 8 else a2) else 0).toNat (0 : UInt8)).length : Int)))), (16, .s (.one (.i .i64 g.2.1)))]) (fun g => [.arr 5 1 0 (g.2.2.flatMap eU8)]) (fun g => iterB (m33_enc_U_s4 a1 a2) g.1 g.2 = some x4) (fun g => g.1) (fuel, (0, (List.replicate (if (if 8 < a2 then 8 else a2) > 0 then (if 8 < a2 then 8 else a2) else 0).toNat (0 : UInt8)))) hx4 ⟨rfl, rfl, rfl, rfl, rfl, trivial⟩ [] rfl (fun _ _ => inbL_of rfl) (fun _ _ => blkinb_of rfl) (fun _ _ => Nat.le_of_ble_eq_true rfl) ?_
    clear hx4 h
    rintro ⟨n4, s4⟩ h
    obtain ⟨n4, y4, rfl, h, hk4⟩ := iterB_eq h
    unfold m33_enc_U_s4 at h
    refine cseq ?_
    refine cregion ?_
    refine sv rfl (opv_lss rfl rfl) ?_
    refine snil ?_
    refine cseq ?_
    refine ccond rfl (fun hc => ?_) (fun hc => ?_)
    · replace h := ite_t hc h
      clear hc
      refine cskip ?_
      refine then_normal ?_
      refine cseq ?_
      refine cblock ?_
      refine cseq ?_
      refine cregion ?_
      refine sv rfl (opv_mv rfl) ?_
      refine sv rfl (opv_as rfl) ?_
      refine snil ?_
      refine cregion ?_
      refine sv rfl (opv_mv rfl) ?_
      refine sv rfl (opv_mv rfl) ?_
      refine sv rfl (opv_mv rfl) ?_
      refine sv rfl (opv_mv rfl) ?_
      refine sv rfl (opv_mul rfl rfl) ?_
      obtain ⟨hz5, h⟩ := chk_eq h
      refine sv rfl (opv_shr_u64 (a := a1) rfl rfl rfl hz5) ?_
      refine sv rfl (opv_conv_bv (k := .u64) (a := (a1 >>> (wI (8 * s4.1)).toNat)) rfl Tryd.underlying69 Tryd.underlying5 rfl rfl) ?_
      obtain ⟨u6, hu6, h⟩ := bind_eq h
      refine sv rfl (opv_ixo (f := eU8) si22 (fun _ => rfl) rfl rfl rfl rfl rfl hu6) ?_
      refine sseto (f := eU8) (u' := (UInt8.ofBitVec ((a1 >>> (wI (8 * s4.1)).toNat).setWidth 8))) (sz := 1) 0 sz5 (fun _ => rfl) rfl rfl rfl rfl rfl rfl rfl (List.all_eq_true.1 rfl) (idx_eq hu6).2 (Nat.le_of_ble_eq_true rfl) rfl ?_
      refine stell 7 (y := .s (.one (.ls 0 s4.2.length))) (.s (.one (.ls 0 (s4.2.set s4.1.toNat (UInt8.ofBitVec ((a1 >>> (wI (8 * s4.1)).toNat).setWidth 8))).length))) rfl (congrArg (fun n => AV.s (.one (.ls 0 n))) List.length_set.symm) ?_
      refine stell 19 (y := .s (.one (.ls 0 s4.2.length))) (.s (.one (.ls 0 (s4.2.set s4.1.toNat (UInt8.ofBitVec ((a1 >>> (wI (8 * s4.1)).toNat).setWidth 8))).length))) rfl (congrArg (fun n => AV.s (.one (.ls 0 n))) List.length_set.symm) ?_
      refine snil0 ?_
      refine block_normal ?_
      refine then_normal ?_
      refine cregion ?_
      refine sv rfl (opv_add rfl rfl) ?_
      refine sv rfl (opv_mv rfl) ?_
      refine snil ?_
      obtain rfl := Option.some.inj h
      exact ⟨(n4, ((wI (s4.1 + 1)), (s4.2.set s4.1.toNat (UInt8.ofBitVec ((a1 >>> (wI (8 * s4.1)).toNat).setWidth 8))))), _, hk4, ⟨rfl, rfl, rfl, rfl, rfl, trivial⟩, rfl, Nat.lt_succ_self _⟩
    · replace h := ite_f hc h
      clear hc
      refine cexit ?_
      refine then_exit ?_
      refine then_exit ?_
      refine block_hit ?_
      refine then_normal ?_
      obtain rfl := Option.some.inj h
      obtain rfl : _ = x4 := hk4
      exact ⟨s4.2, _, ho4, ⟨rfl, rfl, trivial⟩, rfl⟩

def m34_msg_putFlag (a0 : List UInt8) (a1 : Bool) : Option (List UInt8) :=
  if a1 then ((m33_enc_U a0 (1#64) 1).bind fun v1 => some v1) else ((m33_enc_U a0 (0#64) 1).bind fun v2 => some v2)

set_option maxRecDepth 100000 in
theorem m34_msg_putFlag_c {a0 : List UInt8} {a1 : Bool} {r : (List UInt8)} (h : m34_msg_putFlag a0 a1 = some r) : CallsA Tryd.prog 34 [.one (.sl a0.length (a0.flatMap eU8)), .one (.b a1)] (· = .s (.one (.sl r.length (r.flatMap eU8)))) := by
  unfold m34_msg_putFlag at h
  refine callsA_of Tryd.func34 rfl (nt := 10) rfl (Nat.le_of_ble_eq_true rfl) ?_
  intro w0 S0
  refine cseq ?_
  refine cregion ?_
  refine sv rfl (opv_as rfl) ?_
  refine snil ?_
  refine cseq ?_
  refine cseq ?_
  refine cregion ?_
  refine sv rfl (opv_mv rfl) ?_
  refine snil ?_
  refine ccond rfl (fun hc => ?_) (fun hc => ?_)
  · replace h := ite_t hc h
    clear hc
    refine cseq ?_
    refine cregion ?_
    refine sv rfl (opv_mv rfl) ?_
    obtain ⟨v1, hv1, h⟩ := bind_eq h
    refine scall1 rfl fn33 (opnds_cons rfl (opnds_cons rfl (opnds_cons rfl opnds_nil))) (pubA_id rfl) (m33_enc_U_c hv1) ?_
    refine sv rfl (opv_as rfl) ?_
    refine snil ?_
    refine cret ?_
    refine then_ret ?_
    obtain rfl := Option.some.inj h
    refine ⟨Or.inr rfl, _, _, _, (resVs_cons (ResV.tmp _ _ rfl) resVs_nil), (pubA_id rfl), ?_⟩
    rfl
  · replace h := ite_f hc h
    clear hc
    refine cskip ?_
    refine then_normal ?_
    refine cseq ?_
    refine cregion ?_
    refine sv rfl (opv_mv rfl) ?_
    obtain ⟨v2, hv2, h⟩ := bind_eq h
    refine scall1 rfl fn33 (opnds_cons rfl (opnds_cons rfl (opnds_cons rfl opnds_nil))) (pubA_id rfl) (m33_enc_U_c hv2) ?_
    refine sv rfl (opv_as rfl) ?_
    refine snil ?_
    refine cret ?_
    obtain rfl := Option.some.inj h
    refine ⟨Or.inr rfl, _, _, _, (resVs_cons (ResV.tmp _ _ rfl) resVs_nil), (pubA_id rfl), ?_⟩
    rfl

def m35_enc_List (a0 : List UInt8) (a1 : List UInt8) : Option (List UInt8) :=
  (cut a1 0 (if 65535 < (a1.length : Int) then 65535 else (a1.length : Int))).bind fun c1 => (m33_enc_U a0 (BitVec.ofInt 64 (c1.length : Int)) 2).bind fun v2 => (m69_slices_Concato [v2, c1]).bind fun v3 => some v3

set_option maxRecDepth 100000 in
theorem m35_enc_List_c {a0 : List UInt8} {a1 : List UInt8} {r : (List UInt8)} (h : m35_enc_List a0 a1 = some r) : CallsA Tryd.prog 35 [.one (.sl a0.length (a0.flatMap eU8)), .one (.sl a1.length (a1.flatMap eU8))] (· = .s (.one (.sl r.length (r.flatMap eU8)))) := by
  unfold m35_enc_List at h
  refine callsA_of Tryd.func35 rfl (nt := 18) rfl (Nat.le_of_ble_eq_true rfl) ?_
  intro w0 S0
  refine cseq ?_
  refine cregion ?_
  refine sv rfl (opv_as rfl) ?_
  refine snil ?_
  refine cseq ?_
  refine cregion ?_
  refine sv rfl (opv_mv rfl) ?_
  refine sv rfl (opv_mv rfl) ?_
  refine sv rfl (opv_len_sl si22 rfl) ?_
  refine sv rfl (opv_min rfl rfl) ?_
  obtain ⟨c1, hc1, h⟩ := bind_eq h
  refine sv rfl (opv_cut (f := eU8) (lo := 0) (hi := (if 65535 < (a1.length : Int) then 65535 else (a1.length : Int))) si22 (fun _ => rfl) rfl rfl rfl bound_none (bound_some rfl (Int.le_trans (cut_eq hc1).1.1 (cut_eq hc1).1.2.1)) hc1) ?_
  refine sv rfl (opv_as rfl) ?_
  refine snil ?_
  refine cseq ?_
  refine cregion ?_
  refine sv rfl (opv_mv rfl) ?_
  refine sv rfl (opv_mv rfl) ?_
  refine sv rfl (opv_len_sl si22 rfl) ?_
  refine sv rfl (opv_conv_ibv rfl Tryd.underlying3 Tryd.underlying69 rfl) ?_
  obtain ⟨v2, hv2, h⟩ := bind_eq h
  refine scall1 rfl fn33 (opnds_cons rfl (opnds_cons rfl (opnds_cons rfl opnds_nil))) (pubA_id rfl) (m33_enc_U_c hv2) ?_
  refine sv rfl (opv_mv rfl) ?_
  refine sbuildN (out := ([v2, c1] : List (List UInt8)).flatMap (eL eU8)) rfl Tryd.underlying106 ei22 (parts_cons rfl (parts_cons rfl parts_nil)) (.cons _ _ _ _ _ _ _ rfl rfl (Nat.le_of_ble_eq_true rfl) (.cons _ _ _ _ _ _ _ rfl rfl (Nat.le_of_ble_eq_true rfl) (.nil _))) rfl (by decide) ?_
  refine spub 16 rfl (by (repeat' first | exact PubA.nil _ | apply PubA.cons | apply PubV.one | apply PubV.agg | exact PubL.nil | exact PubL.ls _ _ _ _ _ _ rfl (flat_len (f := (eL eU8)) (fun _ => rfl) ([v2, c1] : List (List UInt8))).symm | exact PubL.ls _ _ _ _ _ _ rfl (flat_len (f := (eL eU8)) (fun _ => rfl) _).symm | exact PubL.id _ rfl | exact PubLs.nil _ | apply PubLs.cons)) ?_
  obtain ⟨v3, hv3, h⟩ := bind_eq h
  refine scallB (x' := .s (.one (.ls 1 v3.length))) (M' := [.arr 22 1 ([v2, c1].flatMap (eL eU8)).length ([v2, c1].flatMap (eL eU8)), .arr 5 1 0 (v3.flatMap eU8)]) [] rfl fn69 (.func _) (opnds_cons rfl opnds_nil) (m69_slices_Concato_c hv3) rfl rfl (by decide) rfl rfl rfl ?_
  refine sv rfl (opv_as rfl) ?_
  refine snil ?_
  refine cret ?_
  obtain rfl := Option.some.inj h
  refine ⟨Or.inr rfl, _, _, _, (resVs_cons (ResV.tmp _ _ rfl) resVs_nil), (by (repeat' first | exact PubA.nil _ | apply PubA.cons | apply PubV.one | apply PubV.agg | exact PubL.nil | exact PubL.ls _ _ _ _ _ _ rfl (flat_len (f := (eL eU8)) (fun _ => rfl) _).symm | exact PubL.ls _ _ _ _ _ _ rfl (flat_len (f := eU8) (fun _ => rfl) _).symm | exact PubL.id _ rfl | exact PubLs.nil _ | apply PubLs.cons)), ?_⟩
  rfl

def m11_msg_PutReq_k10 (b10 : (List UInt8)) : Option ((List UInt8) × Int) :=
  some (b10, 0)

def m11_msg_PutReq_k9 (a0 : GMsgReq) (v2 : GMsgParts) (b9 : (List UInt8)) : Option ((List UInt8) × Int) :=
  if v2.rng_ then ((m35_enc_List b9 a0.Rng.Lo).bind fun v11 => (m34_msg_putFlag v11 a0.Rng.Open).bind fun v12 => (m35_enc_List v12 a0.Rng.Hi).bind fun v13 => m11_msg_PutReq_k10 v13) else (m11_msg_PutReq_k10 b9)

def m11_msg_PutReq_k8 (a0 : GMsgReq) (v2 : GMsgParts) (b8 : (List UInt8)) : Option ((List UInt8) × Int) :=
  if v2.val_ then ((m35_enc_List b8 a0.Val).bind fun v14 => m11_msg_PutReq_k9 a0 v2 v14) else (m11_msg_PutReq_k9 a0 v2 b8)

def m11_msg_PutReq_k7 (a0 : GMsgReq) (v2 : GMsgParts) (b7 : (List UInt8)) : Option ((List UInt8) × Int) :=
  if v2.key_ then ((m35_enc_List b7 a0.Key).bind fun v15 => m11_msg_PutReq_k8 a0 v2 v15) else (m11_msg_PutReq_k8 a0 v2 b7)

def m11_msg_PutReq_k6 (a0 : GMsgReq) (v2 : GMsgParts) (b6 : (List UInt8)) : Option ((List UInt8) × Int) :=
  if v2.ro_ then ((m34_msg_putFlag b6 a0.RO).bind fun v16 => m11_msg_PutReq_k7 a0 v2 v16) else (m11_msg_PutReq_k7 a0 v2 b6)

def m11_msg_PutReq_k5 (a0 : GMsgReq) (v2 : GMsgParts) (b5 : (List UInt8)) : Option ((List UInt8) × Int) :=
  if v2.attempt_ then ((m33_enc_U b5 (BitVec.ofInt 64 a0.Attempt) 2).bind fun v17 => m11_msg_PutReq_k6 a0 v2 v17) else (m11_msg_PutReq_k6 a0 v2 b5)
def m11_msg_PutReq (a0 : GMsgReq) : Option ((List UInt8) × Int) :=
  (m18_msg_SaneReq (GMsgReq.mk a0.Kind a0.Seq a0.Token a0.Attempt a0.RO a0.Key a0.Val (GApiRange.mk a0.Rng.Lo a0.Rng.Hi a0.Rng.Open))).bind fun v1 => if (!v1) then (some (([] : List UInt8), 1)) else ((m32_msg_partsOf a0.Kind).bind fun v2 => (m33_enc_U ([] : List UInt8) (BitVec.ofInt 64 a0.Kind) 1).bind fun v3 => (m33_enc_U v3 (BitVec.ofInt 64 a0.Seq) 4).bind fun v4 => if v2.token_ then ((m33_enc_U v4 (BitVec.ofInt 64 a0.Token) 8).bind fun v18 => m11_msg_PutReq_k5 a0 v2 v18) else (m11_msg_PutReq_k5 a0 v2 v4))

set_option maxRecDepth 100000 in
theorem m11_msg_PutReq_c {a0 : GMsgReq} {r : (List UInt8) × Int} (h : m11_msg_PutReq a0 = some r) : CallsA Tryd.prog 11 [.agg [.i .i64 a0.Kind, .i .i64 a0.Seq, .i .i64 a0.Token, .i .i64 a0.Attempt, .b a0.RO, .sl a0.Key.length (a0.Key.flatMap eU8), .sl a0.Val.length (a0.Val.flatMap eU8), .sl a0.Rng.Lo.length (a0.Rng.Lo.flatMap eU8), .sl a0.Rng.Hi.length (a0.Rng.Hi.flatMap eU8), .b a0.Rng.Open]] (· = .tup [.one (.sl r.1.length (r.1.flatMap eU8)), .one (.i .i64 r.2)]) := by
  unfold m11_msg_PutReq at h
  refine callsA_of Tryd.func11 rfl (nt := 68) rfl (Nat.le_of_ble_eq_true rfl) ?_
  intro w0 S0
  refine cseq ?_
  refine cregion ?_
  refine sbox rfl rfl ?_
  refine sv rfl (opv_as rfl) ?_
  refine sv rfl (opv_as rfl) ?_
  refine snil ?_
  refine cseq ?_
  refine cseq ?_
  refine cregion ?_
  refine sv rfl (opv_loadN ti32 rfl (.lp _ _ _ rfl) (Nat.le_of_ble_eq_true rfl)) ?_
  obtain ⟨v1, hv1, h⟩ := bind_eq h
  refine scall1 rfl fn18 (opnds_cons rfl opnds_nil) (pubA_id rfl) (m18_msg_SaneReq_c hv1) ?_
  refine sv rfl (opv_not rfl) ?_
  refine snil ?_
  refine ccond rfl (fun hc => ?_) (fun hc => ?_)
  · replace h := ite_t hc h
    clear hc
    refine cseq ?_
    refine cregion ?_
    refine sv rfl (opv_as rfl) ?_
    refine sv rfl (opv_as rfl) ?_
    refine snil ?_
    refine cret ?_
    refine then_ret ?_
    obtain rfl := Option.some.inj h
    refine ⟨Or.inr rfl, _, _, _, (resVs_cons (ResV.tmp _ _ rfl) (resVs_cons (ResV.tmp _ _ rfl) resVs_nil)), (pubC rfl), ?_⟩
    rfl
  · replace h := ite_f hc h
    clear hc
    refine cskip ?_
    refine then_normal ?_
    refine cseq ?_
    refine cregion ?_
    refine sv rfl (opv_fieldAddr_lp fi32_0 rfl) ?_
    refine sv rfl (opv_load1 ti3 rfl (.lp _ _ _ rfl) rfl) ?_
    obtain ⟨v2, hv2, h⟩ := bind_eq h
    refine scall1 rfl fn32 (opnds_cons rfl opnds_nil) (pubA_id rfl) (m32_msg_partsOf_c hv2) ?_
    refine salloc rfl zi66 ?_
    refine sstore sz66 rfl rfl rfl rfl (Nat.le_of_ble_eq_true rfl) ?_
    refine smem [.box [.i .i64 a0.Kind, .i .i64 a0.Seq, .i .i64 a0.Token, .i .i64 a0.Attempt, .b a0.RO, .sl a0.Key.length (a0.Key.flatMap eU8), .sl a0.Val.length (a0.Val.flatMap eU8), .sl a0.Rng.Lo.length (a0.Rng.Lo.flatMap eU8), .sl a0.Rng.Hi.length (a0.Rng.Hi.flatMap eU8), .b a0.Rng.Open], .box [.b v2.token_, .b v2.attempt_, .b v2.ro_, .b v2.key_, .b v2.val_, .b v2.rng_]] rfl ?_
    refine snil ?_
    refine cseq ?_
    refine cdraw mixed (by kernel_rfl) ?_
    refine dv rfl (opv_fieldAddr_lp fi32_0 rfl) ?_
    refine dv rfl (opv_load1 ti3 rfl (.lp _ _ _ rfl) rfl) ?_
    refine dv rfl (opv_conv_ibv rfl Tryd.underlying3 Tryd.underlying69 rfl) ?_
    obtain ⟨v3, hv3, h⟩ := bind_eq h
    refine dd rfl (opD_callN fn33 (opnds_cons rfl (opnds_cons rfl (opnds_cons rfl opnds_nil))) rfl (m33_enc_U_c hv3)) ?_
    refine dv rfl (opv_fieldAddr_lp fi32_1 rfl) ?_
    refine dv rfl (opv_load1 ti3 rfl (.lp _ _ _ rfl) rfl) ?_
    refine dv rfl (opv_conv_ibv rfl Tryd.underlying3 Tryd.underlying69 rfl) ?_
    obtain ⟨v4, hv4, h⟩ := bind_eq h
    refine dd rfl (opD_call fn33 (opnds_cons rfl (opnds_cons rfl (opnds_cons rfl opnds_nil))) rfl (m33_enc_U_c hv4)) ?_
    refine dv rfl (opv_as rfl) ?_
    refine dnil ?_
    refine then_normal ?_
    refine cseq ?_
    refine cseq ?_
    refine cregion ?_
    refine sv rfl (opv_fieldAddr_lp fi66_0 rfl) ?_
    refine sv rfl (opv_load1 ti4 rfl (.lp _ _ _ rfl) rfl) ?_
    refine snil ?_
    refine cjoin ((List UInt8)) (fun b5 => [(1, .s (.one (.lp 0 0))), (4, .s (.one (.lp 1 0))), (5, .s (.one (.sl b5.length (b5.flatMap eU8))))]) (fun b5 => [.box [.i .i64 a0.Kind, .i .i64 a0.Seq, .i .i64 a0.Token, .i .i64 a0.Attempt, .b a0.RO, .sl a0.Key.length (a0.Key.flatMap eU8), .sl a0.Val.length (a0.Val.flatMap eU8), .sl a0.Rng.Lo.length (a0.Rng.Lo.flatMap eU8), .sl a0.Rng.Hi.length (a0.Rng.Hi.flatMap eU8), .b a0.Rng.Open], .box [.b v2.token_, .b v2.attempt_, .b v2.ro_, .b v2.key_, .b v2.val_, .b v2.rng_]]) (fun b5 => m11_msg_PutReq_k5 a0 v2 b5 = some r) (fun _ _ => inbL_of rfl) (fun _ _ => blkinb_of rfl) (fun _ _ => Nat.le_of_ble_eq_true rfl) (fun b5 h => ?_) ?_
    · unfold m11_msg_PutReq_k5 at h
      refine cseq ?_
      refine cseq ?_
      refine cregion ?_
      refine sv rfl (opv_fieldAddr_lp fi66_1 rfl) ?_
      refine sv rfl (opv_load1 ti4 rfl (.lp _ _ _ rfl) rfl) ?_
      refine snil ?_
      refine cjoin ((List UInt8)) (fun b6 => [(1, .s (.one (.lp 0 0))), (4, .s (.one (.lp 1 0))), (5, .s (.one (.sl b6.length (b6.flatMap eU8))))]) (fun b6 => [.box [.i .i64 a0.Kind, .i .i64 a0.Seq, .i .i64 a0.Token, .i .i64 a0.Attempt, .b a0.RO, .sl a0.Key.length (a0.Key.flatMap eU8), .sl a0.Val.length (a0.Val.flatMap eU8), .sl a0.Rng.Lo.length (a0.Rng.Lo.flatMap eU8), .sl a0.Rng.Hi.length (a0.Rng.Hi.flatMap eU8), .b a0.Rng.Open], .box [.b v2.token_, .b v2.attempt_, .b v2.ro_, .b v2.key_, .b v2.val_, .b v2.rng_]]) (fun b6 => m11_msg_PutReq_k6 a0 v2 b6 = some r) (fun _ _ => inbL_of rfl) (fun _ _ => blkinb_of rfl) (fun _ _ => Nat.le_of_ble_eq_true rfl) (fun b6 h => ?_) ?_
      · unfold m11_msg_PutReq_k6 at h
        refine cseq ?_
        refine cseq ?_
        refine cregion ?_
        refine sv rfl (opv_fieldAddr_lp fi66_2 rfl) ?_
        refine sv rfl (opv_load1 ti4 rfl (.lp _ _ _ rfl) rfl) ?_
        refine snil ?_
        refine cjoin ((List UInt8)) (fun b7 => [(1, .s (.one (.lp 0 0))), (4, .s (.one (.lp 1 0))), (5, .s (.one (.sl b7.length (b7.flatMap eU8))))]) (fun b7 => [.box [.i .i64 a0.Kind, .i .i64 a0.Seq, .i .i64 a0.Token, .i .i64 a0.Attempt, .b a0.RO, .sl a0.Key.length (a0.Key.flatMap eU8), .sl a0.Val.length (a0.Val.flatMap eU8), .sl a0.Rng.Lo.length (a0.Rng.Lo.flatMap eU8), .sl a0.Rng.Hi.length (a0.Rng.Hi.flatMap eU8), .b a0.Rng.Open], .box [.b v2.token_, .b v2.attempt_, .b v2.ro_, .b v2.key_, .b v2.val_, .b v2.rng_]]) (fun b7 => m11_msg_PutReq_k7 a0 v2 b7 = some r) (fun _ _ => inbL_of rfl) (fun _ _ => blkinb_of rfl) (fun _ _ => Nat.le_of_ble_eq_true rfl) (fun b7 h => ?_) ?_
        · unfold m11_msg_PutReq_k7 at h
          refine cseq ?_
          refine cseq ?_
          refine cregion ?_
          refine sv rfl (opv_fieldAddr_lp fi66_3 rfl) ?_
          refine sv rfl (opv_load1 ti4 rfl (.lp _ _ _ rfl) rfl) ?_
          refine snil ?_
          refine cjoin ((List UInt8)) (fun b8 => [(1, .s (.one (.lp 0 0))), (4, .s (.one (.lp 1 0))), (5, .s (.one (.sl b8.length (b8.flatMap eU8))))]) (fun b8 => [.box [.i .i64 a0.Kind, .i .i64 a0.Seq, .i .i64 a0.Token, .i .i64 a0.Attempt, .b a0.RO, .sl a0.Key.length (a0.Key.flatMap eU8), .sl a0.Val.length (a0.Val.flatMap eU8), .sl a0.Rng.Lo.length (a0.Rng.Lo.flatMap eU8), .sl a0.Rng.Hi.length (a0.Rng.Hi.flatMap eU8), .b a0.Rng.Open], .box [.b v2.token_, .b v2.attempt_, .b v2.ro_, .b v2.key_, .b v2.val_, .b v2.rng_]]) (fun b8 => m11_msg_PutReq_k8 a0 v2 b8 = some r) (fun _ _ => inbL_of rfl) (fun _ _ => blkinb_of rfl) (fun _ _ => Nat.le_of_ble_eq_true rfl) (fun b8 h => ?_) ?_
          · unfold m11_msg_PutReq_k8 at h
            refine cseq ?_
            refine cseq ?_
            refine cregion ?_
            refine sv rfl (opv_fieldAddr_lp fi66_4 rfl) ?_
            refine sv rfl (opv_load1 ti4 rfl (.lp _ _ _ rfl) rfl) ?_
            refine snil ?_
            refine cjoin ((List UInt8)) (fun b9 => [(1, .s (.one (.lp 0 0))), (4, .s (.one (.lp 1 0))), (5, .s (.one (.sl b9.length (b9.flatMap eU8))))]) (fun b9 => [.box [.i .i64 a0.Kind, .i .i64 a0.Seq, .i .i64 a0.Token, .i .i64 a0.Attempt, .b a0.RO, .sl a0.Key.length (a0.Key.flatMap eU8), .sl a0.Val.length (a0.Val.flatMap eU8), .sl a0.Rng.Lo.length (a0.Rng.Lo.flatMap eU8), .sl a0.Rng.Hi.length (a0.Rng.Hi.flatMap eU8), .b a0.Rng.Open], .box [.b v2.token_, .b v2.attempt_, .b v2.ro_, .b v2.key_, .b v2.val_, .b v2.rng_]]) (fun b9 => m11_msg_PutReq_k9 a0 v2 b9 = some r) (fun _ _ => inbL_of rfl) (fun _ _ => blkinb_of rfl) (fun _ _ => Nat.le_of_ble_eq_true rfl) (fun b9 h => ?_) ?_
            · unfold m11_msg_PutReq_k9 at h
              refine cseq ?_
              refine cseq ?_
              refine cregion ?_
              refine sv rfl (opv_fieldAddr_lp fi66_5 rfl) ?_
              refine sv rfl (opv_load1 ti4 rfl (.lp _ _ _ rfl) rfl) ?_
              refine snil ?_
              refine cjoin ((List UInt8)) (fun b10 => [(5, .s (.one (.sl b10.length (b10.flatMap eU8))))]) (fun b10 => [.box [.i .i64 a0.Kind, .i .i64 a0.Seq, .i .i64 a0.Token, .i .i64 a0.Attempt, .b a0.RO, .sl a0.Key.length (a0.Key.flatMap eU8), .sl a0.Val.length (a0.Val.flatMap eU8), .sl a0.Rng.Lo.length (a0.Rng.Lo.flatMap eU8), .sl a0.Rng.Hi.length (a0.Rng.Hi.flatMap eU8), .b a0.Rng.Open], .box [.b v2.token_, .b v2.attempt_, .b v2.ro_, .b v2.key_, .b v2.val_, .b v2.rng_]]) (fun b10 => m11_msg_PutReq_k10 b10 = some r) (fun _ _ => inbL_of rfl) (fun _ _ => blkinb_of rfl) (fun _ _ => Nat.le_of_ble_eq_true rfl) (fun b10 h => ?_) ?_
              · unfold m11_msg_PutReq_k10 at h
                refine cseq ?_
                refine cregion ?_
                refine sv rfl (opv_mv rfl) ?_
                refine sv rfl (opv_as rfl) ?_
                refine sv rfl (opv_as rfl) ?_
                refine snil ?_
                refine cret ?_
                obtain rfl := Option.some.inj h
                refine ⟨Or.inr rfl, _, _, _, (resVs_cons (ResV.tmp _ _ rfl) (resVs_cons (ResV.tmp _ _ rfl) resVs_nil)), (pubA_id rfl), ?_⟩
                rfl
              · skip
                refine ccond rfl (fun hc => ?_) (fun hc => ?_)
                · replace h := ite_t hc h
                  clear hc
                  refine cdrawL mixed (by kernel_rfl) ?_
                  refine dv rfl (opv_mv rfl) ?_
                  refine dv rfl (opv_fieldAddr_lp fi32_7 rfl) ?_
                  refine dv rfl (opv_fieldAddr_lp fi24_0 rfl) ?_
                  refine dv rfl (opv_load1 ti22 rfl (.lp _ _ _ rfl) rfl) ?_
                  obtain ⟨v11, hv11, h⟩ := bind_eq h
                  refine dd rfl (opD_call fn35 (opnds_cons rfl (opnds_cons rfl opnds_nil)) rfl (m35_enc_List_c hv11)) ?_
                  refine dv rfl (opv_fieldAddr_lp fi32_7 rfl) ?_
                  refine dv rfl (opv_fieldAddr_lp fi24_2 rfl) ?_
                  refine dv rfl (opv_load1 ti4 rfl (.lp _ _ _ rfl) rfl) ?_
                  obtain ⟨v12, hv12, h⟩ := bind_eq h
                  refine dd rfl (opD_call fn34 (opnds_cons rfl (opnds_cons rfl opnds_nil)) rfl (m34_msg_putFlag_c hv12)) ?_
                  refine dv rfl (opv_fieldAddr_lp fi32_7 rfl) ?_
                  refine dv rfl (opv_fieldAddr_lp fi24_1 rfl) ?_
                  refine dv rfl (opv_load1 ti22 rfl (.lp _ _ _ rfl) rfl) ?_
                  obtain ⟨v13, hv13, h⟩ := bind_eq h
                  refine dd rfl (opD_call fn35 (opnds_cons rfl (opnds_cons rfl opnds_nil)) rfl (m35_enc_List_c hv13)) ?_
                  refine dv rfl (opv_as rfl) ?_
                  refine dnil ?_
                  refine then_normal ?_
                  exact ⟨v13, _, h, ⟨rfl, trivial⟩, rfl⟩
                · replace h := ite_f hc h
                  clear hc
                  refine cskip ?_
                  refine then_normal ?_
                  exact ⟨b9, _, h, ⟨rfl, trivial⟩, rfl⟩
            · skip
              refine ccond rfl (fun hc => ?_) (fun hc => ?_)
              · replace h := ite_t hc h
                clear hc
                refine cregion ?_
                refine sv rfl (opv_mv rfl) ?_
                refine sv rfl (opv_fieldAddr_lp fi32_6 rfl) ?_
                refine sv rfl (opv_load1 ti22 rfl (.lp _ _ _ rfl) rfl) ?_
                obtain ⟨v14, hv14, h⟩ := bind_eq h
                refine scall1 rfl fn35 (opnds_cons rfl (opnds_cons rfl opnds_nil)) (pubA_id rfl) (m35_enc_List_c hv14) ?_
                refine sv rfl (opv_as rfl) ?_
                refine snil ?_
                exact ⟨v14, _, h, ⟨rfl, rfl, rfl, trivial⟩, rfl⟩
              · replace h := ite_f hc h
                clear hc
                refine cskip ?_
                refine then_normal ?_
                exact ⟨b8, _, h, ⟨rfl, rfl, rfl, trivial⟩, rfl⟩
          · skip
            refine ccond rfl (fun hc => ?_) (fun hc => ?_)
            · replace h := ite_t hc h
              clear hc
              refine cregion ?_
              refine sv rfl (opv_mv rfl) ?_
              refine sv rfl (opv_fieldAddr_lp fi32_5 rfl) ?_
              refine sv rfl (opv_load1 ti22 rfl (.lp _ _ _ rfl) rfl) ?_
              obtain ⟨v15, hv15, h⟩ := bind_eq h
              refine scall1 rfl fn35 (opnds_cons rfl (opnds_cons rfl opnds_nil)) (pubA_id rfl) (m35_enc_List_c hv15) ?_
              refine sv rfl (opv_as rfl) ?_
              refine snil ?_
              exact ⟨v15, _, h, ⟨rfl, rfl, rfl, trivial⟩, rfl⟩
            · replace h := ite_f hc h
              clear hc
              refine cskip ?_
              refine then_normal ?_
              exact ⟨b7, _, h, ⟨rfl, rfl, rfl, trivial⟩, rfl⟩
        · skip
          refine ccond rfl (fun hc => ?_) (fun hc => ?_)
          · replace h := ite_t hc h
            clear hc
            refine cregion ?_
            refine sv rfl (opv_mv rfl) ?_
            refine sv rfl (opv_fieldAddr_lp fi32_4 rfl) ?_
            refine sv rfl (opv_load1 ti4 rfl (.lp _ _ _ rfl) rfl) ?_
            obtain ⟨v16, hv16, h⟩ := bind_eq h
            refine scall1 rfl fn34 (opnds_cons rfl (opnds_cons rfl opnds_nil)) (pubA_id rfl) (m34_msg_putFlag_c hv16) ?_
            refine sv rfl (opv_as rfl) ?_
            refine snil ?_
            exact ⟨v16, _, h, ⟨rfl, rfl, rfl, trivial⟩, rfl⟩
          · replace h := ite_f hc h
            clear hc
            refine cskip ?_
            refine then_normal ?_
            exact ⟨b6, _, h, ⟨rfl, rfl, rfl, trivial⟩, rfl⟩
      · skip
        refine ccond rfl (fun hc => ?_) (fun hc => ?_)
        · replace h := ite_t hc h
          clear hc
          refine cregion ?_
          refine sv rfl (opv_mv rfl) ?_
          refine sv rfl (opv_fieldAddr_lp fi32_3 rfl) ?_
          refine sv rfl (opv_load1 ti3 rfl (.lp _ _ _ rfl) rfl) ?_
          refine sv rfl (opv_conv_ibv rfl Tryd.underlying3 Tryd.underlying69 rfl) ?_
          obtain ⟨v17, hv17, h⟩ := bind_eq h
          refine scall1 rfl fn33 (opnds_cons rfl (opnds_cons rfl (opnds_cons rfl opnds_nil))) (pubA_id rfl) (m33_enc_U_c hv17) ?_
          refine sv rfl (opv_as rfl) ?_
          refine snil ?_
          exact ⟨v17, _, h, ⟨rfl, rfl, rfl, trivial⟩, rfl⟩
        · replace h := ite_f hc h
          clear hc
          refine cskip ?_
          refine then_normal ?_
          exact ⟨b5, _, h, ⟨rfl, rfl, rfl, trivial⟩, rfl⟩
    · skip
      refine ccond rfl (fun hc => ?_) (fun hc => ?_)
      · replace h := ite_t hc h
        clear hc
        refine cregion ?_
        refine sv rfl (opv_mv rfl) ?_
        refine sv rfl (opv_fieldAddr_lp fi32_2 rfl) ?_
        refine sv rfl (opv_load1 ti3 rfl (.lp _ _ _ rfl) rfl) ?_
        refine sv rfl (opv_conv_ibv rfl Tryd.underlying3 Tryd.underlying69 rfl) ?_
        obtain ⟨v18, hv18, h⟩ := bind_eq h
        refine scall1 rfl fn33 (opnds_cons rfl (opnds_cons rfl (opnds_cons rfl opnds_nil))) (pubA_id rfl) (m33_enc_U_c hv18) ?_
        refine sv rfl (opv_as rfl) ?_
        refine snil ?_
        exact ⟨v18, _, h, ⟨rfl, rfl, rfl, trivial⟩, rfl⟩
      · replace h := ite_f hc h
        clear hc
        refine cskip ?_
        refine then_normal ?_
        exact ⟨v4, _, h, ⟨rfl, rfl, rfl, trivial⟩, rfl⟩

def m45_enc_News (a0 : List UInt8) : Option (Int × Int × (List UInt8)) :=
  some (0, 0, a0)

set_option maxRecDepth 100000 in
theorem m45_enc_News_c {a0 : List UInt8} {r : Int × Int × (List UInt8)} (h : m45_enc_News a0 = some r) : CallsB Tryd.prog 45 [] [.one (.sl a0.length (a0.flatMap eU8))] (fun y m' => y = .s (.one (.lp 0 0)) ∧ m' = [.box [.fn 70 [] [.lp 1 0, .lp 2 0], .i .i64 r.1], .box [.i .i64 r.2.1], .box [.sl r.2.2.length (r.2.2.flatMap eU8)]]) := by
  unfold m45_enc_News at h
  refine callsB_of Tryd.func45 rfl (nt := 7) rfl (Nat.le_of_ble_eq_true rfl) ?_
  intro w0 S0 X0 H0
  refine cseq ?_
  refine cregion ?_
  refine sbox rfl rfl ?_
  refine sv rfl (opv_as rfl) ?_
  refine snil ?_
  refine cseq ?_
  refine cregion ?_
  refine salloc rfl zi3 ?_
  refine sstore sz3 rfl rfl rfl rfl (Nat.le_of_ble_eq_true rfl) ?_
  refine smem [.box [.sl a0.length (a0.flatMap eU8)], .box [.i .i64 0]] rfl ?_
  refine snil ?_
  refine cseq ?_
  refine cregion ?_
  refine sv rfl (opv_makeFunc opnds1_nil (opnds1_cons rfl rfl (opnds1_cons rfl rfl opnds1_nil))) ?_
  refine sv rfl (opv_build zi102 pi102 (parts_cons rfl parts_nil) (.cons _ _ _ _ _ _ _ rfl rfl (Nat.le_of_ble_eq_true rfl) (.nil _))) ?_
  refine sbox rfl rfl ?_
  refine sv rfl (opv_as rfl) ?_
  refine snil ?_
  refine cret ?_
  obtain rfl := Option.some.inj h
  exact ⟨Or.inr rfl, _, [2, 1, 0], [.one (.lp 0 0)], [.box [.fn 70 [] [.lp 1 0, .lp 2 0], .i .i64 0], .box [.i .i64 0], .box [.sl a0.length (a0.flatMap eU8)]], (resVs_cons (ResV.tmp _ _ rfl) resVs_nil), rfl, rfl, ⟨by decide, rfl⟩, rfl, rfl, ⟨rfl, rfl⟩⟩

def m71_enc_Reader_Errs (a0 : Int) (a1 : Int) (a2 : List UInt8) : Option Int :=
  some a0

set_option maxRecDepth 100000 in
theorem m71_enc_Reader_Errs_c {a0 : Int} {a1 : Int} {a2 : List UInt8} {r : Int} (h : m71_enc_Reader_Errs a0 a1 a2 = some r) : CallsB Tryd.prog 71 [.box [.fn 70 [] [.lp 1 0, .lp 2 0], .i .i64 a0], .box [.i .i64 a1], .box [.sl a2.length (a2.flatMap eU8)]] [.one (.lp 0 0)] (fun y m' => y = .s (.one (.i .i64 r)) ∧ m' = [.box [.fn 70 [] [.lp 1 0, .lp 2 0], .i .i64 a0], .box [.i .i64 a1], .box [.sl a2.length (a2.flatMap eU8)]]) := by
  unfold m71_enc_Reader_Errs at h
  refine callsB_of Tryd.func71 rfl (nt := 9) rfl (Nat.le_of_ble_eq_true rfl) ?_
  intro w0 S0 X0 H0
  refine cseq ?_
  refine cregion ?_
  refine sv rfl (opv_as rfl) ?_
  refine snil ?_
  refine cseq ?_
  refine cseq ?_
  refine cregion ?_
  refine sv rfl (opv_mv rfl) ?_
  refine sv rfl (opv_pnil_eql Tryd.underlying74 rfl) ?_
  refine snil ?_
  refine ccond rfl (fun hx => Bool.noConfusion hx) (fun _ => ?_)
  refine cskip ?_
  refine then_normal ?_
  refine cseq ?_
  refine cregion ?_
  refine sv rfl (opv_mv rfl) ?_
  refine sv rfl (opv_nilCheck rfl rfl (fun _ _ _ h => by cases h)) ?_
  refine sv rfl (opv_fieldAddr_lp fi102_1 rfl) ?_
  refine sv rfl (opv_load1 ti29 rfl (.lp _ _ _ rfl) rfl) ?_
  refine sv rfl (opv_as rfl) ?_
  refine snil ?_
  refine cret ?_
  obtain rfl := Option.some.inj h
  exact ⟨Or.inr rfl, _, [0, 1, 2], [.one (.i .i64 a0)], [.box [.fn 70 [] [.lp 1 0, .lp 2 0], .i .i64 a0], .box [.i .i64 a1], .box [.sl a2.length (a2.flatMap eU8)]], (resVs_cons (ResV.tmp _ _ rfl) resVs_nil), rfl, rfl, ⟨by decide, rfl⟩, rfl, rfl, ⟨rfl, rfl⟩⟩

def m48_enc_Reader_Fails (a0 : Int) (a1 : Int) (a2 : Int) (a3 : List UInt8) : Option Int :=
  if (decide (a1 = 0)) then (some a0) else (some a1)

set_option maxRecDepth 100000 in
theorem m48_enc_Reader_Fails_c {a0 : Int} {a1 : Int} {a2 : Int} {a3 : List UInt8} {r : Int} (h : m48_enc_Reader_Fails a0 a1 a2 a3 = some r) : CallsB Tryd.prog 48 [.box [.fn 70 [] [.lp 1 0, .lp 2 0], .i .i64 a1], .box [.i .i64 a2], .box [.sl a3.length (a3.flatMap eU8)]] [.one (.lp 0 0), .one (.i .i64 a0)] (fun y m' => y = .tup [] ∧ m' = [.box [.fn 70 [] [.lp 1 0, .lp 2 0], .i .i64 r], .box [.i .i64 a2], .box [.sl a3.length (a3.flatMap eU8)]]) := by
  unfold m48_enc_Reader_Fails at h
  refine callsB_of Tryd.func48 rfl (nt := 17) rfl (Nat.le_of_ble_eq_true rfl) ?_
  intro w0 S0 X0 H0
  refine cseq ?_
  refine cregion ?_
  refine sv rfl (opv_mv rfl) ?_
  refine sv rfl (opv_pnil_neq Tryd.underlying74 rfl) ?_
  refine sv rfl (opv_mv rfl) ?_
  refine son rfl rfl rfl ?_
  refine sv rfl (opv_mv rfl) ?_
  refine son rfl rfl rfl ?_
  refine sv rfl (opv_nilCheck rfl rfl (fun _ _ _ h => by cases h)) ?_
  refine son rfl rfl rfl ?_
  refine sv rfl (opv_fieldAddr_lp fi102_1 rfl) ?_
  refine son rfl rfl rfl ?_
  refine sv rfl (opv_load1 ti29 rfl (.lp _ _ _ rfl) rfl) ?_
  refine son rfl rfl rfl ?_
  refine sv rfl (opv_ieql rfl rfl) ?_
  refine sv rfl (opv_pick_t rfl rfl) ?_
  refine snil ?_
  refine ccond rfl (fun hc => ?_) (fun hc => ?_)
  · replace h := ite_t hc h
    clear hc
    refine cregion ?_
    refine sv rfl (opv_mv rfl) ?_
    refine sv rfl (opv_mv rfl) ?_
    refine sv rfl (opv_nilCheck rfl rfl (fun _ _ _ h => by cases h)) ?_
    refine sv rfl (opv_fieldAddr_lp fi102_1 rfl) ?_
    refine sstore sz29 rfl rfl rfl rfl (Nat.le_of_ble_eq_true rfl) ?_
    refine smem [.box [.fn 70 [] [.lp 1 0, .lp 2 0], .i .i64 a0], .box [.i .i64 a2], .box [.sl a3.length (a3.flatMap eU8)]] rfl ?_
    refine snil0 ?_
    obtain rfl := Option.some.inj h
    exact ⟨Or.inl rfl, _, [0, 1, 2], [], [.box [.fn 70 [] [.lp 1 0, .lp 2 0], .i .i64 a0], .box [.i .i64 a2], .box [.sl a3.length (a3.flatMap eU8)]], resVs_nil, rfl, rfl, ⟨by decide, rfl⟩, rfl, rfl, ⟨rfl, rfl⟩⟩
  · replace h := ite_f hc h
    clear hc
    refine cskip ?_
    obtain rfl := Option.some.inj h
    exact ⟨Or.inl rfl, _, [0, 1, 2], [], [.box [.fn 70 [] [.lp 1 0, .lp 2 0], .i .i64 a1], .box [.i .i64 a2], .box [.sl a3.length (a3.flatMap eU8)]], resVs_nil, rfl, rfl, ⟨by decide, rfl⟩, rfl, rfl, ⟨rfl, rfl⟩⟩

def m70_enc_New_1s (a0 : Int) (a1 : Int) (a2 : List UInt8) : Option (Int × (List UInt8) × Int) :=
  (cut a2 (wI (a1 + a0)) (a2.length : Int)).bind fun c1 => some ((wI (a1 + a0)), c1, (wI (a1 + a0)))

set_option maxRecDepth 100000 in
theorem m70_enc_New_1s_c {a0 : Int} {a1 : Int} {a2 : List UInt8} {r : Int × (List UInt8) × Int} (h : m70_enc_New_1s a0 a1 a2 = some r) : CallsB Tryd.prog 70 [.box [.i .i64 a1], .box [.sl a2.length (a2.flatMap eU8)]] [.one (.i .i64 a0), .one (.lp 0 0), .one (.lp 1 0)] (fun y m' => y = .tup [.one (.i .i64 r.1), .one (.sl r.2.1.length (r.2.1.flatMap eU8))] ∧ m' = [.box [.i .i64 r.2.2], .box [.sl a2.length (a2.flatMap eU8)]]) := by
  unfold m70_enc_New_1s at h
  refine callsB_of Tryd.func70 rfl (nt := 13) rfl (Nat.le_of_ble_eq_true rfl) ?_
  intro w0 S0 X0 H0
  refine cseq ?_
  refine cregion ?_
  refine sv rfl (opv_as rfl) ?_
  refine sv rfl (opv_as rfl) ?_
  refine snil ?_
  refine cseq ?_
  refine cregion ?_
  refine sv rfl (opv_load1 ti3 rfl (.lp _ _ _ rfl) rfl) ?_
  refine sv rfl (opv_mv rfl) ?_
  refine sv rfl (opv_add rfl rfl) ?_
  refine sstore sz3 rfl rfl rfl rfl (Nat.le_of_ble_eq_true rfl) ?_
  refine smem [.box [.i .i64 (wI (a1 + a0))], .box [.sl a2.length (a2.flatMap eU8)]] rfl ?_
  refine snil ?_
  refine cseq ?_
  refine cdraw mixed (by kernel_rfl) ?_
  refine dv rfl (opv_load1 ti3 rfl (.lp _ _ _ rfl) rfl) ?_
  refine dv rfl (opv_load1 ti22 rfl (.lp _ _ _ rfl) rfl) ?_
  refine dv rfl (opv_load1 ti3 rfl (.lp _ _ _ rfl) rfl) ?_
  obtain ⟨c1, hc1, h⟩ := bind_eq h
  refine dv rfl (opv_cut (f := eU8) (lo := (wI (a1 + a0))) (hi := (a2.length : Int)) si22 (fun _ => rfl) rfl rfl rfl (bound_some rfl (cut_eq hc1).1.1) (by exact rfl) hc1) ?_
  refine dv rfl (opv_as rfl) ?_
  refine dv rfl (opv_as rfl) ?_
  refine dnil ?_
  refine then_normal ?_
  refine cret ?_
  obtain rfl := Option.some.inj h
  exact ⟨Or.inr rfl, _, [0, 1], [.one (.i .i64 (wI (a1 + a0))), .one (.sl c1.length (c1.flatMap eU8))], [.box [.i .i64 (wI (a1 + a0))], .box [.sl a2.length (a2.flatMap eU8)]], (resVs_cons (ResV.tmp _ _ rfl) (resVs_cons (ResV.tmp _ _ rfl) resVs_nil)), rfl, rfl, ⟨by decide, rfl⟩, rfl, rfl, ⟨rfl, rfl⟩⟩

def m73_enc_Reader_places_k1 (a1 : Int) (a2 : List UInt8) (b1 : Unit) : Option (Int × (List UInt8) × Int) :=
  (m70_enc_New_1s 0 a1 a2).bind fun v2 => some (v2.1, v2.2.1, v2.2.2)
def m73_enc_Reader_places (a0 : Int) (a1 : Int) (a2 : List UInt8) : Option (Int × (List UInt8) × Int) :=
  m73_enc_Reader_places_k1 a1 a2 ()

set_option maxRecDepth 100000 in
theorem m73_enc_Reader_places_c {a0 : Int} {a1 : Int} {a2 : List UInt8} {r : Int × (List UInt8) × Int} (h : m73_enc_Reader_places a0 a1 a2 = some r) : CallsB Tryd.prog 73 [.box [.fn 70 [] [.lp 1 0, .lp 2 0], .i .i64 a0], .box [.i .i64 a1], .box [.sl a2.length (a2.flatMap eU8)]] [.one (.lp 0 0)] (fun y m' => y = .tup [.one (.i .i64 r.1), .one (.sl r.2.1.length (r.2.1.flatMap eU8))] ∧ m' = [.box [.fn 70 [] [.lp 1 0, .lp 2 0], .i .i64 a0], .box [.i .i64 r.2.2], .box [.sl a2.length (a2.flatMap eU8)]]) := by
  unfold m73_enc_Reader_places at h
  refine callsB_of Tryd.func73 rfl (nt := 20) rfl (Nat.le_of_ble_eq_true rfl) ?_
  intro w0 S0 X0 H0
  refine cseq ?_
  refine cregion ?_
  refine sv rfl (opv_as rfl) ?_
  refine sv rfl (opv_as rfl) ?_
  refine snil ?_
  refine cseq ?_
  refine cseq ?_
  refine cjoin3 (Unit) (fun b1 => [(0, .s (.one (.lp 0 0)))]) (fun b1 => [.box [.fn 70 [] [.lp 1 0, .lp 2 0], .i .i64 a0], .box [.i .i64 a1], .box [.sl a2.length (a2.flatMap eU8)]]) (fun b1 => m73_enc_Reader_places_k1 a1 a2 b1 = some r) (fun _ _ => inbL_of rfl) (fun _ _ => blkinb_of rfl) (fun _ _ => Nat.le_of_ble_eq_true rfl) (fun b1 h => ?_) ?_
  · unfold m73_enc_Reader_places_k1 at h
    refine cseq ?_
    refine cregion ?_
    refine sv rfl (opv_mv rfl) ?_
    refine sv rfl (opv_nilCheck rfl rfl (fun _ _ _ h => by cases h)) ?_
    refine sv rfl (opv_fieldAddr_lp fi102_0 rfl) ?_
    refine sv rfl (opv_load1 ti100 rfl (.lp _ _ _ rfl) rfl) ?_
    obtain ⟨v2, hv2, h⟩ := bind_eq h
    refine scallB (x' := .tup [.one (.i .i64 v2.1), .one (.sl v2.2.1.length (v2.2.1.flatMap eU8))]) (M' := [.box [.fn 70 [] [.lp 1 0, .lp 2 0], .i .i64 a0], .box [.i .i64 v2.2.2], .box [.sl a2.length (a2.flatMap eU8)]]) [1, 2] rfl fn70 (.fn _ _ _ _ rfl) (opnds_cons rfl opnds_nil) (m70_enc_New_1s_c hv2) rfl rfl (by decide) rfl rfl rfl ?_
    refine sv rfl (opv_extract rfl rfl) ?_
    refine sv rfl (opv_extract rfl rfl) ?_
    refine sv rfl (opv_as rfl) ?_
    refine sv rfl (opv_as rfl) ?_
    refine snil ?_
    refine cret ?_
    obtain rfl := Option.some.inj h
    exact ⟨Or.inr rfl, _, [0, 1, 2], [.one (.i .i64 v2.1), .one (.sl v2.2.1.length (v2.2.1.flatMap eU8))], [.box [.fn 70 [] [.lp 1 0, .lp 2 0], .i .i64 a0], .box [.i .i64 v2.2.2], .box [.sl a2.length (a2.flatMap eU8)]], (resVs_cons (ResV.tmp _ _ rfl) (resVs_cons (ResV.tmp _ _ rfl) resVs_nil)), rfl, rfl, ⟨by decide, rfl⟩, rfl, rfl, ⟨rfl, rfl⟩⟩
  · skip
    refine cregion ?_
    refine sv rfl (opv_mv rfl) ?_
    refine sv rfl (opv_pnil_eql Tryd.underlying74 rfl) ?_
    refine sv rfl (opv_mv rfl) ?_
    refine son rfl rfl rfl ?_
    refine sv rfl (opv_mv rfl) ?_
    refine son rfl rfl rfl ?_
    refine sv rfl (opv_nilCheck rfl rfl (fun _ _ _ h => by cases h)) ?_
    refine son rfl rfl rfl ?_
    refine sv rfl (opv_fieldAddr_lp fi102_0 rfl) ?_
    refine son rfl rfl rfl ?_
    refine sv rfl (opv_load1 ti100 rfl (.lp _ _ _ rfl) rfl) ?_
    refine son rfl rfl rfl ?_
    refine sv rfl (opv_fnil_eql Tryd.underlying100 rfl rfl) ?_
    refine sv rfl (opv_pick_f rfl rfl) ?_
    refine snil ?_
    refine ccond rfl (fun hx => Bool.noConfusion hx) (fun _ => ?_)
    refine cskip ?_
    refine then_normal ?_
    exact ⟨(), _, h, ⟨rfl, trivial⟩, rfl⟩

def m72_enc_Reader_takes_k3 (a0 : Int) (a1 : Int) (v1 : Int × (List UInt8) × Int) (b3 : Int) : Option ((List UInt8) × Int × Int) :=
  (cut v1.2.1 0 a0).bind fun c4 => some (c4, a1, b3)
def m72_enc_Reader_takes (a0 : Int) (a1 : Int) (a2 : Int) (a3 : List UInt8) : Option ((List UInt8) × Int × Int) :=
  (m73_enc_Reader_places a1 a2 a3).bind fun v1 => if (decide ((v1.2.1.length : Int) < a0)) then ((m48_enc_Reader_Fails 2 a1 v1.2.2 a3).bind fun v2 => some (([] : List UInt8), v2, v1.2.2)) else (if (decide (0 < a0)) then ((m70_enc_New_1s a0 v1.2.2 a3).bind fun v5 => m72_enc_Reader_takes_k3 a0 a1 v1 v5.2.2) else (m72_enc_Reader_takes_k3 a0 a1 v1 v1.2.2))

set_option maxRecDepth 100000 in
theorem m72_enc_Reader_takes_c {a0 : Int} {a1 : Int} {a2 : Int} {a3 : List UInt8} {r : (List UInt8) × Int × Int} (h : m72_enc_Reader_takes a0 a1 a2 a3 = some r) : CallsB Tryd.prog 72 [.box [.fn 70 [] [.lp 1 0, .lp 2 0], .i .i64 a1], .box [.i .i64 a2], .box [.sl a3.length (a3.flatMap eU8)]] [.one (.lp 0 0), .one (.i .i64 a0)] (fun y m' => y = .s (.one (.sl r.1.length (r.1.flatMap eU8))) ∧ m' = [.box [.fn 70 [] [.lp 1 0, .lp 2 0], .i .i64 r.2.1], .box [.i .i64 r.2.2], .box [.sl a3.length (a3.flatMap eU8)]]) := by
  unfold m72_enc_Reader_takes at h
  refine callsB_of Tryd.func72 rfl (nt := 29) rfl (Nat.le_of_ble_eq_true rfl) ?_
  intro w0 S0 X0 H0
  refine cseq ?_
  refine cregion ?_
  refine sv rfl (opv_as rfl) ?_
  refine snil ?_
  refine cseq ?_
  refine cregion ?_
  refine sv rfl (opv_mv rfl) ?_
  obtain ⟨v1, hv1, h⟩ := bind_eq h
  refine scallB (x' := .tup [.one (.i .i64 v1.1), .one (.sl v1.2.1.length (v1.2.1.flatMap eU8))]) (M' := [.box [.fn 70 [] [.lp 1 0, .lp 2 0], .i .i64 a1], .box [.i .i64 v1.2.2], .box [.sl a3.length (a3.flatMap eU8)]]) [0, 1, 2] rfl fn73 (.func _) (opnds_cons rfl opnds_nil) (m73_enc_Reader_places_c hv1) rfl rfl (by decide) rfl rfl rfl ?_
  refine sv rfl (opv_mvt rfl) ?_
  refine sv rfl (opv_extract rfl rfl) ?_
  refine sv rfl (opv_extract rfl rfl) ?_
  refine sv rfl (opv_as rfl) ?_
  refine sv rfl (opv_as rfl) ?_
  refine snil ?_
  refine cseq ?_
  refine cseq ?_
  refine cregion ?_
  refine sv rfl (opv_mv rfl) ?_
  refine sv rfl (opv_len_sl si22 rfl) ?_
  refine sv rfl (opv_mv rfl) ?_
  refine sv rfl (opv_lss rfl rfl) ?_
  refine snil ?_
  refine ccond rfl (fun hc => ?_) (fun hc => ?_)
  · replace h := ite_t hc h
    clear hc
    refine cseq ?_
    refine cregion ?_
    refine sv rfl (opv_mv rfl) ?_
    obtain ⟨v2, hv2, h⟩ := bind_eq h
    refine scallB (x' := .tup []) (M' := [.box [.fn 70 [] [.lp 1 0, .lp 2 0], .i .i64 v2], .box [.i .i64 v1.2.2], .box [.sl a3.length (a3.flatMap eU8)]]) [0, 1, 2] rfl fn48 (.func _) (opnds_cons rfl (opnds_cons rfl opnds_nil)) (m48_enc_Reader_Fails_c hv2) rfl rfl (by decide) rfl rfl rfl ?_
    refine snil ?_
    refine cseq ?_
    refine cregion ?_
    refine sv rfl (opv_as rfl) ?_
    refine snil ?_
    refine cpub 4 rfl (by (repeat' first | exact PubA.nil _ | apply PubA.cons | apply PubV.one | apply PubV.agg | exact PubL.nil | exact PubL.id _ rfl | exact PubLs.nil _ | apply PubLs.cons)) ?_
    refine cret ?_
    refine then_ret ?_
    obtain rfl := Option.some.inj h
    exact ⟨Or.inr rfl, _, [0, 1, 2], [.one (.sl ([] : List UInt8).length (([] : List UInt8).flatMap eU8))], [.box [.fn 70 [] [.lp 1 0, .lp 2 0], .i .i64 v2], .box [.i .i64 v1.2.2], .box [.sl a3.length (a3.flatMap eU8)]], (resVs_cons (ResV.tmp _ _ rfl) resVs_nil), rfl, rfl, ⟨by decide, rfl⟩, rfl, rfl, ⟨rfl, rfl⟩⟩
  · replace h := ite_f hc h
    clear hc
    refine cskip ?_
    refine then_normal ?_
    refine cseq ?_
    refine cseq ?_
    refine cregion ?_
    refine sv rfl (opv_mv rfl) ?_
    refine sv rfl (opv_gtr rfl rfl) ?_
    refine snil ?_
    refine cjoin (Int) (fun b3 => [(1, .s (.one (.i .i64 a0))), (6, .s (.one (.sl v1.2.1.length (v1.2.1.flatMap eU8))))]) (fun b3 => [.box [.fn 70 [] [.lp 1 0, .lp 2 0], .i .i64 a1], .box [.i .i64 b3], .box [.sl a3.length (a3.flatMap eU8)]]) (fun b3 => m72_enc_Reader_takes_k3 a0 a1 v1 b3 = some r) (fun _ _ => inbL_of rfl) (fun _ _ => blkinb_of rfl) (fun _ _ => Nat.le_of_ble_eq_true rfl) (fun b3 h => ?_) ?_
    · unfold m72_enc_Reader_takes_k3 at h
      refine cseq ?_
      refine cregion ?_
      refine sv rfl (opv_mv rfl) ?_
      refine sv rfl (opv_mv rfl) ?_
      obtain ⟨c4, hc4, h⟩ := bind_eq h
      refine sv rfl (opv_cut (f := eU8) (lo := 0) (hi := a0) si22 (fun _ => rfl) rfl rfl rfl bound_none (bound_some rfl (Int.le_trans (cut_eq hc4).1.1 (cut_eq hc4).1.2.1)) hc4) ?_
      refine sv rfl (opv_as rfl) ?_
      refine snil ?_
      refine cret ?_
      obtain rfl := Option.some.inj h
      exact ⟨Or.inr rfl, _, [0, 1, 2], [.one (.sl c4.length (c4.flatMap eU8))], [.box [.fn 70 [] [.lp 1 0, .lp 2 0], .i .i64 a1], .box [.i .i64 b3], .box [.sl a3.length (a3.flatMap eU8)]], (resVs_cons (ResV.tmp _ _ rfl) resVs_nil), rfl, rfl, ⟨by decide, rfl⟩, rfl, rfl, ⟨rfl, rfl⟩⟩
    · skip
      refine ccond rfl (fun hc => ?_) (fun hc => ?_)
      · replace h := ite_t hc h
        clear hc
        refine cregion ?_
        refine sv rfl (opv_mv rfl) ?_
        refine sv rfl (opv_nilCheck rfl rfl (fun _ _ _ h => by cases h)) ?_
        refine sv rfl (opv_fieldAddr_lp fi102_0 rfl) ?_
        refine sv rfl (opv_load1 ti100 rfl (.lp _ _ _ rfl) rfl) ?_
        refine sv rfl (opv_mv rfl) ?_
        obtain ⟨v5, hv5, h⟩ := bind_eq h
        refine scallB (x' := .tup [.one (.i .i64 v5.1), .one (.sl v5.2.1.length (v5.2.1.flatMap eU8))]) (M' := [.box [.fn 70 [] [.lp 1 0, .lp 2 0], .i .i64 a1], .box [.i .i64 v5.2.2], .box [.sl a3.length (a3.flatMap eU8)]]) [1, 2] rfl fn70 (.fn _ _ _ _ rfl) (opnds_cons rfl opnds_nil) (m70_enc_New_1s_c hv5) rfl rfl (by decide) rfl rfl rfl ?_
        refine snil ?_
        exact ⟨v5.2.2, _, h, ⟨rfl, rfl, trivial⟩, rfl⟩
      · replace h := ite_f hc h
        clear hc
        refine cskip ?_
        refine then_normal ?_
        exact ⟨v1.2.2, _, h, ⟨rfl, rfl, trivial⟩, rfl⟩

def m46_enc_Reader_Us_k4 (v3 : (List UInt8) × Int × Int) (b4 : (BitVec 64)) : Option ((BitVec 64) × Int × Int) :=
  some (b4, v3.2.1, v3.2.2)

def m46_enc_Reader_Us_s5 (v3 : (List UInt8) × Int × Int) (s5 : (BitVec 64) × Int) : Option (LB ((BitVec 64) × Int) ((BitVec 64))) :=
  if (decide (s5.2 < (v3.1.length : Int))) then ((idx v3.1 s5.2).bind fun u6 => if 0 ≤ (wI (8 * s5.2)) then (some (.cont ((s5.1 ||| ((u6.toBitVec.setWidth 64) <<< (wI (8 * s5.2)).toNat)), (wI (s5.2 + 1))))) else none) else (some (.brk s5.1))

def m46_enc_Reader_Us_k2 (a0 : Int) (a1 : Int) (a2 : Int) (a3 : List UInt8) (b2 : Unit) : Option ((BitVec 64) × Int × Int) :=
  (m72_enc_Reader_takes a0 a1 a2 a3).bind fun v3 => (iterB (m46_enc_Reader_Us_s5 v3) fuel (0#64, 0)).bind fun e8 => m46_enc_Reader_Us_k4 v3 e8
def m46_enc_Reader_Us (a0 : Int) (a1 : Int) (a2 : Int) (a3 : List UInt8) : Option ((BitVec 64) × Int × Int) :=
  (m71_enc_Reader_Errs a1 a2 a3).bind fun v1 => if (!decide (v1 = 0)) then (some (0#64, a1, a2)) else (if (decide (a0 < 1)) then ((m48_enc_Reader_Fails 1 a1 a2 a3).bind fun v9 => some (0#64, v9, a2)) else (if (decide (8 < a0)) then ((m48_enc_Reader_Fails 1 a1 a2 a3).bind fun v10 => some (0#64, v10, a2)) else (m46_enc_Reader_Us_k2 a0 a1 a2 a3 ())))

set_option maxRecDepth 100000 in
theorem m46_enc_Reader_Us_c {a0 : Int} {a1 : Int} {a2 : Int} {a3 : List UInt8} {r : (BitVec 64) × Int × Int} (h : m46_enc_Reader_Us a0 a1 a2 a3 = some r) : CallsB Tryd.prog 46 [.box [.fn 70 [] [.lp 1 0, .lp 2 0], .i .i64 a1], .box [.i .i64 a2], .box [.sl a3.length (a3.flatMap eU8)]] [.one (.lp 0 0), .one (.i .i64 a0)] (fun y m' => y = .s (.one (.i .u64 (r.1.toNat : Int))) ∧ m' = [.box [.fn 70 [] [.lp 1 0, .lp 2 0], .i .i64 r.2.1], .box [.i .i64 r.2.2], .box [.sl a3.length (a3.flatMap eU8)]]) := by
  unfold m46_enc_Reader_Us at h
  refine callsB_of Tryd.func46 rfl (nt := 37) rfl (Nat.le_of_ble_eq_true rfl) ?_
  intro w0 S0 X0 H0
  refine cseq ?_
  refine cregion ?_
  refine sv rfl (opv_as rfl) ?_
  refine snil ?_
  refine cseq ?_
  refine cseq ?_
  refine cregion ?_
  refine sv rfl (opv_mv rfl) ?_
  obtain ⟨v1, hv1, h⟩ := bind_eq h
  refine scallB (x' := .s (.one (.i .i64 v1))) (M' := [.box [.fn 70 [] [.lp 1 0, .lp 2 0], .i .i64 a1], .box [.i .i64 a2], .box [.sl a3.length (a3.flatMap eU8)]]) [0, 1, 2] rfl fn71 (.func _) (opnds_cons rfl opnds_nil) (m71_enc_Reader_Errs_c hv1) rfl rfl (by decide) rfl rfl rfl ?_
  refine sv rfl (opv_ineq rfl rfl) ?_
  refine snil ?_
  refine ccond rfl (fun hc => ?_) (fun hc => ?_)
  · replace h := ite_t hc h
    clear hc
    refine cseq ?_
    refine cregion ?_
    refine sv rfl (opv_as rfl) ?_
    refine snil ?_
    refine cret ?_
    refine then_ret ?_
    obtain rfl := Option.some.inj h
    exact ⟨Or.inr rfl, _, [0, 1, 2], [.one (.i .u64 ((0#64).toNat : Int))], [.box [.fn 70 [] [.lp 1 0, .lp 2 0], .i .i64 a1], .box [.i .i64 a2], .box [.sl a3.length (a3.flatMap eU8)]], (resVs_cons (ResV.tmp _ _ rfl) resVs_nil), rfl, rfl, ⟨by decide, rfl⟩, rfl, rfl, ⟨rfl, rfl⟩⟩
  · replace h := ite_f hc h
    clear hc
    refine cskip ?_
    refine then_normal ?_
    refine cseq ?_
    refine cseq ?_
    refine cjoin3 (Unit) (fun b2 => [(0, .s (.one (.lp 0 0))), (1, .s (.one (.i .i64 a0)))]) (fun b2 => [.box [.fn 70 [] [.lp 1 0, .lp 2 0], .i .i64 a1], .box [.i .i64 a2], .box [.sl a3.length (a3.flatMap eU8)]]) (fun b2 => m46_enc_Reader_Us_k2 a0 a1 a2 a3 b2 = some r) (fun _ _ => inbL_of rfl) (fun _ _ => blkinb_of rfl) (fun _ _ => Nat.le_of_ble_eq_true rfl) (fun b2 h => ?_) ?_
    · unfold m46_enc_Reader_Us_k2 at h
      refine cseq ?_
      refine cregion ?_
      refine sv rfl (opv_as rfl) ?_
      refine snil ?_
      refine cseq ?_
      refine cseq ?_
      refine cregion ?_
      refine sv rfl (opv_mv rfl) ?_
      refine sv rfl (opv_mv rfl) ?_
      obtain ⟨v3, hv3, h⟩ := bind_eq h
      refine scallB (x' := .s (.one (.sl v3.1.length (v3.1.flatMap eU8)))) (M' := [.box [.fn 70 [] [.lp 1 0, .lp 2 0], .i .i64 v3.2.1], .box [.i .i64 v3.2.2], .box [.sl a3.length (a3.flatMap eU8)]]) [0, 1, 2] rfl fn72 (.func _) (opnds_cons rfl (opnds_cons rfl opnds_nil)) (m72_enc_Reader_takes_c hv3) rfl rfl (by decide) rfl rfl rfl ?_
      refine sv rfl (opv_len_sl si22 rfl) ?_
      refine sv rfl (opv_mv rfl) ?_
      refine snil ?_
      refine cjoin ((BitVec 64)) (fun b4 => [(5, .s (.one (.i .u64 (b4.toNat : Int))))]) (fun b4 => [.box [.fn 70 [] [.lp 1 0, .lp 2 0], .i .i64 v3.2.1], .box [.i .i64 v3.2.2], .box [.sl a3.length (a3.flatMap eU8)]]) (fun b4 => m46_enc_Reader_Us_k4 v3 b4 = some r) (fun _ _ => inbL_of rfl) (fun _ _ => blkinb_of rfl) (fun _ _ => Nat.le_of_ble_eq_true rfl) (fun b4 h => ?_) ?_
      · unfold m46_enc_Reader_Us_k4 at h
        refine cseq ?_
        refine cregion ?_
        refine sv rfl (opv_mv rfl) ?_
        refine sv rfl (opv_as rfl) ?_
        refine snil ?_
        refine cret ?_
        obtain rfl := Option.some.inj h
        exact ⟨Or.inr rfl, _, [0, 1, 2], [.one (.i .u64 (b4.toNat : Int))], [.box [.fn 70 [] [.lp 1 0, .lp 2 0], .i .i64 v3.2.1], .box [.i .i64 v3.2.2], .box [.sl a3.length (a3.flatMap eU8)]], (resVs_cons (ResV.tmp _ _ rfl) resVs_nil), rfl, rfl, ⟨by decide, rfl⟩, rfl, rfl, ⟨rfl, rfl⟩⟩
      · skip
        refine cblock ?_
        obtain ⟨x5, hx5, ho5⟩ := bind_eq h
        refine awc_loop (G := Nat × ((BitVec 64) × Int)) (fun g => [(5, .s (.one (.i .u64 (g.2.1.toNat : Int)))), (21, .s (.one (.sl v3.1.length (v3.1.flatMap eU8)))), (22, .s (.one (.i .i64 (v3.1.length : Int)))), (23, .s (.one (.i .i64 g.2.2)))]) (fun g => [.box [.fn 70 [] [.lp 1 0, .lp 2 0], .i .i64 v3.2.1], .box [.i .i64 v3.2.2], .box [.sl a3.length (a3.flatMap eU8)]]) (fun g => iterB (m46_enc_Reader_Us_s5 v3) g.1 g.2 = some x5) (fun g => g.1) (fuel, (0#64, 0)) hx5 ⟨rfl, rfl, rfl, rfl, trivial⟩ [] rfl (fun _ _ => inbL_of rfl) (fun _ _ => blkinb_of rfl) (fun _ _ => Nat.le_of_ble_eq_true rfl) ?_
        clear hx5 h
        rintro ⟨n5, s5⟩ h
        obtain ⟨n5, y5, rfl, h, hk5⟩ := iterB_eq h
        unfold m46_enc_Reader_Us_s5 at h
        refine cseq ?_
        refine cregion ?_
        refine sv rfl (opv_lss rfl rfl) ?_
        refine snil ?_
        refine cseq ?_
        refine ccond rfl (fun hc => ?_) (fun hc => ?_)
        · replace h := ite_t hc h
          clear hc
          refine cskip ?_
          refine then_normal ?_
          refine cseq ?_
          refine cblock ?_
          refine cseq ?_
          refine cregion ?_
          refine sv rfl (opv_mv rfl) ?_
          obtain ⟨u6, hu6, h⟩ := bind_eq h
          refine sv rfl (opv_ix (f := eU8) si22 (fun _ => rfl) rfl rfl rfl rfl hu6) ?_
          refine sv rfl (opv_load1 ti5 rfl (.cp _) rfl) ?_
          refine sv rfl (opv_as rfl) ?_
          refine sv rfl (opv_as rfl) ?_
          refine snil ?_
          refine cregion ?_
          refine sv rfl (opv_mv rfl) ?_
          refine sv rfl (opv_mv rfl) ?_
          refine sv rfl (opv_conv_bv (k := .u8) (a := u6.toBitVec) rfl Tryd.underlying5 Tryd.underlying69 rfl rfl) ?_
          refine sv rfl (opv_mv rfl) ?_
          refine sv rfl (opv_mul rfl rfl) ?_
          obtain ⟨hz7, h⟩ := chk_eq h
          refine sv rfl (opv_shl_u64 (a := (u6.toBitVec.setWidth 64)) rfl rfl rfl hz7) ?_
          refine sv rfl (opv_or_u64 (a := s5.1) (b := ((u6.toBitVec.setWidth 64) <<< (wI (8 * s5.2)).toNat)) rfl rfl rfl rfl) ?_
          refine sv rfl (opv_as rfl) ?_
          refine snil0 ?_
          refine block_normal ?_
          refine then_normal ?_
          refine cregion ?_
          refine sv rfl (opv_add rfl rfl) ?_
          refine sv rfl (opv_mv rfl) ?_
          refine snil ?_
          obtain rfl := Option.some.inj h
          exact ⟨(n5, ((s5.1 ||| ((u6.toBitVec.setWidth 64) <<< (wI (8 * s5.2)).toNat)), (wI (s5.2 + 1)))), _, hk5, ⟨rfl, rfl, rfl, rfl, trivial⟩, rfl, Nat.lt_succ_self _⟩
        · replace h := ite_f hc h
          clear hc
          refine cexit ?_
          refine then_exit ?_
          refine then_exit ?_
          refine block_hit ?_
          refine then_normal ?_
          obtain rfl := Option.some.inj h
          obtain rfl : _ = x5 := hk5
          exact ⟨s5.1, _, ho5, ⟨rfl, trivial⟩, rfl⟩
    · skip
      refine cregion ?_
      refine sv rfl (opv_mv rfl) ?_
      refine sv rfl (opv_lss rfl rfl) ?_
      refine sv rfl (opv_mv rfl) ?_
      refine ssplit 13 rfl (fun hc => ?_) (fun hc => ?_)
      · replace h := ite_t hc h
        clear hc
        refine soff rfl rfl rfl rfl ?_
        refine soff rfl rfl rfl rfl ?_
        refine sv rfl (opv_pick_t rfl rfl) ?_
        refine snil ?_
        refine ccond rfl (fun _ => ?_) (fun hx => Bool.noConfusion hx)
        refine cseq ?_
        refine cregion ?_
        refine sv rfl (opv_mv rfl) ?_
        obtain ⟨v9, hv9, h⟩ := bind_eq h
        refine scallB (x' := .tup []) (M' := [.box [.fn 70 [] [.lp 1 0, .lp 2 0], .i .i64 v9], .box [.i .i64 a2], .box [.sl a3.length (a3.flatMap eU8)]]) [0, 1, 2] rfl fn48 (.func _) (opnds_cons rfl (opnds_cons rfl opnds_nil)) (m48_enc_Reader_Fails_c hv9) rfl rfl (by decide) rfl rfl rfl ?_
        refine snil ?_
        refine cseq ?_
        refine cregion ?_
        refine sv rfl (opv_as rfl) ?_
        refine snil ?_
        refine cret ?_
        refine then_ret ?_
        obtain rfl := Option.some.inj h
        exact ⟨Or.inr rfl, _, [0, 1, 2], [.one (.i .u64 ((0#64).toNat : Int))], [.box [.fn 70 [] [.lp 1 0, .lp 2 0], .i .i64 v9], .box [.i .i64 a2], .box [.sl a3.length (a3.flatMap eU8)]], (resVs_cons (ResV.tmp _ _ rfl) resVs_nil), rfl, rfl, ⟨by decide, rfl⟩, rfl, rfl, ⟨rfl, rfl⟩⟩
      · replace h := ite_f hc h
        clear hc
        refine son rfl rfl rfl ?_
        refine sv rfl (opv_mv rfl) ?_
        refine son rfl rfl rfl ?_
        refine sv rfl (opv_gtr rfl rfl) ?_
        refine sv rfl (opv_pick_f rfl rfl) ?_
        refine snil ?_
        refine ccond rfl (fun hc => ?_) (fun hc => ?_)
        · replace h := ite_t hc h
          clear hc
          refine cseq ?_
          refine cregion ?_
          refine sv rfl (opv_mv rfl) ?_
          obtain ⟨v10, hv10, h⟩ := bind_eq h
          refine scallB (x' := .tup []) (M' := [.box [.fn 70 [] [.lp 1 0, .lp 2 0], .i .i64 v10], .box [.i .i64 a2], .box [.sl a3.length (a3.flatMap eU8)]]) [0, 1, 2] rfl fn48 (.func _) (opnds_cons rfl (opnds_cons rfl opnds_nil)) (m48_enc_Reader_Fails_c hv10) rfl rfl (by decide) rfl rfl rfl ?_
          refine snil ?_
          refine cseq ?_
          refine cregion ?_
          refine sv rfl (opv_as rfl) ?_
          refine snil ?_
          refine cret ?_
          refine then_ret ?_
          obtain rfl := Option.some.inj h
          exact ⟨Or.inr rfl, _, [0, 1, 2], [.one (.i .u64 ((0#64).toNat : Int))], [.box [.fn 70 [] [.lp 1 0, .lp 2 0], .i .i64 v10], .box [.i .i64 a2], .box [.sl a3.length (a3.flatMap eU8)]], (resVs_cons (ResV.tmp _ _ rfl) resVs_nil), rfl, rfl, ⟨by decide, rfl⟩, rfl, rfl, ⟨rfl, rfl⟩⟩
        · replace h := ite_f hc h
          clear hc
          refine cskip ?_
          refine then_normal ?_
          exact ⟨(), _, h, ⟨rfl, rfl, trivial⟩, rfl⟩

def m65_enc_Reader_Flags_k2 (v1 : (BitVec 64) × Int × Int) (b2 : Int) : Option (Bool × Int × Int) :=
  some ((decide ((v1.1.toNat : Int) = (1 : Int))), b2, v1.2.2)
def m65_enc_Reader_Flags (a0 : Int) (a1 : Int) (a2 : List UInt8) : Option (Bool × Int × Int) :=
  (m46_enc_Reader_Us 1 a0 a1 a2).bind fun v1 => if (decide ((1 : Int) < (v1.1.toNat : Int))) then ((m48_enc_Reader_Fails 3 v1.2.1 v1.2.2 a2).bind fun v3 => m65_enc_Reader_Flags_k2 v1 v3) else (m65_enc_Reader_Flags_k2 v1 v1.2.1)

set_option maxRecDepth 100000 in
theorem m65_enc_Reader_Flags_c {a0 : Int} {a1 : Int} {a2 : List UInt8} {r : Bool × Int × Int} (h : m65_enc_Reader_Flags a0 a1 a2 = some r) : CallsB Tryd.prog 65 [.box [.fn 70 [] [.lp 1 0, .lp 2 0], .i .i64 a0], .box [.i .i64 a1], .box [.sl a2.length (a2.flatMap eU8)]] [.one (.lp 0 0)] (fun y m' => y = .s (.one (.b r.1)) ∧ m' = [.box [.fn 70 [] [.lp 1 0, .lp 2 0], .i .i64 r.2.1], .box [.i .i64 r.2.2], .box [.sl a2.length (a2.flatMap eU8)]]) := by
  unfold m65_enc_Reader_Flags at h
  refine callsB_of Tryd.func65 rfl (nt := 12) rfl (Nat.le_of_ble_eq_true rfl) ?_
  intro w0 S0 X0 H0
  refine cseq ?_
  refine cregion ?_
  refine sv rfl (opv_as rfl) ?_
  refine snil ?_
  refine cseq ?_
  refine cregion ?_
  refine sv rfl (opv_mv rfl) ?_
  obtain ⟨v1, hv1, h⟩ := bind_eq h
  refine scallB (x' := .s (.one (.i .u64 (v1.1.toNat : Int)))) (M' := [.box [.fn 70 [] [.lp 1 0, .lp 2 0], .i .i64 v1.2.1], .box [.i .i64 v1.2.2], .box [.sl a2.length (a2.flatMap eU8)]]) [0, 1, 2] rfl fn46 (.func _) (opnds_cons rfl (opnds_cons rfl opnds_nil)) (m46_enc_Reader_Us_c hv1) rfl rfl (by decide) rfl rfl rfl ?_
  refine sv rfl (opv_as rfl) ?_
  refine snil ?_
  refine cseq ?_
  refine cseq ?_
  refine cregion ?_
  refine sv rfl (opv_mv rfl) ?_
  refine sv rfl (opv_gtr rfl rfl) ?_
  refine snil ?_
  refine cjoin (Int) (fun b2 => [(3, .s (.one (.i .u64 (v1.1.toNat : Int))))]) (fun b2 => [.box [.fn 70 [] [.lp 1 0, .lp 2 0], .i .i64 b2], .box [.i .i64 v1.2.2], .box [.sl a2.length (a2.flatMap eU8)]]) (fun b2 => m65_enc_Reader_Flags_k2 v1 b2 = some r) (fun _ _ => inbL_of rfl) (fun _ _ => blkinb_of rfl) (fun _ _ => Nat.le_of_ble_eq_true rfl) (fun b2 h => ?_) ?_
  · unfold m65_enc_Reader_Flags_k2 at h
    refine cseq ?_
    refine cregion ?_
    refine sv rfl (opv_mv rfl) ?_
    refine sv rfl (opv_ieql rfl rfl) ?_
    refine sv rfl (opv_as rfl) ?_
    refine snil ?_
    refine cret ?_
    obtain rfl := Option.some.inj h
    exact ⟨Or.inr rfl, _, [0, 1, 2], [.one (.b (decide ((v1.1.toNat : Int) = (1 : Int))))], [.box [.fn 70 [] [.lp 1 0, .lp 2 0], .i .i64 b2], .box [.i .i64 v1.2.2], .box [.sl a2.length (a2.flatMap eU8)]], (resVs_cons (ResV.tmp _ _ rfl) resVs_nil), rfl, rfl, ⟨by decide, rfl⟩, rfl, rfl, ⟨rfl, rfl⟩⟩
  · skip
    refine ccond rfl (fun hc => ?_) (fun hc => ?_)
    · replace h := ite_t hc h
      clear hc
      refine cregion ?_
      refine sv rfl (opv_mv rfl) ?_
      obtain ⟨v3, hv3, h⟩ := bind_eq h
      refine scallB (x' := .tup []) (M' := [.box [.fn 70 [] [.lp 1 0, .lp 2 0], .i .i64 v3], .box [.i .i64 v1.2.2], .box [.sl a2.length (a2.flatMap eU8)]]) [0, 1, 2] rfl fn48 (.func _) (opnds_cons rfl (opnds_cons rfl opnds_nil)) (m48_enc_Reader_Fails_c hv3) rfl rfl (by decide) rfl rfl rfl ?_
      refine snil ?_
      exact ⟨v3, _, h, ⟨rfl, trivial⟩, rfl⟩
    · replace h := ite_f hc h
      clear hc
      refine cskip ?_
      refine then_normal ?_
      exact ⟨v1.2.1, _, h, ⟨rfl, trivial⟩, rfl⟩

def m75_slices_Cloneo (a0 : List UInt8) : Option (List UInt8) :=
  if (([] : List UInt8).length + a0.length) * 1 ≤ 140737488355328 then (some (([] : List UInt8) ++ a0)) else none

set_option maxRecDepth 100000 in
theorem m75_slices_Cloneo_c {a0 : List UInt8} {r : (List UInt8)} (h : m75_slices_Cloneo a0 = some r) : CallsB Tryd.prog 75 [] [.one (.sl a0.length (a0.flatMap eU8))] (fun y m' => y = .s (.one (.ls 0 r.length)) ∧ m' = [.arr 5 1 0 (r.flatMap eU8)]) := by
  unfold m75_slices_Cloneo at h
  refine callsB_of Tryd.func75 rfl (nt := 8) rfl (Nat.le_of_ble_eq_true rfl) ?_
  intro w0 S0 X0 H0
  refine cseq ?_
  refine cregion ?_
  refine sv rfl (opv_as rfl) ?_
  refine snil ?_
  refine cseq ?_
  refine cseq ?_
  refine cregion ?_
  refine sv rfl (opv_mv rfl) ?_
  refine snilq rfl Tryd.underlying22 rfl (fun nq hnq => ?_)
  cases nq
  · skip
    refine snil ?_
    refine ccond rfl (fun hx => Bool.noConfusion hx) (fun _ => ?_)
    refine cskip ?_
    refine then_normal ?_
    refine cseq ?_
    refine cregion ?_
    refine sbuild0 rfl Tryd.underlying22 ei5 ?_
    refine sv rfl (opv_mv rfl) ?_
    obtain ⟨hb1, h⟩ := chk_eq h
    refine sapp (f := eU8) (xs := ([] : List UInt8)) (us := a0) rfl Tryd.underlying22 ei5 ni22 (fun _ => rfl) rfl rfl (.one _ _ _ _ (.id _ rfl)) rfl rfl rfl (.sl _ _ _ (flat_len (f := eU8) (fun _ => rfl) _)) rfl rfl hb1 (by decide) ?_
    refine sv rfl (opv_as rfl) ?_
    refine snil ?_
    refine cret ?_
    obtain rfl := Option.some.inj h
    exact ⟨Or.inr rfl, _, [0], [.one (.ls 0 (([] : List UInt8) ++ a0).length)], [.arr 5 1 0 ((([] : List UInt8) ++ a0).flatMap eU8)], (resVs_cons (ResV.tmp _ _ rfl) resVs_nil), rfl, rfl, ⟨by decide, rfl⟩, rfl, rfl, ⟨rfl, rfl⟩⟩
  · obtain rfl := List.eq_nil_of_length_eq_zero (hnq rfl)
    replace h : (some ([] : List UInt8)) = some r := by first | exact h | (rw [if_pos (by decide)] at h; exact h)
    refine snil ?_
    refine ccond rfl (fun _ => ?_) (fun hx => Bool.noConfusion hx)
    refine cseq ?_
    refine cregion ?_
    refine sv rfl (opv_as rfl) ?_
    refine snil ?_
    refine sadopt_c 5 1 2 (by decide) rfl ?_
    refine cret ?_
    refine then_ret ?_
    obtain rfl := Option.some.inj h
    exact ⟨Or.inr rfl, _, [0], [.one (.ls 0 ([] : List UInt8).length)], [.arr 5 1 0 (([] : List UInt8).flatMap eU8)], (resVs_cons (ResV.tmp _ _ rfl) resVs_nil), rfl, rfl, ⟨by decide, rfl⟩, rfl, rfl, ⟨rfl, rfl⟩⟩

def m66_enc_Reader_Lists (a0 : Int) (a1 : Int) (a2 : Int) (a3 : List UInt8) : Option ((List UInt8) × Int × Int) :=
  (m46_enc_Reader_Us 2 a1 a2 a3).bind fun v1 => (m71_enc_Reader_Errs v1.2.1 v1.2.2 a3).bind fun v2 => if (!decide (v2 = 0)) then (some (([] : List UInt8), v1.2.1, v1.2.2)) else (if (decide (a0 < (wI (v1.1.toNat : Int)))) then ((m48_enc_Reader_Fails 5 v1.2.1 v1.2.2 a3).bind fun v3 => some (([] : List UInt8), v3, v1.2.2)) else ((m72_enc_Reader_takes (wI (v1.1.toNat : Int)) v1.2.1 v1.2.2 a3).bind fun v4 => (m75_slices_Cloneo v4.1).bind fun v5 => some (v5, v4.2.1, v4.2.2)))

set_option maxRecDepth 100000 in
theorem m66_enc_Reader_Lists_c {a0 : Int} {a1 : Int} {a2 : Int} {a3 : List UInt8} {r : (List UInt8) × Int × Int} (h : m66_enc_Reader_Lists a0 a1 a2 a3 = some r) : CallsB Tryd.prog 66 [.box [.fn 70 [] [.lp 1 0, .lp 2 0], .i .i64 a1], .box [.i .i64 a2], .box [.sl a3.length (a3.flatMap eU8)]] [.one (.lp 0 0), .one (.i .i64 a0)] (fun y m' => y = .s (.one (.sl r.1.length (r.1.flatMap eU8))) ∧ m' = [.box [.fn 70 [] [.lp 1 0, .lp 2 0], .i .i64 r.2.1], .box [.i .i64 r.2.2], .box [.sl a3.length (a3.flatMap eU8)]]) := by
  unfold m66_enc_Reader_Lists at h
  refine callsB_of Tryd.func66 rfl (nt := 21) rfl (Nat.le_of_ble_eq_true rfl) ?_
  intro w0 S0 X0 H0
  refine cseq ?_
  refine cregion ?_
  refine sv rfl (opv_as rfl) ?_
  refine snil ?_
  refine cseq ?_
  refine cregion ?_
  refine sv rfl (opv_mv rfl) ?_
  obtain ⟨v1, hv1, h⟩ := bind_eq h
  refine scallB (x' := .s (.one (.i .u64 (v1.1.toNat : Int)))) (M' := [.box [.fn 70 [] [.lp 1 0, .lp 2 0], .i .i64 v1.2.1], .box [.i .i64 v1.2.2], .box [.sl a3.length (a3.flatMap eU8)]]) [0, 1, 2] rfl fn46 (.func _) (opnds_cons rfl (opnds_cons rfl opnds_nil)) (m46_enc_Reader_Us_c hv1) rfl rfl (by decide) rfl rfl rfl ?_
  refine sv rfl (opv_conv_int Tryd.underlying69 Tryd.underlying3 rfl) ?_
  refine sv rfl (opv_as rfl) ?_
  refine snil ?_
  refine cseq ?_
  refine cseq ?_
  refine cregion ?_
  refine sv rfl (opv_mv rfl) ?_
  obtain ⟨v2, hv2, h⟩ := bind_eq h
  refine scallB (x' := .s (.one (.i .i64 v2))) (M' := [.box [.fn 70 [] [.lp 1 0, .lp 2 0], .i .i64 v1.2.1], .box [.i .i64 v1.2.2], .box [.sl a3.length (a3.flatMap eU8)]]) [0, 1, 2] rfl fn71 (.func _) (opnds_cons rfl opnds_nil) (m71_enc_Reader_Errs_c hv2) rfl rfl (by decide) rfl rfl rfl ?_
  refine sv rfl (opv_ineq rfl rfl) ?_
  refine snil ?_
  refine ccond rfl (fun hc => ?_) (fun hc => ?_)
  · replace h := ite_t hc h
    clear hc
    refine cseq ?_
    refine cregion ?_
    refine sv rfl (opv_as rfl) ?_
    refine snil ?_
    refine cpub 4 rfl (by (repeat' first | exact PubA.nil _ | apply PubA.cons | apply PubV.one | apply PubV.agg | exact PubL.nil | exact PubL.id _ rfl | exact PubLs.nil _ | apply PubLs.cons)) ?_
    refine cret ?_
    refine then_ret ?_
    obtain rfl := Option.some.inj h
    exact ⟨Or.inr rfl, _, [0, 1, 2], [.one (.sl ([] : List UInt8).length (([] : List UInt8).flatMap eU8))], [.box [.fn 70 [] [.lp 1 0, .lp 2 0], .i .i64 v1.2.1], .box [.i .i64 v1.2.2], .box [.sl a3.length (a3.flatMap eU8)]], (resVs_cons (ResV.tmp _ _ rfl) resVs_nil), rfl, rfl, ⟨by decide, rfl⟩, rfl, rfl, ⟨rfl, rfl⟩⟩
  · replace h := ite_f hc h
    clear hc
    refine cskip ?_
    refine then_normal ?_
    refine cseq ?_
    refine cseq ?_
    refine cregion ?_
    refine sv rfl (opv_mv rfl) ?_
    refine sv rfl (opv_mv rfl) ?_
    refine sv rfl (opv_gtr rfl rfl) ?_
    refine snil ?_
    refine ccond rfl (fun hc => ?_) (fun hc => ?_)
    · replace h := ite_t hc h
      clear hc
      refine cseq ?_
      refine cregion ?_
      refine sv rfl (opv_mv rfl) ?_
      obtain ⟨v3, hv3, h⟩ := bind_eq h
      refine scallB (x' := .tup []) (M' := [.box [.fn 70 [] [.lp 1 0, .lp 2 0], .i .i64 v3], .box [.i .i64 v1.2.2], .box [.sl a3.length (a3.flatMap eU8)]]) [0, 1, 2] rfl fn48 (.func _) (opnds_cons rfl (opnds_cons rfl opnds_nil)) (m48_enc_Reader_Fails_c hv3) rfl rfl (by decide) rfl rfl rfl ?_
      refine snil ?_
      refine cseq ?_
      refine cregion ?_
      refine sv rfl (opv_as rfl) ?_
      refine snil ?_
      refine cpub 4 rfl (by (repeat' first | exact PubA.nil _ | apply PubA.cons | apply PubV.one | apply PubV.agg | exact PubL.nil | exact PubL.id _ rfl | exact PubLs.nil _ | apply PubLs.cons)) ?_
      refine cret ?_
      refine then_ret ?_
      obtain rfl := Option.some.inj h
      exact ⟨Or.inr rfl, _, [0, 1, 2], [.one (.sl ([] : List UInt8).length (([] : List UInt8).flatMap eU8))], [.box [.fn 70 [] [.lp 1 0, .lp 2 0], .i .i64 v3], .box [.i .i64 v1.2.2], .box [.sl a3.length (a3.flatMap eU8)]], (resVs_cons (ResV.tmp _ _ rfl) resVs_nil), rfl, rfl, ⟨by decide, rfl⟩, rfl, rfl, ⟨rfl, rfl⟩⟩
    · replace h := ite_f hc h
      clear hc
      refine cskip ?_
      refine then_normal ?_
      refine cseq ?_
      refine cregion ?_
      refine sv rfl (opv_mv rfl) ?_
      refine sv rfl (opv_mv rfl) ?_
      obtain ⟨v4, hv4, h⟩ := bind_eq h
      refine scallB (x' := .s (.one (.sl v4.1.length (v4.1.flatMap eU8)))) (M' := [.box [.fn 70 [] [.lp 1 0, .lp 2 0], .i .i64 v4.2.1], .box [.i .i64 v4.2.2], .box [.sl a3.length (a3.flatMap eU8)]]) [0, 1, 2] rfl fn72 (.func _) (opnds_cons rfl (opnds_cons rfl opnds_nil)) (m72_enc_Reader_takes_c hv4) rfl rfl (by decide) rfl rfl rfl ?_
      obtain ⟨v5, hv5, h⟩ := bind_eq h
      refine scallB (x' := .s (.one (.ls 3 v5.length))) (M' := [.box [.fn 70 [] [.lp 1 0, .lp 2 0], .i .i64 v4.2.1], .box [.i .i64 v4.2.2], .box [.sl a3.length (a3.flatMap eU8)], .arr 5 1 0 (v5.flatMap eU8)]) [] rfl fn75 (.func _) (opnds_cons rfl opnds_nil) (m75_slices_Cloneo_c hv5) rfl rfl (by decide) rfl rfl rfl ?_
      refine sv rfl (opv_as rfl) ?_
      refine snil ?_
      refine cpub 4 rfl (by (repeat' first | exact PubA.nil _ | apply PubA.cons | apply PubV.one | apply PubV.agg | exact PubL.nil | exact PubL.ls _ _ _ _ _ _ rfl (flat_len (f := eU8) (fun _ => rfl) _).symm | exact PubL.id _ rfl | exact PubLs.nil _ | apply PubLs.cons)) ?_
      refine cret ?_
      obtain rfl := Option.some.inj h
      exact ⟨Or.inr rfl, _, [0, 1, 2], [.one (.sl v5.length (v5.flatMap eU8))], [.box [.fn 70 [] [.lp 1 0, .lp 2 0], .i .i64 v4.2.1], .box [.i .i64 v4.2.2], .box [.sl a3.length (a3.flatMap eU8)]], (resVs_cons (ResV.tmp _ _ rfl) resVs_nil), rfl, rfl, ⟨by decide, rfl⟩, rfl, rfl, ⟨rfl, rfl⟩⟩

def m49_msg_readPartss_k5 (a0 : GMsgParts) (a9 : List UInt8) (a10 : List UInt8) (a11 : Bool) (a13 : List UInt8) (b1 : Int × Int × Int) (b2 : Int × Int × Int) (b3 : Int × Bool × Int) (b4 : Int × (List UInt8) × Int) (b5 : Int × (List UInt8) × Int) : Option (Int × Int × Int × Bool × (List UInt8) × (List UInt8) × (List UInt8) × (List UInt8) × Bool × Int) :=
  if a0.rng_ then ((m66_enc_Reader_Lists 16 b5.1 b5.2.2 a13).bind fun v6 => (m65_enc_Reader_Flags v6.2.1 v6.2.2 a13).bind fun v7 => (m66_enc_Reader_Lists 16 v7.2.1 v7.2.2 a13).bind fun v8 => some (v8.2.1, b1.2.1, b2.2.1, b3.2.1, b4.2.1, b5.2.1, v6.1, v8.1, v7.1, v8.2.2)) else (some (b5.1, b1.2.1, b2.2.1, b3.2.1, b4.2.1, b5.2.1, a9, a10, a11, b5.2.2))

def m49_msg_readPartss_k4 (a0 : GMsgParts) (a8 : List UInt8) (a9 : List UInt8) (a10 : List UInt8) (a11 : Bool) (a13 : List UInt8) (b1 : Int × Int × Int) (b2 : Int × Int × Int) (b3 : Int × Bool × Int) (b4 : Int × (List UInt8) × Int) : Option (Int × Int × Int × Bool × (List UInt8) × (List UInt8) × (List UInt8) × (List UInt8) × Bool × Int) :=
  if a0.val_ then ((m66_enc_Reader_Lists 32 b4.1 b4.2.2 a13).bind fun v9 => m49_msg_readPartss_k5 a0 a9 a10 a11 a13 b1 b2 b3 b4 (v9.2.1, v9.1, v9.2.2)) else (m49_msg_readPartss_k5 a0 a9 a10 a11 a13 b1 b2 b3 b4 (b4.1, a8, b4.2.2))

def m49_msg_readPartss_k3 (a0 : GMsgParts) (a7 : List UInt8) (a8 : List UInt8) (a9 : List UInt8) (a10 : List UInt8) (a11 : Bool) (a13 : List UInt8) (b1 : Int × Int × Int) (b2 : Int × Int × Int) (b3 : Int × Bool × Int) : Option (Int × Int × Int × Bool × (List UInt8) × (List UInt8) × (List UInt8) × (List UInt8) × Bool × Int) :=
  if a0.key_ then ((m66_enc_Reader_Lists 16 b3.1 b3.2.2 a13).bind fun v10 => m49_msg_readPartss_k4 a0 a8 a9 a10 a11 a13 b1 b2 b3 (v10.2.1, v10.1, v10.2.2)) else (m49_msg_readPartss_k4 a0 a8 a9 a10 a11 a13 b1 b2 b3 (b3.1, a7, b3.2.2))

def m49_msg_readPartss_k2 (a0 : GMsgParts) (a6 : Bool) (a7 : List UInt8) (a8 : List UInt8) (a9 : List UInt8) (a10 : List UInt8) (a11 : Bool) (a13 : List UInt8) (b1 : Int × Int × Int) (b2 : Int × Int × Int) : Option (Int × Int × Int × Bool × (List UInt8) × (List UInt8) × (List UInt8) × (List UInt8) × Bool × Int) :=
  if a0.ro_ then ((m65_enc_Reader_Flags b2.1 b2.2.2 a13).bind fun v11 => m49_msg_readPartss_k3 a0 a7 a8 a9 a10 a11 a13 b1 b2 (v11.2.1, v11.1, v11.2.2)) else (m49_msg_readPartss_k3 a0 a7 a8 a9 a10 a11 a13 b1 b2 (b2.1, a6, b2.2.2))

def m49_msg_readPartss_k1 (a0 : GMsgParts) (a5 : Int) (a6 : Bool) (a7 : List UInt8) (a8 : List UInt8) (a9 : List UInt8) (a10 : List UInt8) (a11 : Bool) (a13 : List UInt8) (b1 : Int × Int × Int) : Option (Int × Int × Int × Bool × (List UInt8) × (List UInt8) × (List UInt8) × (List UInt8) × Bool × Int) :=
  if a0.attempt_ then ((m46_enc_Reader_Us 2 b1.1 b1.2.2 a13).bind fun v12 => m49_msg_readPartss_k2 a0 a6 a7 a8 a9 a10 a11 a13 b1 (v12.2.1, (wI (v12.1.toNat : Int)), v12.2.2)) else (m49_msg_readPartss_k2 a0 a6 a7 a8 a9 a10 a11 a13 b1 (b1.1, a5, b1.2.2))
def m49_msg_readPartss (a0 : GMsgParts) (a1 : Int) (a2 : Int) (a3 : Int) (a4 : Int) (a5 : Int) (a6 : Bool) (a7 : List UInt8) (a8 : List UInt8) (a9 : List UInt8) (a10 : List UInt8) (a11 : Bool) (a12 : Int) (a13 : List UInt8) : Option (Int × Int × Int × Bool × (List UInt8) × (List UInt8) × (List UInt8) × (List UInt8) × Bool × Int) :=
  if a0.token_ then ((m46_enc_Reader_Us 8 a1 a12 a13).bind fun v13 => m49_msg_readPartss_k1 a0 a5 a6 a7 a8 a9 a10 a11 a13 (v13.2.1, (wI (v13.1.toNat : Int)), v13.2.2)) else (m49_msg_readPartss_k1 a0 a5 a6 a7 a8 a9 a10 a11 a13 (a1, a4, a12))

set_option maxRecDepth 100000 in
theorem m49_msg_readPartss_c {a0 : GMsgParts} {a1 : Int} {a2 : Int} {a3 : Int} {a4 : Int} {a5 : Int} {a6 : Bool} {a7 : List UInt8} {a8 : List UInt8} {a9 : List UInt8} {a10 : List UInt8} {a11 : Bool} {a12 : Int} {a13 : List UInt8} {r : Int × Int × Int × Bool × (List UInt8) × (List UInt8) × (List UInt8) × (List UInt8) × Bool × Int} (h : m49_msg_readPartss a0 a1 a2 a3 a4 a5 a6 a7 a8 a9 a10 a11 a12 a13 = some r) : CallsB Tryd.prog 49 [.box [.fn 70 [] [.lp 2 0, .lp 3 0], .i .i64 a1], .box [.i .i64 a2, .i .i64 a3, .i .i64 a4, .i .i64 a5, .b a6, .sl a7.length (a7.flatMap eU8), .sl a8.length (a8.flatMap eU8), .sl a9.length (a9.flatMap eU8), .sl a10.length (a10.flatMap eU8), .b a11], .box [.i .i64 a12], .box [.sl a13.length (a13.flatMap eU8)]] [.one (.lp 0 0), .one (.lp 1 0), .agg [.b a0.token_, .b a0.attempt_, .b a0.ro_, .b a0.key_, .b a0.val_, .b a0.rng_]] (fun y m' => y = .tup [] ∧ m' = [.box [.fn 70 [] [.lp 2 0, .lp 3 0], .i .i64 r.1], .box [.i .i64 a2, .i .i64 a3, .i .i64 r.2.1, .i .i64 r.2.2.1, .b r.2.2.2.1, .sl r.2.2.2.2.1.length (r.2.2.2.2.1.flatMap eU8), .sl r.2.2.2.2.2.1.length (r.2.2.2.2.2.1.flatMap eU8), .sl r.2.2.2.2.2.2.1.length (r.2.2.2.2.2.2.1.flatMap eU8), .sl r.2.2.2.2.2.2.2.1.length (r.2.2.2.2.2.2.2.1.flatMap eU8), .b r.2.2.2.2.2.2.2.2.1], .box [.i .i64 r.2.2.2.2.2.2.2.2.2], .box [.sl a13.length (a13.flatMap eU8)]]) := by
  unfold m49_msg_readPartss at h
  refine callsB_of Tryd.func49 rfl (nt := 63) rfl (Nat.le_of_ble_eq_true rfl) ?_
  intro w0 S0 X0 H0
  refine cseq ?_
  refine cregion ?_
  refine sbox rfl rfl ?_
  refine snil ?_
  refine cseq ?_
  refine cseq ?_
  refine cregion ?_
  refine sv rfl (opv_fieldAddr_lp fi66_0 rfl) ?_
  refine sv rfl (opv_load1 ti4 rfl (.lp _ _ _ rfl) rfl) ?_
  refine snil ?_
  refine cjoin (Int × Int × Int) (fun b1 => [(0, .s (.one (.lp 0 0))), (1, .s (.one (.lp 1 0))), (5, .s (.one (.lp 4 0)))]) (fun b1 => [.box [.fn 70 [] [.lp 2 0, .lp 3 0], .i .i64 b1.1], .box [.i .i64 a2, .i .i64 a3, .i .i64 b1.2.1, .i .i64 a5, .b a6, .sl a7.length (a7.flatMap eU8), .sl a8.length (a8.flatMap eU8), .sl a9.length (a9.flatMap eU8), .sl a10.length (a10.flatMap eU8), .b a11], .box [.i .i64 b1.2.2], .box [.sl a13.length (a13.flatMap eU8)], .box [.b a0.token_, .b a0.attempt_, .b a0.ro_, .b a0.key_, .b a0.val_, .b a0.rng_]]) (fun b1 => m49_msg_readPartss_k1 a0 a5 a6 a7 a8 a9 a10 a11 a13 b1 = some r) (fun _ _ => inbL_of rfl) (fun _ _ => blkinb_of rfl) (fun _ _ => Nat.le_of_ble_eq_true rfl) (fun b1 h => ?_) ?_
  · unfold m49_msg_readPartss_k1 at h
    refine cseq ?_
    refine cseq ?_
    refine cregion ?_
    refine sv rfl (opv_fieldAddr_lp fi66_1 rfl) ?_
    refine sv rfl (opv_load1 ti4 rfl (.lp _ _ _ rfl) rfl) ?_
    refine snil ?_
    refine cjoin (Int × Int × Int) (fun b2 => [(0, .s (.one (.lp 0 0))), (1, .s (.one (.lp 1 0))), (5, .s (.one (.lp 4 0)))]) (fun b2 => [.box [.fn 70 [] [.lp 2 0, .lp 3 0], .i .i64 b2.1], .box [.i .i64 a2, .i .i64 a3, .i .i64 b1.2.1, .i .i64 b2.2.1, .b a6, .sl a7.length (a7.flatMap eU8), .sl a8.length (a8.flatMap eU8), .sl a9.length (a9.flatMap eU8), .sl a10.length (a10.flatMap eU8), .b a11], .box [.i .i64 b2.2.2], .box [.sl a13.length (a13.flatMap eU8)], .box [.b a0.token_, .b a0.attempt_, .b a0.ro_, .b a0.key_, .b a0.val_, .b a0.rng_]]) (fun b2 => m49_msg_readPartss_k2 a0 a6 a7 a8 a9 a10 a11 a13 b1 b2 = some r) (fun _ _ => inbL_of rfl) (fun _ _ => blkinb_of rfl) (fun _ _ => Nat.le_of_ble_eq_true rfl) (fun b2 h => ?_) ?_
    · unfold m49_msg_readPartss_k2 at h
      refine cseq ?_
      refine cseq ?_
      refine cregion ?_
      refine sv rfl (opv_fieldAddr_lp fi66_2 rfl) ?_
      refine sv rfl (opv_load1 ti4 rfl (.lp _ _ _ rfl) rfl) ?_
      refine snil ?_
      refine cjoin (Int × Bool × Int) (fun b3 => [(0, .s (.one (.lp 0 0))), (1, .s (.one (.lp 1 0))), (5, .s (.one (.lp 4 0)))]) (fun b3 => [.box [.fn 70 [] [.lp 2 0, .lp 3 0], .i .i64 b3.1], .box [.i .i64 a2, .i .i64 a3, .i .i64 b1.2.1, .i .i64 b2.2.1, .b b3.2.1, .sl a7.length (a7.flatMap eU8), .sl a8.length (a8.flatMap eU8), .sl a9.length (a9.flatMap eU8), .sl a10.length (a10.flatMap eU8), .b a11], .box [.i .i64 b3.2.2], .box [.sl a13.length (a13.flatMap eU8)], .box [.b a0.token_, .b a0.attempt_, .b a0.ro_, .b a0.key_, .b a0.val_, .b a0.rng_]]) (fun b3 => m49_msg_readPartss_k3 a0 a7 a8 a9 a10 a11 a13 b1 b2 b3 = some r) (fun _ _ => inbL_of rfl) (fun _ _ => blkinb_of rfl) (fun _ _ => Nat.le_of_ble_eq_true rfl) (fun b3 h => ?_) ?_
      · unfold m49_msg_readPartss_k3 at h
        refine cseq ?_
        refine cseq ?_
        refine cregion ?_
        refine sv rfl (opv_fieldAddr_lp fi66_3 rfl) ?_
        refine sv rfl (opv_load1 ti4 rfl (.lp _ _ _ rfl) rfl) ?_
        refine snil ?_
        refine cjoin (Int × (List UInt8) × Int) (fun b4 => [(0, .s (.one (.lp 0 0))), (1, .s (.one (.lp 1 0))), (5, .s (.one (.lp 4 0)))]) (fun b4 => [.box [.fn 70 [] [.lp 2 0, .lp 3 0], .i .i64 b4.1], .box [.i .i64 a2, .i .i64 a3, .i .i64 b1.2.1, .i .i64 b2.2.1, .b b3.2.1, .sl b4.2.1.length (b4.2.1.flatMap eU8), .sl a8.length (a8.flatMap eU8), .sl a9.length (a9.flatMap eU8), .sl a10.length (a10.flatMap eU8), .b a11], .box [.i .i64 b4.2.2], .box [.sl a13.length (a13.flatMap eU8)], .box [.b a0.token_, .b a0.attempt_, .b a0.ro_, .b a0.key_, .b a0.val_, .b a0.rng_]]) (fun b4 => m49_msg_readPartss_k4 a0 a8 a9 a10 a11 a13 b1 b2 b3 b4 = some r) (fun _ _ => inbL_of rfl) (fun _ _ => blkinb_of rfl) (fun _ _ => Nat.le_of_ble_eq_true rfl) (fun b4 h => ?_) ?_
        · unfold m49_msg_readPartss_k4 at h
          refine cseq ?_
          refine cseq ?_
          refine cregion ?_
          refine sv rfl (opv_fieldAddr_lp fi66_4 rfl) ?_
          refine sv rfl (opv_load1 ti4 rfl (.lp _ _ _ rfl) rfl) ?_
          refine snil ?_
          refine cjoin (Int × (List UInt8) × Int) (fun b5 => [(0, .s (.one (.lp 0 0))), (1, .s (.one (.lp 1 0))), (5, .s (.one (.lp 4 0)))]) (fun b5 => [.box [.fn 70 [] [.lp 2 0, .lp 3 0], .i .i64 b5.1], .box [.i .i64 a2, .i .i64 a3, .i .i64 b1.2.1, .i .i64 b2.2.1, .b b3.2.1, .sl b4.2.1.length (b4.2.1.flatMap eU8), .sl b5.2.1.length (b5.2.1.flatMap eU8), .sl a9.length (a9.flatMap eU8), .sl a10.length (a10.flatMap eU8), .b a11], .box [.i .i64 b5.2.2], .box [.sl a13.length (a13.flatMap eU8)], .box [.b a0.token_, .b a0.attempt_, .b a0.ro_, .b a0.key_, .b a0.val_, .b a0.rng_]]) (fun b5 => m49_msg_readPartss_k5 a0 a9 a10 a11 a13 b1 b2 b3 b4 b5 = some r) (fun _ _ => inbL_of rfl) (fun _ _ => blkinb_of rfl) (fun _ _ => Nat.le_of_ble_eq_true rfl) (fun b5 h => ?_) ?_
          · unfold m49_msg_readPartss_k5 at h
            refine cseq ?_
            refine cregion ?_
            refine sv rfl (opv_fieldAddr_lp fi66_5 rfl) ?_
            refine sv rfl (opv_load1 ti4 rfl (.lp _ _ _ rfl) rfl) ?_
            refine snil ?_
            refine ccond rfl (fun hc => ?_) (fun hc => ?_)
            · replace h := ite_t hc h
              clear hc
              refine cseq ?_
              refine cregion ?_
              refine sv rfl (opv_mv rfl) ?_
              refine sv rfl (opv_mv rfl) ?_
              obtain ⟨v6, hv6, h⟩ := bind_eq h
              refine scallB (x' := .s (.one (.sl v6.1.length (v6.1.flatMap eU8)))) (M' := [.box [.fn 70 [] [.lp 2 0, .lp 3 0], .i .i64 v6.2.1], .box [.i .i64 a2, .i .i64 a3, .i .i64 b1.2.1, .i .i64 b2.2.1, .b b3.2.1, .sl b4.2.1.length (b4.2.1.flatMap eU8), .sl b5.2.1.length (b5.2.1.flatMap eU8), .sl a9.length (a9.flatMap eU8), .sl a10.length (a10.flatMap eU8), .b a11], .box [.i .i64 v6.2.2], .box [.sl a13.length (a13.flatMap eU8)], .box [.b a0.token_, .b a0.attempt_, .b a0.ro_, .b a0.key_, .b a0.val_, .b a0.rng_]]) [0, 2, 3] rfl fn66 (.func _) (opnds_cons rfl (opnds_cons rfl opnds_nil)) (m66_enc_Reader_Lists_c hv6) rfl rfl (by decide) rfl rfl rfl ?_
              refine sv rfl (opv_nilCheck rfl rfl (fun _ _ _ h => by cases h)) ?_
              refine sv rfl (opv_fieldAddr_lp fi32_7 rfl) ?_
              refine sv rfl (opv_fieldAddr_lp fi24_0 rfl) ?_
              refine sstore sz22 rfl rfl rfl rfl (Nat.le_of_ble_eq_true rfl) ?_
              refine smem [.box [.fn 70 [] [.lp 2 0, .lp 3 0], .i .i64 v6.2.1], .box [.i .i64 a2, .i .i64 a3, .i .i64 b1.2.1, .i .i64 b2.2.1, .b b3.2.1, .sl b4.2.1.length (b4.2.1.flatMap eU8), .sl b5.2.1.length (b5.2.1.flatMap eU8), .sl v6.1.length (v6.1.flatMap eU8), .sl a10.length (a10.flatMap eU8), .b a11], .box [.i .i64 v6.2.2], .box [.sl a13.length (a13.flatMap eU8)], .box [.b a0.token_, .b a0.attempt_, .b a0.ro_, .b a0.key_, .b a0.val_, .b a0.rng_]] rfl ?_
              refine snil ?_
              refine cseq ?_
              refine cregion ?_
              refine sv rfl (opv_mv rfl) ?_
              refine sv rfl (opv_mv rfl) ?_
              obtain ⟨v7, hv7, h⟩ := bind_eq h
              refine scallB (x' := .s (.one (.b v7.1))) (M' := [.box [.fn 70 [] [.lp 2 0, .lp 3 0], .i .i64 v7.2.1], .box [.i .i64 a2, .i .i64 a3, .i .i64 b1.2.1, .i .i64 b2.2.1, .b b3.2.1, .sl b4.2.1.length (b4.2.1.flatMap eU8), .sl b5.2.1.length (b5.2.1.flatMap eU8), .sl v6.1.length (v6.1.flatMap eU8), .sl a10.length (a10.flatMap eU8), .b a11], .box [.i .i64 v7.2.2], .box [.sl a13.length (a13.flatMap eU8)], .box [.b a0.token_, .b a0.attempt_, .b a0.ro_, .b a0.key_, .b a0.val_, .b a0.rng_]]) [0, 2, 3] rfl fn65 (.func _) (opnds_cons rfl opnds_nil) (m65_enc_Reader_Flags_c hv7) rfl rfl (by decide) rfl rfl rfl ?_
              refine sv rfl (opv_nilCheck rfl rfl (fun _ _ _ h => by cases h)) ?_
              refine sv rfl (opv_fieldAddr_lp fi32_7 rfl) ?_
              refine sv rfl (opv_fieldAddr_lp fi24_2 rfl) ?_
              refine sstore sz4 rfl rfl rfl rfl (Nat.le_of_ble_eq_true rfl) ?_
              refine smem [.box [.fn 70 [] [.lp 2 0, .lp 3 0], .i .i64 v7.2.1], .box [.i .i64 a2, .i .i64 a3, .i .i64 b1.2.1, .i .i64 b2.2.1, .b b3.2.1, .sl b4.2.1.length (b4.2.1.flatMap eU8), .sl b5.2.1.length (b5.2.1.flatMap eU8), .sl v6.1.length (v6.1.flatMap eU8), .sl a10.length (a10.flatMap eU8), .b v7.1], .box [.i .i64 v7.2.2], .box [.sl a13.length (a13.flatMap eU8)], .box [.b a0.token_, .b a0.attempt_, .b a0.ro_, .b a0.key_, .b a0.val_, .b a0.rng_]] rfl ?_
              refine snil ?_
              refine cregion ?_
              refine sv rfl (opv_mv rfl) ?_
              refine sv rfl (opv_mv rfl) ?_
              obtain ⟨v8, hv8, h⟩ := bind_eq h
              refine scallB (x' := .s (.one (.sl v8.1.length (v8.1.flatMap eU8)))) (M' := [.box [.fn 70 [] [.lp 2 0, .lp 3 0], .i .i64 v8.2.1], .box [.i .i64 a2, .i .i64 a3, .i .i64 b1.2.1, .i .i64 b2.2.1, .b b3.2.1, .sl b4.2.1.length (b4.2.1.flatMap eU8), .sl b5.2.1.length (b5.2.1.flatMap eU8), .sl v6.1.length (v6.1.flatMap eU8), .sl a10.length (a10.flatMap eU8), .b v7.1], .box [.i .i64 v8.2.2], .box [.sl a13.length (a13.flatMap eU8)], .box [.b a0.token_, .b a0.attempt_, .b a0.ro_, .b a0.key_, .b a0.val_, .b a0.rng_]]) [0, 2, 3] rfl fn66 (.func _) (opnds_cons rfl (opnds_cons rfl opnds_nil)) (m66_enc_Reader_Lists_c hv8) rfl rfl (by decide) rfl rfl rfl ?_
              refine sv rfl (opv_nilCheck rfl rfl (fun _ _ _ h => by cases h)) ?_
              refine sv rfl (opv_fieldAddr_lp fi32_7 rfl) ?_
              refine sv rfl (opv_fieldAddr_lp fi24_1 rfl) ?_
              refine sstore sz22 rfl rfl rfl rfl (Nat.le_of_ble_eq_true rfl) ?_
              refine smem [.box [.fn 70 [] [.lp 2 0, .lp 3 0], .i .i64 v8.2.1], .box [.i .i64 a2, .i .i64 a3, .i .i64 b1.2.1, .i .i64 b2.2.1, .b b3.2.1, .sl b4.2.1.length (b4.2.1.flatMap eU8), .sl b5.2.1.length (b5.2.1.flatMap eU8), .sl v6.1.length (v6.1.flatMap eU8), .sl v8.1.length (v8.1.flatMap eU8), .b v7.1], .box [.i .i64 v8.2.2], .box [.sl a13.length (a13.flatMap eU8)], .box [.b a0.token_, .b a0.attempt_, .b a0.ro_, .b a0.key_, .b a0.val_, .b a0.rng_]] rfl ?_
              refine snil0 ?_
              obtain rfl := Option.some.inj h
              exact ⟨Or.inl rfl, _, [0, 1, 2, 3], [], [.box [.fn 70 [] [.lp 2 0, .lp 3 0], .i .i64 v8.2.1], .box [.i .i64 a2, .i .i64 a3, .i .i64 b1.2.1, .i .i64 b2.2.1, .b b3.2.1, .sl b4.2.1.length (b4.2.1.flatMap eU8), .sl b5.2.1.length (b5.2.1.flatMap eU8), .sl v6.1.length (v6.1.flatMap eU8), .sl v8.1.length (v8.1.flatMap eU8), .b v7.1], .box [.i .i64 v8.2.2], .box [.sl a13.length (a13.flatMap eU8)]], resVs_nil, rfl, rfl, ⟨by decide, rfl⟩, rfl, rfl, ⟨rfl, rfl⟩⟩
            · replace h := ite_f hc h
              clear hc
              refine cskip ?_
              obtain rfl := Option.some.inj h
              exact ⟨Or.inl rfl, _, [0, 1, 2, 3], [], [.box [.fn 70 [] [.lp 2 0, .lp 3 0], .i .i64 b5.1], .box [.i .i64 a2, .i .i64 a3, .i .i64 b1.2.1, .i .i64 b2.2.1, .b b3.2.1, .sl b4.2.1.length (b4.2.1.flatMap eU8), .sl b5.2.1.length (b5.2.1.flatMap eU8), .sl a9.length (a9.flatMap eU8), .sl a10.length (a10.flatMap eU8), .b a11], .box [.i .i64 b5.2.2], .box [.sl a13.length (a13.flatMap eU8)]], resVs_nil, rfl, rfl, ⟨by decide, rfl⟩, rfl, rfl, ⟨rfl, rfl⟩⟩
          · skip
            refine ccond rfl (fun hc => ?_) (fun hc => ?_)
            · replace h := ite_t hc h
              clear hc
              refine cregion ?_
              refine sv rfl (opv_mv rfl) ?_
              refine sv rfl (opv_mv rfl) ?_
              obtain ⟨v9, hv9, h⟩ := bind_eq h
              refine scallB (x' := .s (.one (.sl v9.1.length (v9.1.flatMap eU8)))) (M' := [.box [.fn 70 [] [.lp 2 0, .lp 3 0], .i .i64 v9.2.1], .box [.i .i64 a2, .i .i64 a3, .i .i64 b1.2.1, .i .i64 b2.2.1, .b b3.2.1, .sl b4.2.1.length (b4.2.1.flatMap eU8), .sl a8.length (a8.flatMap eU8), .sl a9.length (a9.flatMap eU8), .sl a10.length (a10.flatMap eU8), .b a11], .box [.i .i64 v9.2.2], .box [.sl a13.length (a13.flatMap eU8)], .box [.b a0.token_, .b a0.attempt_, .b a0.ro_, .b a0.key_, .b a0.val_, .b a0.rng_]]) [0, 2, 3] rfl fn66 (.func _) (opnds_cons rfl (opnds_cons rfl opnds_nil)) (m66_enc_Reader_Lists_c hv9) rfl rfl (by decide) rfl rfl rfl ?_
              refine sv rfl (opv_nilCheck rfl rfl (fun _ _ _ h => by cases h)) ?_
              refine sv rfl (opv_fieldAddr_lp fi32_6 rfl) ?_
              refine sstore sz22 rfl rfl rfl rfl (Nat.le_of_ble_eq_true rfl) ?_
              refine smem [.box [.fn 70 [] [.lp 2 0, .lp 3 0], .i .i64 v9.2.1], .box [.i .i64 a2, .i .i64 a3, .i .i64 b1.2.1, .i .i64 b2.2.1, .b b3.2.1, .sl b4.2.1.length (b4.2.1.flatMap eU8), .sl v9.1.length (v9.1.flatMap eU8), .sl a9.length (a9.flatMap eU8), .sl a10.length (a10.flatMap eU8), .b a11], .box [.i .i64 v9.2.2], .box [.sl a13.length (a13.flatMap eU8)], .box [.b a0.token_, .b a0.attempt_, .b a0.ro_, .b a0.key_, .b a0.val_, .b a0.rng_]] rfl ?_
              refine snil ?_
              exact ⟨(v9.2.1, v9.1, v9.2.2), _, h, ⟨rfl, rfl, rfl, trivial⟩, rfl⟩
            · replace h := ite_f hc h
              clear hc
              refine cskip ?_
              refine then_normal ?_
              exact ⟨(b4.1, a8, b4.2.2), _, h, ⟨rfl, rfl, rfl, trivial⟩, rfl⟩
        · skip
          refine ccond rfl (fun hc => ?_) (fun hc => ?_)
          · replace h := ite_t hc h
            clear hc
            refine cregion ?_
            refine sv rfl (opv_mv rfl) ?_
            refine sv rfl (opv_mv rfl) ?_
            obtain ⟨v10, hv10, h⟩ := bind_eq h
            refine scallB (x' := .s (.one (.sl v10.1.length (v10.1.flatMap eU8)))) (M' := [.box [.fn 70 [] [.lp 2 0, .lp 3 0], .i .i64 v10.2.1], .box [.i .i64 a2, .i .i64 a3, .i .i64 b1.2.1, .i .i64 b2.2.1, .b b3.2.1, .sl a7.length (a7.flatMap eU8), .sl a8.length (a8.flatMap eU8), .sl a9.length (a9.flatMap eU8), .sl a10.length (a10.flatMap eU8), .b a11], .box [.i .i64 v10.2.2], .box [.sl a13.length (a13.flatMap eU8)], .box [.b a0.token_, .b a0.attempt_, .b a0.ro_, .b a0.key_, .b a0.val_, .b a0.rng_]]) [0, 2, 3] rfl fn66 (.func _) (opnds_cons rfl (opnds_cons rfl opnds_nil)) (m66_enc_Reader_Lists_c hv10) rfl rfl (by decide) rfl rfl rfl ?_
            refine sv rfl (opv_nilCheck rfl rfl (fun _ _ _ h => by cases h)) ?_
            refine sv rfl (opv_fieldAddr_lp fi32_5 rfl) ?_
            refine sstore sz22 rfl rfl rfl rfl (Nat.le_of_ble_eq_true rfl) ?_
            refine smem [.box [.fn 70 [] [.lp 2 0, .lp 3 0], .i .i64 v10.2.1], .box [.i .i64 a2, .i .i64 a3, .i .i64 b1.2.1, .i .i64 b2.2.1, .b b3.2.1, .sl v10.1.length (v10.1.flatMap eU8), .sl a8.length (a8.flatMap eU8), .sl a9.length (a9.flatMap eU8), .sl a10.length (a10.flatMap eU8), .b a11], .box [.i .i64 v10.2.2], .box [.sl a13.length (a13.flatMap eU8)], .box [.b a0.token_, .b a0.attempt_, .b a0.ro_, .b a0.key_, .b a0.val_, .b a0.rng_]] rfl ?_
            refine snil ?_
            exact ⟨(v10.2.1, v10.1, v10.2.2), _, h, ⟨rfl, rfl, rfl, trivial⟩, rfl⟩
          · replace h := ite_f hc h
            clear hc
            refine cskip ?_
            refine then_normal ?_
            exact ⟨(b3.1, a7, b3.2.2), _, h, ⟨rfl, rfl, rfl, trivial⟩, rfl⟩
      · skip
        refine ccond rfl (fun hc => ?_) (fun hc => ?_)
        · replace h := ite_t hc h
          clear hc
          refine cregion ?_
          refine sv rfl (opv_mv rfl) ?_
          refine sv rfl (opv_mv rfl) ?_
          obtain ⟨v11, hv11, h⟩ := bind_eq h
          refine scallB (x' := .s (.one (.b v11.1))) (M' := [.box [.fn 70 [] [.lp 2 0, .lp 3 0], .i .i64 v11.2.1], .box [.i .i64 a2, .i .i64 a3, .i .i64 b1.2.1, .i .i64 b2.2.1, .b a6, .sl a7.length (a7.flatMap eU8), .sl a8.length (a8.flatMap eU8), .sl a9.length (a9.flatMap eU8), .sl a10.length (a10.flatMap eU8), .b a11], .box [.i .i64 v11.2.2], .box [.sl a13.length (a13.flatMap eU8)], .box [.b a0.token_, .b a0.attempt_, .b a0.ro_, .b a0.key_, .b a0.val_, .b a0.rng_]]) [0, 2, 3] rfl fn65 (.func _) (opnds_cons rfl opnds_nil) (m65_enc_Reader_Flags_c hv11) rfl rfl (by decide) rfl rfl rfl ?_
          refine sv rfl (opv_nilCheck rfl rfl (fun _ _ _ h => by cases h)) ?_
          refine sv rfl (opv_fieldAddr_lp fi32_4 rfl) ?_
          refine sstore sz4 rfl rfl rfl rfl (Nat.le_of_ble_eq_true rfl) ?_
          refine smem [.box [.fn 70 [] [.lp 2 0, .lp 3 0], .i .i64 v11.2.1], .box [.i .i64 a2, .i .i64 a3, .i .i64 b1.2.1, .i .i64 b2.2.1, .b v11.1, .sl a7.length (a7.flatMap eU8), .sl a8.length (a8.flatMap eU8), .sl a9.length (a9.flatMap eU8), .sl a10.length (a10.flatMap eU8), .b a11], .box [.i .i64 v11.2.2], .box [.sl a13.length (a13.flatMap eU8)], .box [.b a0.token_, .b a0.attempt_, .b a0.ro_, .b a0.key_, .b a0.val_, .b a0.rng_]] rfl ?_
          refine snil ?_
          exact ⟨(v11.2.1, v11.1, v11.2.2), _, h, ⟨rfl, rfl, rfl, trivial⟩, rfl⟩
        · replace h := ite_f hc h
          clear hc
          refine cskip ?_
          refine then_normal ?_
          exact ⟨(b2.1, a6, b2.2.2), _, h, ⟨rfl, rfl, rfl, trivial⟩, rfl⟩
    · skip
      refine ccond rfl (fun hc => ?_) (fun hc => ?_)
      · replace h := ite_t hc h
        clear hc
        refine cregion ?_
        refine sv rfl (opv_mv rfl) ?_
        refine sv rfl (opv_mv rfl) ?_
        obtain ⟨v12, hv12, h⟩ := bind_eq h
        refine scallB (x' := .s (.one (.i .u64 (v12.1.toNat : Int)))) (M' := [.box [.fn 70 [] [.lp 2 0, .lp 3 0], .i .i64 v12.2.1], .box [.i .i64 a2, .i .i64 a3, .i .i64 b1.2.1, .i .i64 a5, .b a6, .sl a7.length (a7.flatMap eU8), .sl a8.length (a8.flatMap eU8), .sl a9.length (a9.flatMap eU8), .sl a10.length (a10.flatMap eU8), .b a11], .box [.i .i64 v12.2.2], .box [.sl a13.length (a13.flatMap eU8)], .box [.b a0.token_, .b a0.attempt_, .b a0.ro_, .b a0.key_, .b a0.val_, .b a0.rng_]]) [0, 2, 3] rfl fn46 (.func _) (opnds_cons rfl (opnds_cons rfl opnds_nil)) (m46_enc_Reader_Us_c hv12) rfl rfl (by decide) rfl rfl rfl ?_
        refine sv rfl (opv_conv_int Tryd.underlying69 Tryd.underlying3 rfl) ?_
        refine sv rfl (opv_nilCheck rfl rfl (fun _ _ _ h => by cases h)) ?_
        refine sv rfl (opv_fieldAddr_lp fi32_3 rfl) ?_
        refine sstore sz3 rfl rfl rfl rfl (Nat.le_of_ble_eq_true rfl) ?_
        refine smem [.box [.fn 70 [] [.lp 2 0, .lp 3 0], .i .i64 v12.2.1], .box [.i .i64 a2, .i .i64 a3, .i .i64 b1.2.1, .i .i64 (wI (v12.1.toNat : Int)), .b a6, .sl a7.length (a7.flatMap eU8), .sl a8.length (a8.flatMap eU8), .sl a9.length (a9.flatMap eU8), .sl a10.length (a10.flatMap eU8), .b a11], .box [.i .i64 v12.2.2], .box [.sl a13.length (a13.flatMap eU8)], .box [.b a0.token_, .b a0.attempt_, .b a0.ro_, .b a0.key_, .b a0.val_, .b a0.rng_]] rfl ?_
        refine snil ?_
        exact ⟨(v12.2.1, (wI (v12.1.toNat : Int)), v12.2.2), _, h, ⟨rfl, rfl, rfl, trivial⟩, rfl⟩
      · replace h := ite_f hc h
        clear hc
        refine cskip ?_
        refine then_normal ?_
        exact ⟨(b1.1, a5, b1.2.2), _, h, ⟨rfl, rfl, rfl, trivial⟩, rfl⟩
  · skip
    refine ccond rfl (fun hc => ?_) (fun hc => ?_)
    · replace h := ite_t hc h
      clear hc
      refine cregion ?_
      refine sv rfl (opv_mv rfl) ?_
      refine sv rfl (opv_mv rfl) ?_
      obtain ⟨v13, hv13, h⟩ := bind_eq h
      refine scallB (x' := .s (.one (.i .u64 (v13.1.toNat : Int)))) (M' := [.box [.fn 70 [] [.lp 2 0, .lp 3 0], .i .i64 v13.2.1], .box [.i .i64 a2, .i .i64 a3, .i .i64 a4, .i .i64 a5, .b a6, .sl a7.length (a7.flatMap eU8), .sl a8.length (a8.flatMap eU8), .sl a9.length (a9.flatMap eU8), .sl a10.length (a10.flatMap eU8), .b a11], .box [.i .i64 v13.2.2], .box [.sl a13.length (a13.flatMap eU8)], .box [.b a0.token_, .b a0.attempt_, .b a0.ro_, .b a0.key_, .b a0.val_, .b a0.rng_]]) [0, 2, 3] rfl fn46 (.func _) (opnds_cons rfl (opnds_cons rfl opnds_nil)) (m46_enc_Reader_Us_c hv13) rfl rfl (by decide) rfl rfl rfl ?_
      refine sv rfl (opv_conv_int Tryd.underlying69 Tryd.underlying3 rfl) ?_
      refine sv rfl (opv_nilCheck rfl rfl (fun _ _ _ h => by cases h)) ?_
      refine sv rfl (opv_fieldAddr_lp fi32_2 rfl) ?_
      refine sstore sz3 rfl rfl rfl rfl (Nat.le_of_ble_eq_true rfl) ?_
      refine smem [.box [.fn 70 [] [.lp 2 0, .lp 3 0], .i .i64 v13.2.1], .box [.i .i64 a2, .i .i64 a3, .i .i64 (wI (v13.1.toNat : Int)), .i .i64 a5, .b a6, .sl a7.length (a7.flatMap eU8), .sl a8.length (a8.flatMap eU8), .sl a9.length (a9.flatMap eU8), .sl a10.length (a10.flatMap eU8), .b a11], .box [.i .i64 v13.2.2], .box [.sl a13.length (a13.flatMap eU8)], .box [.b a0.token_, .b a0.attempt_, .b a0.ro_, .b a0.key_, .b a0.val_, .b a0.rng_]] rfl ?_
      refine snil ?_
      exact ⟨(v13.2.1, (wI (v13.1.toNat : Int)), v13.2.2), _, h, ⟨rfl, rfl, rfl, trivial⟩, rfl⟩
    · replace h := ite_f hc h
      clear hc
      refine cskip ?_
      refine then_normal ?_
      exact ⟨(a1, a4, a12), _, h, ⟨rfl, rfl, rfl, trivial⟩, rfl⟩

def m50_enc_Reader_Ends (a0 : Int) (a1 : Int) (a2 : List UInt8) : Option (Int × Int) :=
  (m71_enc_Reader_Errs a0 a1 a2).bind fun v1 => if (!decide (v1 = 0)) then (some (v1, a1)) else ((m73_enc_Reader_places a0 a1 a2).bind fun v2 => if (decide (0 < (v2.2.1.length : Int))) then (some (3, v2.2.2)) else (some (0, v2.2.2)))

set_option maxRecDepth 100000 in
theorem m50_enc_Reader_Ends_c {a0 : Int} {a1 : Int} {a2 : List UInt8} {r : Int × Int} (h : m50_enc_Reader_Ends a0 a1 a2 = some r) : CallsB Tryd.prog 50 [.box [.fn 70 [] [.lp 1 0, .lp 2 0], .i .i64 a0], .box [.i .i64 a1], .box [.sl a2.length (a2.flatMap eU8)]] [.one (.lp 0 0)] (fun y m' => y = .s (.one (.i .i64 r.1)) ∧ m' = [.box [.fn 70 [] [.lp 1 0, .lp 2 0], .i .i64 a0], .box [.i .i64 r.2], .box [.sl a2.length (a2.flatMap eU8)]]) := by
  unfold m50_enc_Reader_Ends at h
  refine callsB_of Tryd.func50 rfl (nt := 19) rfl (Nat.le_of_ble_eq_true rfl) ?_
  intro w0 S0 X0 H0
  refine cseq ?_
  refine cregion ?_
  refine sv rfl (opv_as rfl) ?_
  refine snil ?_
  refine cseq ?_
  refine cseq ?_
  refine cregion ?_
  refine sv rfl (opv_mv rfl) ?_
  obtain ⟨v1, hv1, h⟩ := bind_eq h
  refine scallB (x' := .s (.one (.i .i64 v1))) (M' := [.box [.fn 70 [] [.lp 1 0, .lp 2 0], .i .i64 a0], .box [.i .i64 a1], .box [.sl a2.length (a2.flatMap eU8)]]) [0, 1, 2] rfl fn71 (.func _) (opnds_cons rfl opnds_nil) (m71_enc_Reader_Errs_c hv1) rfl rfl (by decide) rfl rfl rfl ?_
  refine sv rfl (opv_as rfl) ?_
  refine snil ?_
  refine cseq ?_
  refine cregion ?_
  refine sv rfl (opv_mv rfl) ?_
  refine sv rfl (opv_ineq rfl rfl) ?_
  refine snil ?_
  refine ccond rfl (fun hc => ?_) (fun hc => ?_)
  · replace h := ite_t hc h
    clear hc
    refine cseq ?_
    refine cregion ?_
    refine sv rfl (opv_mv rfl) ?_
    refine sv rfl (opv_as rfl) ?_
    refine snil ?_
    refine cret ?_
    refine then_ret ?_
    obtain rfl := Option.some.inj h
    exact ⟨Or.inr rfl, _, [0, 1, 2], [.one (.i .i64 v1)], [.box [.fn 70 [] [.lp 1 0, .lp 2 0], .i .i64 a0], .box [.i .i64 a1], .box [.sl a2.length (a2.flatMap eU8)]], (resVs_cons (ResV.tmp _ _ rfl) resVs_nil), rfl, rfl, ⟨by decide, rfl⟩, rfl, rfl, ⟨rfl, rfl⟩⟩
  · replace h := ite_f hc h
    clear hc
    refine cskip ?_
    refine then_normal ?_
    refine cseq ?_
    refine cseq ?_
    refine cregion ?_
    refine sv rfl (opv_mv rfl) ?_
    obtain ⟨v2, hv2, h⟩ := bind_eq h
    refine scallB (x' := .tup [.one (.i .i64 v2.1), .one (.sl v2.2.1.length (v2.2.1.flatMap eU8))]) (M' := [.box [.fn 70 [] [.lp 1 0, .lp 2 0], .i .i64 a0], .box [.i .i64 v2.2.2], .box [.sl a2.length (a2.flatMap eU8)]]) [0, 1, 2] rfl fn73 (.func _) (opnds_cons rfl opnds_nil) (m73_enc_Reader_places_c hv2) rfl rfl (by decide) rfl rfl rfl ?_
    refine sv rfl (opv_mvt rfl) ?_
    refine sv rfl (opv_extract rfl rfl) ?_
    refine sv rfl (opv_extract rfl rfl) ?_
    refine sv rfl (opv_as rfl) ?_
    refine sv rfl (opv_as rfl) ?_
    refine snil ?_
    refine cseq ?_
    refine cregion ?_
    refine sv rfl (opv_mv rfl) ?_
    refine sv rfl (opv_len_sl si22 rfl) ?_
    refine sv rfl (opv_gtr rfl rfl) ?_
    refine snil ?_
    refine ccond rfl (fun hc => ?_) (fun hc => ?_)
    · replace h := ite_t hc h
      clear hc
      refine cseq ?_
      refine cregion ?_
      refine sv rfl (opv_as rfl) ?_
      refine snil ?_
      refine cret ?_
      refine then_ret ?_
      obtain rfl := Option.some.inj h
      exact ⟨Or.inr rfl, _, [0, 1, 2], [.one (.i .i64 3)], [.box [.fn 70 [] [.lp 1 0, .lp 2 0], .i .i64 a0], .box [.i .i64 v2.2.2], .box [.sl a2.length (a2.flatMap eU8)]], (resVs_cons (ResV.tmp _ _ rfl) resVs_nil), rfl, rfl, ⟨by decide, rfl⟩, rfl, rfl, ⟨rfl, rfl⟩⟩
    · replace h := ite_f hc h
      clear hc
      refine cskip ?_
      refine then_normal ?_
      refine cseq ?_
      refine cregion ?_
      refine sv rfl (opv_as rfl) ?_
      refine snil ?_
      refine cret ?_
      obtain rfl := Option.some.inj h
      exact ⟨Or.inr rfl, _, [0, 1, 2], [.one (.i .i64 0)], [.box [.fn 70 [] [.lp 1 0, .lp 2 0], .i .i64 a0], .box [.i .i64 v2.2.2], .box [.sl a2.length (a2.flatMap eU8)]], (resVs_cons (ResV.tmp _ _ rfl) resVs_nil), rfl, rfl, ⟨by decide, rfl⟩, rfl, rfl, ⟨rfl, rfl⟩⟩

def m14_msg_ReadReq_k5 (v1 : Int × Int × (List UInt8)) (v2 : (BitVec 64) × Int × Int) (v3 : (BitVec 64) × Int × Int) (b5 : Int) : Option (GMsgReq × Int) :=
  (m32_msg_partsOf (wI (v2.1.toNat : Int))).bind fun v6 => (m49_msg_readPartss v6 b5 (wI (v2.1.toNat : Int)) (wI (v3.1.toNat : Int)) 0 0 false ([] : List UInt8) ([] : List UInt8) ([] : List UInt8) ([] : List UInt8) false v3.2.2 v1.2.2).bind fun v7 => (m50_enc_Reader_Ends v7.1 v7.2.2.2.2.2.2.2.2.2 v1.2.2).bind fun v8 => if (!decide (v8.1 = 0)) then (some ((GMsgReq.mk 0 0 0 0 false ([] : List UInt8) ([] : List UInt8) (GApiRange.mk ([] : List UInt8) ([] : List UInt8) false)), v8.1)) else ((m18_msg_SaneReq (GMsgReq.mk (wI (v2.1.toNat : Int)) (wI (v3.1.toNat : Int)) v7.2.1 v7.2.2.1 v7.2.2.2.1 v7.2.2.2.2.1 v7.2.2.2.2.2.1 (GApiRange.mk v7.2.2.2.2.2.2.1 v7.2.2.2.2.2.2.2.1 v7.2.2.2.2.2.2.2.2.1))).bind fun v9 => if (!v9) then (some ((GMsgReq.mk 0 0 0 0 false ([] : List UInt8) ([] : List UInt8) (GApiRange.mk ([] : List UInt8) ([] : List UInt8) false)), 3)) else (some ((GMsgReq.mk (wI (v2.1.toNat : Int)) (wI (v3.1.toNat : Int)) v7.2.1 v7.2.2.1 v7.2.2.2.1 v7.2.2.2.2.1 v7.2.2.2.2.2.1 (GApiRange.mk v7.2.2.2.2.2.2.1 v7.2.2.2.2.2.2.2.1 v7.2.2.2.2.2.2.2.2.1)), 0)))
def m14_msg_ReadReq (a0 : List UInt8) : Option (GMsgReq × Int) :=
  (m45_enc_News a0).bind fun v1 => (m46_enc_Reader_Us 1 v1.1 v1.2.1 v1.2.2).bind fun v2 => (m46_enc_Reader_Us 4 v2.2.1 v2.2.2 v1.2.2).bind fun v3 => (m47_msg_isKind (wI (v2.1.toNat : Int))).bind fun v4 => if (!v4) then ((m48_enc_Reader_Fails 3 v3.2.1 v3.2.2 v1.2.2).bind fun v10 => m14_msg_ReadReq_k5 v1 v2 v3 v10) else (m14_msg_ReadReq_k5 v1 v2 v3 v3.2.1)

set_option maxRecDepth 100000 in
theorem m14_msg_ReadReq_c {a0 : List UInt8} {r : GMsgReq × Int} (h : m14_msg_ReadReq a0 = some r) : CallsA Tryd.prog 14 [.one (.sl a0.length (a0.flatMap eU8))] (· = .tup [.agg [.i .i64 r.1.Kind, .i .i64 r.1.Seq, .i .i64 r.1.Token, .i .i64 r.1.Attempt, .b r.1.RO, .sl r.1.Key.length (r.1.Key.flatMap eU8), .sl r.1.Val.length (r.1.Val.flatMap eU8), .sl r.1.Rng.Lo.length (r.1.Rng.Lo.flatMap eU8), .sl r.1.Rng.Hi.length (r.1.Rng.Hi.flatMap eU8), .b r.1.Rng.Open], .one (.i .i64 r.2)]) := by
  unfold m14_msg_ReadReq at h
  refine callsA_of Tryd.func14 rfl (nt := 38) rfl (Nat.le_of_ble_eq_true rfl) ?_
  intro w0 S0
  refine cseq ?_
  refine cregion ?_
  refine salloc rfl zi32 ?_
  refine sv rfl (opv_as rfl) ?_
  refine snil ?_
  refine cseq ?_
  refine cregion ?_
  refine sv rfl (opv_mv rfl) ?_
  obtain ⟨v1, hv1, h⟩ := bind_eq h
  refine scallB (x' := .s (.one (.lp 1 0))) (M' := [.box [.i .i64 0, .i .i64 0, .i .i64 0, .i .i64 0, .b false, .raw (.slice none 0 0), .raw (.slice none 0 0), .raw (.slice none 0 0), .raw (.slice none 0 0), .b false], .box [.fn 70 [] [.lp 2 0, .lp 3 0], .i .i64 v1.1], .box [.i .i64 v1.2.1], .box [.sl v1.2.2.length (v1.2.2.flatMap eU8)]]) [] rfl fn45 (.func _) (opnds_cons rfl opnds_nil) (m45_enc_News_c hv1) rfl rfl (by decide) rfl rfl rfl ?_
  refine sv rfl (opv_as rfl) ?_
  refine snil ?_
  refine cseq ?_
  refine cregion ?_
  refine sv rfl (opv_mv rfl) ?_
  obtain ⟨v2, hv2, h⟩ := bind_eq h
  refine scallB (x' := .s (.one (.i .u64 (v2.1.toNat : Int)))) (M' := [.box [.i .i64 0, .i .i64 0, .i .i64 0, .i .i64 0, .b false, .raw (.slice none 0 0), .raw (.slice none 0 0), .raw (.slice none 0 0), .raw (.slice none 0 0), .b false], .box [.fn 70 [] [.lp 2 0, .lp 3 0], .i .i64 v2.2.1], .box [.i .i64 v2.2.2], .box [.sl v1.2.2.length (v1.2.2.flatMap eU8)]]) [1, 2, 3] rfl fn46 (.func _) (opnds_cons rfl (opnds_cons rfl opnds_nil)) (m46_enc_Reader_Us_c hv2) rfl rfl (by decide) rfl rfl rfl ?_
  refine sv rfl (opv_conv_int Tryd.underlying69 Tryd.underlying3 rfl) ?_
  refine sv rfl (opv_mv rfl) ?_
  obtain ⟨v3, hv3, h⟩ := bind_eq h
  refine scallB (x' := .s (.one (.i .u64 (v3.1.toNat : Int)))) (M' := [.box [.i .i64 0, .i .i64 0, .i .i64 0, .i .i64 0, .b false, .raw (.slice none 0 0), .raw (.slice none 0 0), .raw (.slice none 0 0), .raw (.slice none 0 0), .b false], .box [.fn 70 [] [.lp 2 0, .lp 3 0], .i .i64 v3.2.1], .box [.i .i64 v3.2.2], .box [.sl v1.2.2.length (v1.2.2.flatMap eU8)]]) [1, 2, 3] rfl fn46 (.func _) (opnds_cons rfl (opnds_cons rfl opnds_nil)) (m46_enc_Reader_Us_c hv3) rfl rfl (by decide) rfl rfl rfl ?_
  refine sv rfl (opv_conv_int Tryd.underlying69 Tryd.underlying3 rfl) ?_
  refine sv rfl (opv_build zi32 pi32 (parts_cons rfl (parts_cons rfl parts_nil)) (.cons _ _ _ _ _ _ _ rfl rfl (Nat.le_of_ble_eq_true rfl) (.cons _ _ _ _ _ _ _ rfl rfl (Nat.le_of_ble_eq_true rfl) (.nil _)))) ?_
  refine salloc rfl zi32 ?_
  refine sstore sz32 rfl rfl rfl rfl (Nat.le_of_ble_eq_true rfl) ?_
  refine smem [.box [.i .i64 0, .i .i64 0, .i .i64 0, .i .i64 0, .b false, .raw (.slice none 0 0), .raw (.slice none 0 0), .raw (.slice none 0 0), .raw (.slice none 0 0), .b false], .box [.fn 70 [] [.lp 2 0, .lp 3 0], .i .i64 v3.2.1], .box [.i .i64 v3.2.2], .box [.sl v1.2.2.length (v1.2.2.flatMap eU8)], .box [.i .i64 (wI (v2.1.toNat : Int)), .i .i64 (wI (v3.1.toNat : Int)), .i .i64 0, .i .i64 0, .b false, .raw (.slice none 0 0), .raw (.slice none 0 0), .raw (.slice none 0 0), .raw (.slice none 0 0), .b false]] rfl ?_
  refine snil ?_
  refine cseq ?_
  refine cseq ?_
  refine cregion ?_
  refine sv rfl (opv_fieldAddr_lp fi32_0 rfl) ?_
  refine sv rfl (opv_load1 ti3 rfl (.lp _ _ _ rfl) rfl) ?_
  obtain ⟨v4, hv4, h⟩ := bind_eq h
  refine scall1 rfl fn47 (opnds_cons rfl opnds_nil) (pubA_id rfl) (m47_msg_isKind_c hv4) ?_
  refine sv rfl (opv_not rfl) ?_
  refine snil ?_
  refine cjoin (Int) (fun b5 => [(2, .s (.one (.lp 0 0))), (4, .s (.one (.lp 1 0))), (5, .s (.one (.lp 4 0)))]) (fun b5 => [.box [.i .i64 0, .i .i64 0, .i .i64 0, .i .i64 0, .b false, .raw (.slice none 0 0), .raw (.slice none 0 0), .raw (.slice none 0 0), .raw (.slice none 0 0), .b false], .box [.fn 70 [] [.lp 2 0, .lp 3 0], .i .i64 b5], .box [.i .i64 v3.2.2], .box [.sl v1.2.2.length (v1.2.2.flatMap eU8)], .box [.i .i64 (wI (v2.1.toNat : Int)), .i .i64 (wI (v3.1.toNat : Int)), .i .i64 0, .i .i64 0, .b false, .raw (.slice none 0 0), .raw (.slice none 0 0), .raw (.slice none 0 0), .raw (.slice none 0 0), .b false]]) (fun b5 => m14_msg_ReadReq_k5 v1 v2 v3 b5 = some r) (fun _ _ => inbL_of rfl) (fun _ _ => blkinb_of rfl) (fun _ _ => Nat.le_of_ble_eq_true rfl) (fun b5 h => ?_) ?_
  · unfold m14_msg_ReadReq_k5 at h
    refine cseq ?_
    refine cregion ?_
    refine sv rfl (opv_mv rfl) ?_
    refine sv rfl (opv_fieldAddr_lp fi32_0 rfl) ?_
    refine sv rfl (opv_load1 ti3 rfl (.lp _ _ _ rfl) rfl) ?_
    obtain ⟨v6, hv6, h⟩ := bind_eq h
    refine scall1 rfl fn32 (opnds_cons rfl opnds_nil) (pubA_id rfl) (m32_msg_partsOf_c hv6) ?_
    obtain ⟨v7, hv7, h⟩ := bind_eq h
    refine spubbox 4 5 rfl rfl PubL.nil rfl ?_
    refine spubbox 4 6 rfl rfl PubL.nil rfl ?_
    refine spubbox 4 7 rfl rfl PubL.nil rfl ?_
    refine spubbox 4 8 rfl rfl PubL.nil rfl ?_
    refine scallB (x' := .tup []) (M' := [.box [.i .i64 0, .i .i64 0, .i .i64 0, .i .i64 0, .b false, .raw (.slice none 0 0), .raw (.slice none 0 0), .raw (.slice none 0 0), .raw (.slice none 0 0), .b false], .box [.fn 70 [] [.lp 2 0, .lp 3 0], .i .i64 v7.1], .box [.i .i64 v7.2.2.2.2.2.2.2.2.2], .box [.sl v1.2.2.length (v1.2.2.flatMap eU8)], .box [.i .i64 (wI (v2.1.toNat : Int)), .i .i64 (wI (v3.1.toNat : Int)), .i .i64 v7.2.1, .i .i64 v7.2.2.1, .b v7.2.2.2.1, .sl v7.2.2.2.2.1.length (v7.2.2.2.2.1.flatMap eU8), .sl v7.2.2.2.2.2.1.length (v7.2.2.2.2.2.1.flatMap eU8), .sl v7.2.2.2.2.2.2.1.length (v7.2.2.2.2.2.2.1.flatMap eU8), .sl v7.2.2.2.2.2.2.2.1.length (v7.2.2.2.2.2.2.2.1.flatMap eU8), .b v7.2.2.2.2.2.2.2.2.1]]) [1, 4, 2, 3] rfl fn49 (.func _) (opnds_cons rfl (opnds_cons rfl (opnds_cons rfl opnds_nil))) (m49_msg_readPartss_c hv7) rfl rfl (by decide) rfl rfl rfl ?_
    refine snil ?_
    refine cseq ?_
    refine cseq ?_
    refine cregion ?_
    refine sv rfl (opv_mv rfl) ?_
    obtain ⟨v8, hv8, h⟩ := bind_eq h
    refine scallB (x' := .s (.one (.i .i64 v8.1))) (M' := [.box [.i .i64 0, .i .i64 0, .i .i64 0, .i .i64 0, .b false, .raw (.slice none 0 0), .raw (.slice none 0 0), .raw (.slice none 0 0), .raw (.slice none 0 0), .b false], .box [.fn 70 [] [.lp 2 0, .lp 3 0], .i .i64 v7.1], .box [.i .i64 v8.2], .box [.sl v1.2.2.length (v1.2.2.flatMap eU8)], .box [.i .i64 (wI (v2.1.toNat : Int)), .i .i64 (wI (v3.1.toNat : Int)), .i .i64 v7.2.1, .i .i64 v7.2.2.1, .b v7.2.2.2.1, .sl v7.2.2.2.2.1.length (v7.2.2.2.2.1.flatMap eU8), .sl v7.2.2.2.2.2.1.length (v7.2.2.2.2.2.1.flatMap eU8), .sl v7.2.2.2.2.2.2.1.length (v7.2.2.2.2.2.2.1.flatMap eU8), .sl v7.2.2.2.2.2.2.2.1.length (v7.2.2.2.2.2.2.2.1.flatMap eU8), .b v7.2.2.2.2.2.2.2.2.1]]) [1, 2, 3] rfl fn50 (.func _) (opnds_cons rfl opnds_nil) (m50_enc_Reader_Ends_c hv8) rfl rfl (by decide) rfl rfl rfl ?_
    refine sv rfl (opv_as rfl) ?_
    refine snil ?_
    refine cseq ?_
    refine cregion ?_
    refine sv rfl (opv_mv rfl) ?_
    refine sv rfl (opv_ineq rfl rfl) ?_
    refine snil ?_
    refine ccond rfl (fun hc => ?_) (fun hc => ?_)
    · replace h := ite_t hc h
      clear hc
      refine cseq ?_
      refine cregion ?_
      refine sv rfl (opv_build zi32 pi32 parts_nil (.nil _)) ?_
      refine sv rfl (opv_mv rfl) ?_
      refine sstore sz32 rfl rfl rfl rfl (Nat.le_of_ble_eq_true rfl) ?_
      refine smem [.box [.i .i64 0, .i .i64 0, .i .i64 0, .i .i64 0, .b false, .raw (.slice none 0 0), .raw (.slice none 0 0), .raw (.slice none 0 0), .raw (.slice none 0 0), .b false], .box [.fn 70 [] [.lp 2 0, .lp 3 0], .i .i64 v7.1], .box [.i .i64 v8.2], .box [.sl v1.2.2.length (v1.2.2.flatMap eU8)], .box [.i .i64 (wI (v2.1.toNat : Int)), .i .i64 (wI (v3.1.toNat : Int)), .i .i64 v7.2.1, .i .i64 v7.2.2.1, .b v7.2.2.2.1, .sl v7.2.2.2.2.1.length (v7.2.2.2.2.1.flatMap eU8), .sl v7.2.2.2.2.2.1.length (v7.2.2.2.2.2.1.flatMap eU8), .sl v7.2.2.2.2.2.2.1.length (v7.2.2.2.2.2.2.1.flatMap eU8), .sl v7.2.2.2.2.2.2.2.1.length (v7.2.2.2.2.2.2.2.1.flatMap eU8), .b v7.2.2.2.2.2.2.2.2.1]] rfl ?_
      refine sv rfl (opv_as rfl) ?_
      refine snil ?_
      refine cret ?_
      refine then_ret ?_
      obtain rfl := Option.some.inj h
      refine ⟨Or.inr rfl, _, _, _, (resVs_cons (ResV.agg _ _ _ _ _ ti32 rfl (.lp _ _ _ rfl) (Nat.le_of_ble_eq_true rfl)) (resVs_cons (ResV.tmp _ _ rfl) resVs_nil)), (pubC rfl), ?_⟩
      rfl
    · replace h := ite_f hc h
      clear hc
      refine cskip ?_
      refine then_normal ?_
      refine cseq ?_
      refine cseq ?_
      refine cregion ?_
      refine sv rfl (opv_loadN ti32 rfl (.lp _ _ _ rfl) (Nat.le_of_ble_eq_true rfl)) ?_
      obtain ⟨v9, hv9, h⟩ := bind_eq h
      refine scall1 rfl fn18 (opnds_cons rfl opnds_nil) (pubA_id rfl) (m18_msg_SaneReq_c hv9) ?_
      refine sv rfl (opv_not rfl) ?_
      refine snil ?_
      refine ccond rfl (fun hc => ?_) (fun hc => ?_)
      · replace h := ite_t hc h
        clear hc
        refine cseq ?_
        refine cregion ?_
        refine sv rfl (opv_build zi32 pi32 parts_nil (.nil _)) ?_
        refine sstore sz32 rfl rfl rfl rfl (Nat.le_of_ble_eq_true rfl) ?_
        refine smem [.box [.i .i64 0, .i .i64 0, .i .i64 0, .i .i64 0, .b false, .raw (.slice none 0 0), .raw (.slice none 0 0), .raw (.slice none 0 0), .raw (.slice none 0 0), .b false], .box [.fn 70 [] [.lp 2 0, .lp 3 0], .i .i64 v7.1], .box [.i .i64 v8.2], .box [.sl v1.2.2.length (v1.2.2.flatMap eU8)], .box [.i .i64 (wI (v2.1.toNat : Int)), .i .i64 (wI (v3.1.toNat : Int)), .i .i64 v7.2.1, .i .i64 v7.2.2.1, .b v7.2.2.2.1, .sl v7.2.2.2.2.1.length (v7.2.2.2.2.1.flatMap eU8), .sl v7.2.2.2.2.2.1.length (v7.2.2.2.2.2.1.flatMap eU8), .sl v7.2.2.2.2.2.2.1.length (v7.2.2.2.2.2.2.1.flatMap eU8), .sl v7.2.2.2.2.2.2.2.1.length (v7.2.2.2.2.2.2.2.1.flatMap eU8), .b v7.2.2.2.2.2.2.2.2.1]] rfl ?_
        refine sv rfl (opv_as rfl) ?_
        refine snil ?_
        refine cret ?_
        refine then_ret ?_
        obtain rfl := Option.some.inj h
        refine ⟨Or.inr rfl, _, _, _, (resVs_cons (ResV.agg _ _ _ _ _ ti32 rfl (.lp _ _ _ rfl) (Nat.le_of_ble_eq_true rfl)) (resVs_cons (ResV.tmp _ _ rfl) resVs_nil)), (pubC rfl), ?_⟩
        rfl
      · replace h := ite_f hc h
        clear hc
        refine cskip ?_
        refine then_normal ?_
        refine cseq ?_
        refine cregion ?_
        refine sv rfl (opv_loadN ti32 rfl (.lp _ _ _ rfl) (Nat.le_of_ble_eq_true rfl)) ?_
        refine sstore sz32 rfl rfl rfl rfl (Nat.le_of_ble_eq_true rfl) ?_
        refine smem [.box [.i .i64 (wI (v2.1.toNat : Int)), .i .i64 (wI (v3.1.toNat : Int)), .i .i64 v7.2.1, .i .i64 v7.2.2.1, .b v7.2.2.2.1, .sl v7.2.2.2.2.1.length (v7.2.2.2.2.1.flatMap eU8), .sl v7.2.2.2.2.2.1.length (v7.2.2.2.2.2.1.flatMap eU8), .sl v7.2.2.2.2.2.2.1.length (v7.2.2.2.2.2.2.1.flatMap eU8), .sl v7.2.2.2.2.2.2.2.1.length (v7.2.2.2.2.2.2.2.1.flatMap eU8), .b v7.2.2.2.2.2.2.2.2.1], .box [.fn 70 [] [.lp 2 0, .lp 3 0], .i .i64 v7.1], .box [.i .i64 v8.2], .box [.sl v1.2.2.length (v1.2.2.flatMap eU8)], .box [.i .i64 (wI (v2.1.toNat : Int)), .i .i64 (wI (v3.1.toNat : Int)), .i .i64 v7.2.1, .i .i64 v7.2.2.1, .b v7.2.2.2.1, .sl v7.2.2.2.2.1.length (v7.2.2.2.2.1.flatMap eU8), .sl v7.2.2.2.2.2.1.length (v7.2.2.2.2.2.1.flatMap eU8), .sl v7.2.2.2.2.2.2.1.length (v7.2.2.2.2.2.2.1.flatMap eU8), .sl v7.2.2.2.2.2.2.2.1.length (v7.2.2.2.2.2.2.2.1.flatMap eU8), .b v7.2.2.2.2.2.2.2.2.1]] rfl ?_
        refine sv rfl (opv_as rfl) ?_
        refine snil ?_
        refine cret ?_
        obtain rfl := Option.some.inj h
        refine ⟨Or.inr rfl, _, _, _, (resVs_cons (ResV.agg _ _ _ _ _ ti32 rfl (.lp _ _ _ rfl) (Nat.le_of_ble_eq_true rfl)) (resVs_cons (ResV.tmp _ _ rfl) resVs_nil)), (pubA_id rfl), ?_⟩
        rfl
  · skip
    refine ccond rfl (fun hc => ?_) (fun hc => ?_)
    · replace h := ite_t hc h
      clear hc
      refine cregion ?_
      refine sv rfl (opv_mv rfl) ?_
      obtain ⟨v10, hv10, h⟩ := bind_eq h
      refine scallB (x' := .tup []) (M' := [.box [.i .i64 0, .i .i64 0, .i .i64 0, .i .i64 0, .b false, .raw (.slice none 0 0), .raw (.slice none 0 0), .raw (.slice none 0 0), .raw (.slice none 0 0), .b false], .box [.fn 70 [] [.lp 2 0, .lp 3 0], .i .i64 v10], .box [.i .i64 v3.2.2], .box [.sl v1.2.2.length (v1.2.2.flatMap eU8)], .box [.i .i64 (wI (v2.1.toNat : Int)), .i .i64 (wI (v3.1.toNat : Int)), .i .i64 0, .i .i64 0, .b false, .raw (.slice none 0 0), .raw (.slice none 0 0), .raw (.slice none 0 0), .raw (.slice none 0 0), .b false]]) [1, 2, 3] rfl fn48 (.func _) (opnds_cons rfl (opnds_cons rfl opnds_nil)) (m48_enc_Reader_Fails_c hv10) rfl rfl (by decide) rfl rfl rfl ?_
      refine snil ?_
      exact ⟨v10, _, h, ⟨rfl, rfl, rfl, trivial⟩, rfl⟩
    · replace h := ite_f hc h
      clear hc
      refine cskip ?_
      refine then_normal ?_
      exact ⟨v3.2.1, _, h, ⟨rfl, rfl, rfl, trivial⟩, rfl⟩

def m29_msg_SaneReply_k1 (a0 : GMsgReply) (b1 : Unit) : Option Bool :=
  if (decide (a0.Kind = 0)) then ((m58_msg_within a0.Seq 4294967295).bind fun v2 => if v2 then ((m58_msg_within a0.Code 255).bind fun v3 => if v3 then ((m58_msg_within a0.N 1099511627776).bind fun v4 => if v4 then ((m60_msg_saneBytes a0.Found a0.Val 0 32).bind fun v5 => if v5 then (some (decide ((a0.List.length : Int) ≤ 8))) else (some false)) else (some false)) else (some false)) else (some false)) else ((m47_msg_isKind a0.Kind).bind fun v6 => if v6 then ((m58_msg_within a0.Seq 4294967295).bind fun v7 => if v7 then ((m58_msg_within a0.Code 255).bind fun v8 => if v8 then ((m58_msg_within a0.N 1099511627776).bind fun v9 => if v9 then ((m60_msg_saneBytes a0.Found a0.Val 0 32).bind fun v10 => if v10 then (some (decide ((a0.List.length : Int) ≤ 8))) else (some false)) else (some false)) else (some false)) else (some false)) else (some false))

def m29_msg_SaneReply_s11 (a0 : GMsgReply) (s11 : Int) : Option (LR (Int) (Unit) (Bool)) :=
  if (decide (s11 < (a0.List.length : Int))) then ((idx a0.List s11).bind fun u12 => (m60_msg_saneBytes true u12.Key 1 16).bind fun v13 => if (!v13) then (some (.ret false)) else (if (decide (32 < (u12.Val.length : Int))) then (some (.ret false)) else (some (.cont (wI (s11 + 1)))))) else (some (.brk ()))
def m29_msg_SaneReply (a0 : GMsgReply) : Option Bool :=
  (iter (m29_msg_SaneReply_s11 a0) fuel 0).bind fun x => match x with | .inl r => some r | .inr e14 => m29_msg_SaneReply_k1 a0 e14

set_option maxRecDepth 100000 in
theorem m29_msg_SaneReply_c {a0 : GMsgReply} {r : Bool} (h : m29_msg_SaneReply a0 = some r) : CallsA Tryd.prog 29 [.agg [.i .i64 a0.Kind, .i .i64 a0.Seq, .i .i64 a0.Code, .i .i64 a0.N, .b a0.Found, .sl a0.Val.length (a0.Val.flatMap eU8), .sl a0.List.length (a0.List.flatMap eGApiKV)]] (· = .s (.one (.b r))) := by
  unfold m29_msg_SaneReply at h
  refine callsA_of Tryd.func29 rfl (nt := 59) rfl (Nat.le_of_ble_eq_true rfl) ?_
  intro w0 S0
  refine cseq ?_
  refine cregion ?_
  refine sbox rfl rfl ?_
  refine sv rfl (opv_as rfl) ?_
  refine snil ?_
  refine cseq ?_
  refine cseq ?_
  refine cregion ?_
  refine sv rfl (opv_fieldAddr_lp fi49_6 rfl) ?_
  refine sv rfl (opv_load1 ti44 rfl (.lp _ _ _ rfl) rfl) ?_
  refine sv rfl (opv_len_sl si44 rfl) ?_
  refine sv rfl (opv_mv rfl) ?_
  refine snil ?_
  refine cjoin (Unit) (fun b1 => [(1, .s (.one (.lp 0 0)))]) (fun b1 => [.box [.i .i64 a0.Kind, .i .i64 a0.Seq, .i .i64 a0.Code, .i .i64 a0.N, .b a0.Found, .sl a0.Val.length (a0.Val.flatMap eU8), .sl a0.List.length (a0.List.flatMap eGApiKV)]]) (fun b1 => m29_msg_SaneReply_k1 a0 b1 = some r) (fun _ _ => inbL_of rfl) (fun _ _ => blkinb_of rfl) (fun _ _ => Nat.le_of_ble_eq_true rfl) (fun b1 h => ?_) ?_
  · unfold m29_msg_SaneReply_k1 at h
    refine cseq ?_
    refine cregion ?_
    refine sv rfl (opv_fieldAddr_lp fi49_0 rfl) ?_
    refine sv rfl (opv_load1 ti3 rfl (.lp _ _ _ rfl) rfl) ?_
    refine sv rfl (opv_ieql rfl rfl) ?_
    refine sv rfl (opv_mv rfl) ?_
    refine ssplit 26 rfl (fun hc => ?_) (fun hc => ?_)
    · replace h := ite_t hc h
      clear hc
      refine soff rfl rfl rfl rfl ?_
      refine soff rfl rfl rfl rfl ?_
      refine soff rfl rfl rfl rfl ?_
      refine sv rfl (opv_pick_t rfl rfl) ?_
      refine sv rfl (opv_mv rfl) ?_
      refine son rfl rfl rfl ?_
      refine sv rfl (opv_fieldAddr_lp fi49_1 rfl) ?_
      refine son rfl rfl rfl ?_
      refine sv rfl (opv_load1 ti3 rfl (.lp _ _ _ rfl) rfl) ?_
      refine son rfl rfl rfl ?_
      obtain ⟨v2, hv2, h⟩ := bind_eq h
      refine scall1 rfl fn58 (opnds_cons rfl (opnds_cons rfl opnds_nil)) (pubA_id rfl) (m58_msg_within_c hv2) ?_
      refine sv rfl (opv_pick_t rfl rfl) ?_
      refine sv rfl (opv_mv rfl) ?_
      refine ssplit 36 rfl (fun hc => ?_) (fun hc => ?_)
      · replace h := ite_t hc h
        clear hc
        refine son rfl rfl rfl ?_
        refine sv rfl (opv_fieldAddr_lp fi49_2 rfl) ?_
        refine son rfl rfl rfl ?_
        refine sv rfl (opv_load1 ti29 rfl (.lp _ _ _ rfl) rfl) ?_
        refine son rfl rfl rfl ?_
        obtain ⟨v3, hv3, h⟩ := bind_eq h
        refine scall1 rfl fn58 (opnds_cons rfl (opnds_cons rfl opnds_nil)) (pubA_id rfl) (m58_msg_within_c hv3) ?_
        refine sv rfl (opv_pick_t rfl rfl) ?_
        refine sv rfl (opv_mv rfl) ?_
        refine ssplit 41 rfl (fun hc => ?_) (fun hc => ?_)
        · replace h := ite_t hc h
          clear hc
          refine son rfl rfl rfl ?_
          refine sv rfl (opv_fieldAddr_lp fi49_3 rfl) ?_
          refine son rfl rfl rfl ?_
          refine sv rfl (opv_load1 ti3 rfl (.lp _ _ _ rfl) rfl) ?_
          refine son rfl rfl rfl ?_
          obtain ⟨v4, hv4, h⟩ := bind_eq h
          refine scall1 rfl fn58 (opnds_cons rfl (opnds_cons rfl opnds_nil)) (pubA_id rfl) (m58_msg_within_c hv4) ?_
          refine sv rfl (opv_pick_t rfl rfl) ?_
          refine sv rfl (opv_mv rfl) ?_
          refine ssplit 46 rfl (fun hc => ?_) (fun hc => ?_)
          · replace h := ite_t hc h
            clear hc
            refine son rfl rfl rfl ?_
            refine sv rfl (opv_fieldAddr_lp fi49_4 rfl) ?_
            refine son rfl rfl rfl ?_
            refine sv rfl (opv_load1 ti4 rfl (.lp _ _ _ rfl) rfl) ?_
            refine son rfl rfl rfl ?_
            refine sv rfl (opv_fieldAddr_lp fi49_5 rfl) ?_
            refine son rfl rfl rfl ?_
            refine sv rfl (opv_load1 ti22 rfl (.lp _ _ _ rfl) rfl) ?_
            refine son rfl rfl rfl ?_
            obtain ⟨v5, hv5, h⟩ := bind_eq h
            refine scall1 rfl fn60 (opnds_cons rfl (opnds_cons rfl (opnds_cons rfl (opnds_cons rfl opnds_nil)))) (pubA_id rfl) (m60_msg_saneBytes_c hv5) ?_
            refine sv rfl (opv_pick_t rfl rfl) ?_
            refine sv rfl (opv_mv rfl) ?_
            refine ssplit 53 rfl (fun hc => ?_) (fun hc => ?_)
            · replace h := ite_t hc h
              clear hc
              refine son rfl rfl rfl ?_
              refine sv rfl (opv_fieldAddr_lp fi49_6 rfl) ?_
              refine son rfl rfl rfl ?_
              refine sv rfl (opv_load1 ti44 rfl (.lp _ _ _ rfl) rfl) ?_
              refine son rfl rfl rfl ?_
              refine sv rfl (opv_len_sl si44 rfl) ?_
              refine son rfl rfl rfl ?_
              refine sv rfl (opv_leq rfl rfl) ?_
              refine sv rfl (opv_pick_t rfl rfl) ?_
              refine sv rfl (opv_as rfl) ?_
              refine snil ?_
              refine cret ?_
              obtain rfl := Option.some.inj h
              refine ⟨Or.inr rfl, _, _, _, (resVs_cons (ResV.tmp _ _ rfl) resVs_nil), (pubA_id rfl), ?_⟩
              rfl
            · replace h := ite_f hc h
              clear hc
              refine soff rfl rfl rfl rfl ?_
              refine soff rfl rfl rfl rfl ?_
              refine soff rfl rfl rfl rfl ?_
              refine soff rfl rfl rfl rfl ?_
              refine sv rfl (opv_pick_f rfl rfl) ?_
              refine sv rfl (opv_as rfl) ?_
              refine snil ?_
              refine cret ?_
              obtain rfl := Option.some.inj h
              refine ⟨Or.inr rfl, _, _, _, (resVs_cons (ResV.tmp _ _ rfl) resVs_nil), (pubA_id rfl), ?_⟩
              rfl
          · replace h := ite_f hc h
            clear hc
            refine soff rfl rfl rfl rfl ?_
            refine soff rfl rfl rfl rfl ?_
            refine soff rfl rfl rfl rfl ?_
            refine soff rfl rfl rfl rfl ?_
            refine soff rfl rfl rfl rfl ?_
            refine sv rfl (opv_pick_f rfl rfl) ?_
            refine sv rfl (opv_mv rfl) ?_
            refine soff rfl rfl rfl rfl ?_
            refine soff rfl rfl rfl rfl ?_
            refine soff rfl rfl rfl rfl ?_
            refine soff rfl rfl rfl rfl ?_
            refine sv rfl (opv_pick_f rfl rfl) ?_
            refine sv rfl (opv_as rfl) ?_
            refine snil ?_
            refine cret ?_
            obtain rfl := Option.some.inj h
            refine ⟨Or.inr rfl, _, _, _, (resVs_cons (ResV.tmp _ _ rfl) resVs_nil), (pubA_id rfl), ?_⟩
            rfl
        · replace h := ite_f hc h
          clear hc
          refine soff rfl rfl rfl rfl ?_
          refine soff rfl rfl rfl rfl ?_
          refine soff rfl rfl rfl rfl ?_
          refine sv rfl (opv_pick_f rfl rfl) ?_
          refine sv rfl (opv_mv rfl) ?_
          refine soff rfl rfl rfl rfl ?_
          refine soff rfl rfl rfl rfl ?_
          refine soff rfl rfl rfl rfl ?_
          refine soff rfl rfl rfl rfl ?_
          refine soff rfl rfl rfl rfl ?_
          refine sv rfl (opv_pick_f rfl rfl) ?_
          refine sv rfl (opv_mv rfl) ?_
          refine soff rfl rfl rfl rfl ?_
          refine soff rfl rfl rfl rfl ?_
          refine soff rfl rfl rfl rfl ?_
          refine soff rfl rfl rfl rfl ?_
          refine sv rfl (opv_pick_f rfl rfl) ?_
          refine sv rfl (opv_as rfl) ?_
          refine snil ?_
          refine cret ?_
          obtain rfl := Option.some.inj h
          refine ⟨Or.inr rfl, _, _, _, (resVs_cons (ResV.tmp _ _ rfl) resVs_nil), (pubA_id rfl), ?_⟩
          rfl
      · replace h := ite_f hc h
        clear hc
        refine soff rfl rfl rfl rfl ?_
        refine soff rfl rfl rfl rfl ?_
        refine soff rfl rfl rfl rfl ?_
        refine sv rfl (opv_pick_f rfl rfl) ?_
        refine sv rfl (opv_mv rfl) ?_
        refine soff rfl rfl rfl rfl ?_
        refine soff rfl rfl rfl rfl ?_
        refine soff rfl rfl rfl rfl ?_
        refine sv rfl (opv_pick_f rfl rfl) ?_
        refine sv rfl (opv_mv rfl) ?_
        refine soff rfl rfl rfl rfl ?_
        refine soff rfl rfl rfl rfl ?_
        refine soff rfl rfl rfl rfl ?_
        refine soff rfl rfl rfl rfl ?_
        refine soff rfl rfl rfl rfl ?_
        refine sv rfl (opv_pick_f rfl rfl) ?_
        refine sv rfl (opv_mv rfl) ?_
        refine soff rfl rfl rfl rfl ?_
        refine soff rfl rfl rfl rfl ?_
        refine soff rfl rfl rfl rfl ?_
        refine soff rfl rfl rfl rfl ?_
        refine sv rfl (opv_pick_f rfl rfl) ?_
        refine sv rfl (opv_as rfl) ?_
        refine snil ?_
        refine cret ?_
        obtain rfl := Option.some.inj h
        refine ⟨Or.inr rfl, _, _, _, (resVs_cons (ResV.tmp _ _ rfl) resVs_nil), (pubA_id rfl), ?_⟩
        rfl
    · replace h := ite_f hc h
      clear hc
      refine son rfl rfl rfl ?_
      refine sv rfl (opv_fieldAddr_lp fi49_0 rfl) ?_
      refine son rfl rfl rfl ?_
      refine sv rfl (opv_load1 ti3 rfl (.lp _ _ _ rfl) rfl) ?_
      refine son rfl rfl rfl ?_
      obtain ⟨v6, hv6, h⟩ := bind_eq h
      refine scall1 rfl fn47 (opnds_cons rfl opnds_nil) (pubA_id rfl) (m47_msg_isKind_c hv6) ?_
      refine sv rfl (opv_pick_f rfl rfl) ?_
      refine sv rfl (opv_mv rfl) ?_
      refine ssplit 31 rfl (fun hc => ?_) (fun hc => ?_)
      · replace h := ite_t hc h
        clear hc
        refine son rfl rfl rfl ?_
        refine sv rfl (opv_fieldAddr_lp fi49_1 rfl) ?_
        refine son rfl rfl rfl ?_
        refine sv rfl (opv_load1 ti3 rfl (.lp _ _ _ rfl) rfl) ?_
        refine son rfl rfl rfl ?_
        obtain ⟨v7, hv7, h⟩ := bind_eq h
        refine scall1 rfl fn58 (opnds_cons rfl (opnds_cons rfl opnds_nil)) (pubA_id rfl) (m58_msg_within_c hv7) ?_
        refine sv rfl (opv_pick_t rfl rfl) ?_
        refine sv rfl (opv_mv rfl) ?_
        refine ssplit 36 rfl (fun hc => ?_) (fun hc => ?_)
        · replace h := ite_t hc h
          clear hc
          refine son rfl rfl rfl ?_
          refine sv rfl (opv_fieldAddr_lp fi49_2 rfl) ?_
          refine son rfl rfl rfl ?_
          refine sv rfl (opv_load1 ti29 rfl (.lp _ _ _ rfl) rfl) ?_
          refine son rfl rfl rfl ?_
          obtain ⟨v8, hv8, h⟩ := bind_eq h
          refine scall1 rfl fn58 (opnds_cons rfl (opnds_cons rfl opnds_nil)) (pubA_id rfl) (m58_msg_within_c hv8) ?_
          refine sv rfl (opv_pick_t rfl rfl) ?_
          refine sv rfl (opv_mv rfl) ?_
          refine ssplit 41 rfl (fun hc => ?_) (fun hc => ?_)
          · replace h := ite_t hc h
            clear hc
            refine son rfl rfl rfl ?_
            refine sv rfl (opv_fieldAddr_lp fi49_3 rfl) ?_
            refine son rfl rfl rfl ?_
            refine sv rfl (opv_load1 ti3 rfl (.lp _ _ _ rfl) rfl) ?_
            refine son rfl rfl rfl ?_
            obtain ⟨v9, hv9, h⟩ := bind_eq h
            refine scall1 rfl fn58 (opnds_cons rfl (opnds_cons rfl opnds_nil)) (pubA_id rfl) (m58_msg_within_c hv9) ?_
            refine sv rfl (opv_pick_t rfl rfl) ?_
            refine sv rfl (opv_mv rfl) ?_
            refine ssplit 46 rfl (fun hc => ?_) (fun hc => ?_)
            · replace h := ite_t hc h
              clear hc
              refine son rfl rfl rfl ?_
              refine sv rfl (opv_fieldAddr_lp fi49_4 rfl) ?_
              refine son rfl rfl rfl ?_
              refine sv rfl (opv_load1 ti4 rfl (.lp _ _ _ rfl) rfl) ?_
              refine son rfl rfl rfl ?_
              refine sv rfl (opv_fieldAddr_lp fi49_5 rfl) ?_
              refine son rfl rfl rfl ?_
              refine sv rfl (opv_load1 ti22 rfl (.lp _ _ _ rfl) rfl) ?_
              refine son rfl rfl rfl ?_
              obtain ⟨v10, hv10, h⟩ := bind_eq h
              refine scall1 rfl fn60 (opnds_cons rfl (opnds_cons rfl (opnds_cons rfl (opnds_cons rfl opnds_nil)))) (pubA_id rfl) (m60_msg_saneBytes_c hv10) ?_
              refine sv rfl (opv_pick_t rfl rfl) ?_
              refine sv rfl (opv_mv rfl) ?_
              refine ssplit 53 rfl (fun hc => ?_) (fun hc => ?_)
              · replace h := ite_t hc h
                clear hc
                refine son rfl rfl rfl ?_
                refine sv rfl (opv_fieldAddr_lp fi49_6 rfl) ?_
                refine son rfl rfl rfl ?_
                refine sv rfl (opv_load1 ti44 rfl (.lp _ _ _ rfl) rfl) ?_
                refine son rfl rfl rfl ?_
                refine sv rfl (opv_len_sl si44 rfl) ?_
                refine son rfl rfl rfl ?_
                refine sv rfl (opv_leq rfl rfl) ?_
                refine sv rfl (opv_pick_t rfl rfl) ?_
                refine sv rfl (opv_as rfl) ?_
                refine snil ?_
                refine cret ?_
                obtain rfl := Option.some.inj h
                refine ⟨Or.inr rfl, _, _, _, (resVs_cons (ResV.tmp _ _ rfl) resVs_nil), (pubA_id rfl), ?_⟩
                rfl
              · replace h := ite_f hc h
                clear hc
                refine soff rfl rfl rfl rfl ?_
                refine soff rfl rfl rfl rfl ?_
                refine soff rfl rfl rfl rfl ?_
                refine soff rfl rfl rfl rfl ?_
                refine sv rfl (opv_pick_f rfl rfl) ?_
                refine sv rfl (opv_as rfl) ?_
                refine snil ?_
                refine cret ?_
                obtain rfl := Option.some.inj h
                refine ⟨Or.inr rfl, _, _, _, (resVs_cons (ResV.tmp _ _ rfl) resVs_nil), (pubA_id rfl), ?_⟩
                rfl
            · replace h := ite_f hc h
              clear hc
              refine soff rfl rfl rfl rfl ?_
              refine soff rfl rfl rfl rfl ?_
              refine soff rfl rfl rfl rfl ?_
              refine soff rfl rfl rfl rfl ?_
              refine soff rfl rfl rfl rfl ?_
              refine sv rfl (opv_pick_f rfl rfl) ?_
              refine sv rfl (opv_mv rfl) ?_
              refine soff rfl rfl rfl rfl ?_
              refine soff rfl rfl rfl rfl ?_
              refine soff rfl rfl rfl rfl ?_
              refine soff rfl rfl rfl rfl ?_
              refine sv rfl (opv_pick_f rfl rfl) ?_
              refine sv rfl (opv_as rfl) ?_
              refine snil ?_
              refine cret ?_
              obtain rfl := Option.some.inj h
              refine ⟨Or.inr rfl, _, _, _, (resVs_cons (ResV.tmp _ _ rfl) resVs_nil), (pubA_id rfl), ?_⟩
              rfl
          · replace h := ite_f hc h
            clear hc
            refine soff rfl rfl rfl rfl ?_
            refine soff rfl rfl rfl rfl ?_
            refine soff rfl rfl rfl rfl ?_
            refine sv rfl (opv_pick_f rfl rfl) ?_
            refine sv rfl (opv_mv rfl) ?_
            refine soff rfl rfl rfl rfl ?_
            refine soff rfl rfl rfl rfl ?_
            refine soff rfl rfl rfl rfl ?_
            refine soff rfl rfl rfl rfl ?_
            refine soff rfl rfl rfl rfl ?_
            refine sv rfl (opv_pick_f rfl rfl) ?_
            refine sv rfl (opv_mv rfl) ?_
            refine soff rfl rfl rfl rfl ?_
            refine soff rfl rfl rfl rfl ?_
            refine soff rfl rfl rfl rfl ?_
            refine soff rfl rfl rfl rfl ?_
            refine sv rfl (opv_pick_f rfl rfl) ?_
            refine sv rfl (opv_as rfl) ?_
            refine snil ?_
            refine cret ?_
            obtain rfl := Option.some.inj h
            refine ⟨Or.inr rfl, _, _, _, (resVs_cons (ResV.tmp _ _ rfl) resVs_nil), (pubA_id rfl), ?_⟩
            rfl
        · replace h := ite_f hc h
          clear hc
          refine soff rfl rfl rfl rfl ?_
          refine soff rfl rfl rfl rfl ?_
          refine soff rfl rfl rfl rfl ?_
          refine sv rfl (opv_pick_f rfl rfl) ?_
          refine sv rfl (opv_mv rfl) ?_
          refine soff rfl rfl rfl rfl ?_
          refine soff rfl rfl rfl rfl ?_
          refine soff rfl rfl rfl rfl ?_
          refine sv rfl (opv_pick_f rfl rfl) ?_
          refine sv rfl (opv_mv rfl) ?_
          refine soff rfl rfl rfl rfl ?_
          refine soff rfl rfl rfl rfl ?_
          refine soff rfl rfl rfl rfl ?_
          refine soff rfl rfl rfl rfl ?_
          refine soff rfl rfl rfl rfl ?_
          refine sv rfl (opv_pick_f rfl rfl) ?_
          refine sv rfl (opv_mv rfl) ?_
          refine soff rfl rfl rfl rfl ?_
          refine soff rfl rfl rfl rfl ?_
          refine soff rfl rfl rfl rfl ?_
          refine soff rfl rfl rfl rfl ?_
          refine sv rfl (opv_pick_f rfl rfl) ?_
          refine sv rfl (opv_as rfl) ?_
          refine snil ?_
          refine cret ?_
          obtain rfl := Option.some.inj h
          refine ⟨Or.inr rfl, _, _, _, (resVs_cons (ResV.tmp _ _ rfl) resVs_nil), (pubA_id rfl), ?_⟩
          rfl
      · replace h := ite_f hc h
        clear hc
        refine soff rfl rfl rfl rfl ?_
        refine soff rfl rfl rfl rfl ?_
        refine soff rfl rfl rfl rfl ?_
        refine sv rfl (opv_pick_f rfl rfl) ?_
        refine sv rfl (opv_mv rfl) ?_
        refine soff rfl rfl rfl rfl ?_
        refine soff rfl rfl rfl rfl ?_
        refine soff rfl rfl rfl rfl ?_
        refine sv rfl (opv_pick_f rfl rfl) ?_
        refine sv rfl (opv_mv rfl) ?_
        refine soff rfl rfl rfl rfl ?_
        refine soff rfl rfl rfl rfl ?_
        refine soff rfl rfl rfl rfl ?_
        refine sv rfl (opv_pick_f rfl rfl) ?_
        refine sv rfl (opv_mv rfl) ?_
        refine soff rfl rfl rfl rfl ?_
        refine soff rfl rfl rfl rfl ?_
        refine soff rfl rfl rfl rfl ?_
        refine soff rfl rfl rfl rfl ?_
        refine soff rfl rfl rfl rfl ?_
        refine sv rfl (opv_pick_f rfl rfl) ?_
        refine sv rfl (opv_mv rfl) ?_
        refine soff rfl rfl rfl rfl ?_
        refine soff rfl rfl rfl rfl ?_
        refine soff rfl rfl rfl rfl ?_
        refine soff rfl rfl rfl rfl ?_
        refine sv rfl (opv_pick_f rfl rfl) ?_
        refine sv rfl (opv_as rfl) ?_
        refine snil ?_
        refine cret ?_
        obtain rfl := Option.some.inj h
        refine ⟨Or.inr rfl, _, _, _, (resVs_cons (ResV.tmp _ _ rfl) resVs_nil), (pubA_id rfl), ?_⟩
        rfl
  · skip
    refine cblock ?_
    obtain ⟨x11, hx11, ho11⟩ := bind_eq h
    refine awc_loop (G := Nat × (Int)) (fun g => [(1, .s (.one (.lp 0 0))), (6, .s (.one (.sl a0.List.length (a0.List.flatMap eGApiKV)))), (7, .s (.one (.i .i64 (a0.List.length : Int)))), (8, .s (.one (.i .i64 g.2)))]) (fun g => [.box [.i .i64 a0.Kind, .i .i64 a0.Seq, .i .i64 a0.Code, .i .i64 a0.N, .b a0.Found, .sl a0.Val.length (a0.Val.flatMap eU8), .sl a0.List.length (a0.List.flatMap eGApiKV)]]) (fun g => iter (m29_msg_SaneReply_s11 a0) g.1 g.2 = some x11) (fun g => g.1) (fuel, 0) hx11 ⟨rfl, rfl, rfl, rfl, trivial⟩ [] rfl (fun _ _ => inbL_of rfl) (fun _ _ => blkinb_of rfl) (fun _ _ => Nat.le_of_ble_eq_true rfl) ?_
    clear hx11 h
    rintro ⟨n11, s11⟩ h
    obtain ⟨n11, y11, rfl, h, hk11⟩ := iter_eq h
    unfold m29_msg_SaneReply_s11 at h
    refine cseq ?_
    refine cregion ?_
    refine sv rfl (opv_lss rfl rfl) ?_
    refine snil ?_
    refine cseq ?_
    refine ccond rfl (fun hc => ?_) (fun hc => ?_)
    · replace h := ite_t hc h
      clear hc
      refine cskip ?_
      refine then_normal ?_
      refine cseq ?_
      refine cblock ?_
      refine cseq ?_
      refine cregion ?_
      obtain ⟨u12, hu12, h⟩ := bind_eq h
      refine sv rfl (opv_ix (f := eGApiKV) si44 (fun _ => rfl) rfl rfl rfl rfl hu12) ?_
      refine sv rfl (opv_loadNe (ys := [.sl u12.Key.length (u12.Key.flatMap eU8), .sl u12.Val.length (u12.Val.flatMap eU8)]) ti93 rfl (.cp _) rfl rfl) ?_
      refine salloc rfl zi93 ?_
      refine sstore sz93 rfl rfl rfl rfl (Nat.le_of_ble_eq_true rfl) ?_
      refine smem [.box [.i .i64 a0.Kind, .i .i64 a0.Seq, .i .i64 a0.Code, .i .i64 a0.N, .b a0.Found, .sl a0.Val.length (a0.Val.flatMap eU8), .sl a0.List.length (a0.List.flatMap eGApiKV)], .box [.sl u12.Key.length (u12.Key.flatMap eU8), .sl u12.Val.length (u12.Val.flatMap eU8)]] rfl ?_
      refine snil ?_
      refine cseq ?_
      refine cregion ?_
      refine sv rfl (opv_fieldAddr_lp fi93_0 rfl) ?_
      refine sv rfl (opv_load1 ti22 rfl (.lp _ _ _ rfl) rfl) ?_
      obtain ⟨v13, hv13, h⟩ := bind_eq h
      refine scall1 rfl fn60 (opnds_cons rfl (opnds_cons rfl (opnds_cons rfl (opnds_cons rfl opnds_nil)))) (pubA_id rfl) (m60_msg_saneBytes_c hv13) ?_
      refine sv rfl (opv_not rfl) ?_
      refine sv rfl (opv_mv rfl) ?_
      refine ssplit 16 rfl (fun hc => ?_) (fun hc => ?_)
      · replace h := ite_t hc h
        clear hc
        refine soff rfl rfl rfl rfl ?_
        refine soff rfl rfl rfl rfl ?_
        refine soff rfl rfl rfl rfl ?_
        refine soff rfl rfl rfl rfl ?_
        refine sv rfl (opv_pick_t rfl rfl) ?_
        refine snil ?_
        refine ccond rfl (fun _ => ?_) (fun hx => Bool.noConfusion hx)
        refine cseq ?_
        refine cregion ?_
        refine sv rfl (opv_as rfl) ?_
        refine snil ?_
        refine cret ?_
        refine block_ret ?_
        refine then_ret ?_
        refine then_ret ?_
        refine block_ret ?_
        refine then_ret ?_
        obtain rfl := Option.some.inj h
        obtain rfl : Sum.inl _ = x11 := hk11
        replace ho11 : some _ = some _ := ho11
        obtain rfl := Option.some.inj ho11
        refine ⟨Or.inr rfl, _, _, _, (resVs_cons (ResV.tmp _ _ rfl) resVs_nil), (pubA_id rfl), ?_⟩
        rfl
      · replace h := ite_f hc h
        clear hc
        refine son rfl rfl rfl ?_
        refine sv rfl (opv_fieldAddr_lp fi93_1 rfl) ?_
        refine son rfl rfl rfl ?_
        refine sv rfl (opv_load1 ti22 rfl (.lp _ _ _ rfl) rfl) ?_
        refine son rfl rfl rfl ?_
        refine sv rfl (opv_len_sl si22 rfl) ?_
        refine son rfl rfl rfl ?_
        refine sv rfl (opv_gtr rfl rfl) ?_
        refine sv rfl (opv_pick_f rfl rfl) ?_
        refine snil ?_
        refine ccond rfl (fun hc => ?_) (fun hc => ?_)
        · replace h := ite_t hc h
          clear hc
          refine cseq ?_
          refine cregion ?_
          refine sv rfl (opv_as rfl) ?_
          refine snil ?_
          refine cret ?_
          refine block_ret ?_
          refine then_ret ?_
          refine then_ret ?_
          refine block_ret ?_
          refine then_ret ?_
          obtain rfl := Option.some.inj h
          obtain rfl : Sum.inl _ = x11 := hk11
          replace ho11 : some _ = some _ := ho11
          obtain rfl := Option.some.inj ho11
          refine ⟨Or.inr rfl, _, _, _, (resVs_cons (ResV.tmp _ _ rfl) resVs_nil), (pubA_id rfl), ?_⟩
          rfl
        · replace h := ite_f hc h
          clear hc
          refine cskip ?_
          refine block_normal ?_
          refine then_normal ?_
          refine cregion ?_
          refine sv rfl (opv_add rfl rfl) ?_
          refine sv rfl (opv_mv rfl) ?_
          refine snil ?_
          obtain rfl := Option.some.inj h
          exact ⟨(n11, (wI (s11 + 1))), _, hk11, ⟨rfl, rfl, rfl, rfl, trivial⟩, rfl, Nat.lt_succ_self _⟩
    · replace h := ite_f hc h
      clear hc
      refine cexit ?_
      refine then_exit ?_
      refine then_exit ?_
      refine block_hit ?_
      refine then_normal ?_
      obtain rfl := Option.some.inj h
      obtain rfl : _ = x11 := hk11
      exact ⟨(), _, ho11, ⟨rfl, trivial⟩, rfl⟩

def m22_msg_PutReply_k9 (b9 : (List UInt8)) : Option ((List UInt8) × Int) :=
  some (b9, 0)

def m22_msg_PutReply_s10 (a0 : GMsgReply) (s10 : (List UInt8) × Int) : Option (LB ((List UInt8) × Int) ((List UInt8))) :=
  if (decide (s10.2 < (a0.List.length : Int))) then ((idx a0.List s10.2).bind fun u11 => (m35_enc_List s10.1 u11.Key).bind fun v12 => (m35_enc_List v12 u11.Val).bind fun v13 => some (.cont (v13, (wI (s10.2 + 1))))) else (some (.brk s10.1))
def m22_msg_PutReply (a0 : GMsgReply) : Option ((List UInt8) × Int) :=
  (m29_msg_SaneReply a0).bind fun v1 => if (!v1) then (some (([] : List UInt8), 1)) else ((m33_enc_U ([] : List UInt8) (BitVec.ofInt 64 a0.Kind) 1).bind fun v2 => (m33_enc_U v2 (BitVec.ofInt 64 a0.Seq) 4).bind fun v3 => (m33_enc_U v3 (BitVec.ofInt 64 a0.Code) 1).bind fun v4 => (m33_enc_U v4 (BitVec.ofInt 64 a0.N) 8).bind fun v5 => (m34_msg_putFlag v5 a0.Found).bind fun v6 => (m35_enc_List v6 a0.Val).bind fun v7 => (m33_enc_U v7 (BitVec.ofInt 64 (a0.List.length : Int)) 1).bind fun v8 => (iterB (m22_msg_PutReply_s10 a0) fuel (v8, 0)).bind fun e14 => m22_msg_PutReply_k9 e14)

set_option maxRecDepth 100000 in
theorem m22_msg_PutReply_c {a0 : GMsgReply} {r : (List UInt8) × Int} (h : m22_msg_PutReply a0 = some r) : CallsA Tryd.prog 22 [.agg [.i .i64 a0.Kind, .i .i64 a0.Seq, .i .i64 a0.Code, .i .i64 a0.N, .b a0.Found, .sl a0.Val.length (a0.Val.flatMap eU8), .sl a0.List.length (a0.List.flatMap eGApiKV)]] (· = .tup [.one (.sl r.1.length (r.1.flatMap eU8)), .one (.i .i64 r.2)]) := by
  unfold m22_msg_PutReply at h
  refine callsA_of Tryd.func22 rfl (nt := 56) rfl (Nat.le_of_ble_eq_true rfl) ?_
  intro w0 S0
  refine cseq ?_
  refine cregion ?_
  refine sbox rfl rfl ?_
  refine sv rfl (opv_as rfl) ?_
  refine sv rfl (opv_as rfl) ?_
  refine snil ?_
  refine cseq ?_
  refine cseq ?_
  refine cregion ?_
  refine sv rfl (opv_loadN ti49 rfl (.lp _ _ _ rfl) (Nat.le_of_ble_eq_true rfl)) ?_
  obtain ⟨v1, hv1, h⟩ := bind_eq h
  refine scall1 rfl fn29 (opnds_cons rfl opnds_nil) (pubA_id rfl) (m29_msg_SaneReply_c hv1) ?_
  refine sv rfl (opv_not rfl) ?_
  refine snil ?_
  refine ccond rfl (fun hc => ?_) (fun hc => ?_)
  · replace h := ite_t hc h
    clear hc
    refine cseq ?_
    refine cregion ?_
    refine sv rfl (opv_as rfl) ?_
    refine sv rfl (opv_as rfl) ?_
    refine snil ?_
    refine cret ?_
    refine then_ret ?_
    obtain rfl := Option.some.inj h
    refine ⟨Or.inr rfl, _, _, _, (resVs_cons (ResV.tmp _ _ rfl) (resVs_cons (ResV.tmp _ _ rfl) resVs_nil)), (pubC rfl), ?_⟩
    rfl
  · replace h := ite_f hc h
    clear hc
    refine cskip ?_
    refine then_normal ?_
    refine cseq ?_
    refine cdraw mixed (by kernel_rfl) ?_
    refine dv rfl (opv_fieldAddr_lp fi49_0 rfl) ?_
    refine dv rfl (opv_load1 ti3 rfl (.lp _ _ _ rfl) rfl) ?_
    refine dv rfl (opv_conv_ibv rfl Tryd.underlying3 Tryd.underlying69 rfl) ?_
    obtain ⟨v2, hv2, h⟩ := bind_eq h
    refine dd rfl (opD_callN fn33 (opnds_cons rfl (opnds_cons rfl (opnds_cons rfl opnds_nil))) rfl (m33_enc_U_c hv2)) ?_
    refine dv rfl (opv_fieldAddr_lp fi49_1 rfl) ?_
    refine dv rfl (opv_load1 ti3 rfl (.lp _ _ _ rfl) rfl) ?_
    refine dv rfl (opv_conv_ibv rfl Tryd.underlying3 Tryd.underlying69 rfl) ?_
    obtain ⟨v3, hv3, h⟩ := bind_eq h
    refine dd rfl (opD_call fn33 (opnds_cons rfl (opnds_cons rfl (opnds_cons rfl opnds_nil))) rfl (m33_enc_U_c hv3)) ?_
    refine dv rfl (opv_as rfl) ?_
    refine dnil ?_
    refine then_normal ?_
    refine cseq ?_
    refine cdrawL mixed (by kernel_rfl) ?_
    refine dv rfl (opv_mv rfl) ?_
    refine dv rfl (opv_fieldAddr_lp fi49_2 rfl) ?_
    refine dv rfl (opv_load1 ti29 rfl (.lp _ _ _ rfl) rfl) ?_
    refine dv rfl (opv_conv_ibv rfl Tryd.underlying29 Tryd.underlying69 rfl) ?_
    obtain ⟨v4, hv4, h⟩ := bind_eq h
    refine dd rfl (opD_call fn33 (opnds_cons rfl (opnds_cons rfl (opnds_cons rfl opnds_nil))) rfl (m33_enc_U_c hv4)) ?_
    refine dv rfl (opv_fieldAddr_lp fi49_3 rfl) ?_
    refine dv rfl (opv_load1 ti3 rfl (.lp _ _ _ rfl) rfl) ?_
    refine dv rfl (opv_conv_ibv rfl Tryd.underlying3 Tryd.underlying69 rfl) ?_
    obtain ⟨v5, hv5, h⟩ := bind_eq h
    refine dd rfl (opD_call fn33 (opnds_cons rfl (opnds_cons rfl (opnds_cons rfl opnds_nil))) rfl (m33_enc_U_c hv5)) ?_
    refine dv rfl (opv_as rfl) ?_
    refine dnil ?_
    refine then_normal ?_
    refine cseq ?_
    refine cdrawL mixed (by kernel_rfl) ?_
    refine dv rfl (opv_mv rfl) ?_
    refine dv rfl (opv_fieldAddr_lp fi49_4 rfl) ?_
    refine dv rfl (opv_load1 ti4 rfl (.lp _ _ _ rfl) rfl) ?_
    obtain ⟨v6, hv6, h⟩ := bind_eq h
    refine dd rfl (opD_call fn34 (opnds_cons rfl (opnds_cons rfl opnds_nil)) rfl (m34_msg_putFlag_c hv6)) ?_
    refine dv rfl (opv_fieldAddr_lp fi49_5 rfl) ?_
    refine dv rfl (opv_load1 ti22 rfl (.lp _ _ _ rfl) rfl) ?_
    obtain ⟨v7, hv7, h⟩ := bind_eq h
    refine dd rfl (opD_call fn35 (opnds_cons rfl (opnds_cons rfl opnds_nil)) rfl (m35_enc_List_c hv7)) ?_
    refine dv rfl (opv_as rfl) ?_
    refine dnil ?_
    refine then_normal ?_
    refine cseq ?_
    refine cregion ?_
    refine sv rfl (opv_mv rfl) ?_
    refine sv rfl (opv_fieldAddr_lp fi49_6 rfl) ?_
    refine sv rfl (opv_load1 ti44 rfl (.lp _ _ _ rfl) rfl) ?_
    refine sv rfl (opv_len_sl si44 rfl) ?_
    refine sv rfl (opv_conv_ibv rfl Tryd.underlying3 Tryd.underlying69 rfl) ?_
    obtain ⟨v8, hv8, h⟩ := bind_eq h
    refine scall1 rfl fn33 (opnds_cons rfl (opnds_cons rfl (opnds_cons rfl opnds_nil))) (pubA_id rfl) (m33_enc_U_c hv8) ?_
    refine sv rfl (opv_as rfl) ?_
    refine snil ?_
    refine cseq ?_
    refine cseq ?_
    refine cregion ?_
    refine sv rfl (opv_fieldAddr_lp fi49_6 rfl) ?_
    refine sv rfl (opv_load1 ti44 rfl (.lp _ _ _ rfl) rfl) ?_
    refine sv rfl (opv_len_sl si44 rfl) ?_
    refine sv rfl (opv_mv rfl) ?_
    refine snil ?_
    refine cjoin ((List UInt8)) (fun b9 => [(4, .s (.one (.sl b9.length (b9.flatMap eU8))))]) (fun b9 => [.box [.i .i64 a0.Kind, .i .i64 a0.Seq, .i .i64 a0.Code, .i .i64 a0.N, .b a0.Found, .sl a0.Val.length (a0.Val.flatMap eU8), .sl a0.List.length (a0.List.flatMap eGApiKV)]]) (fun b9 => m22_msg_PutReply_k9 b9 = some r) (fun _ _ => inbL_of rfl) (fun _ _ => blkinb_of rfl) (fun _ _ => Nat.le_of_ble_eq_true rfl) (fun b9 h => ?_) ?_
    · unfold m22_msg_PutReply_k9 at h
      refine cseq ?_
      refine cregion ?_
      refine sv rfl (opv_mv rfl) ?_
      refine sv rfl (opv_as rfl) ?_
      refine sv rfl (opv_as rfl) ?_
      refine snil ?_
      refine cret ?_
      obtain rfl := Option.some.inj h
      refine ⟨Or.inr rfl, _, _, _, (resVs_cons (ResV.tmp _ _ rfl) (resVs_cons (ResV.tmp _ _ rfl) resVs_nil)), (pubA_id rfl), ?_⟩
      rfl
    · skip
      refine cblock ?_
      obtain ⟨x10, hx10, ho10⟩ := bind_eq h
      refine awc_loop (G := Nat × ((List UInt8) × Int)) (fun g => [(4, .s (.one (.sl g.2.1.length (g.2.1.flatMap eU8)))), (41, .s (.one (.sl a0.List.length (a0.List.flatMap eGApiKV)))), (42, .s (.one (.i .i64 (a0.List.length : Int)))), (43, .s (.one (.i .i64 g.2.2)))]) (fun g => [.box [.i .i64 a0.Kind, .i .i64 a0.Seq, .i .i64 a0.Code, .i .i64 a0.N, .b a0.Found, .sl a0.Val.length (a0.Val.flatMap eU8), .sl a0.List.length (a0.List.flatMap eGApiKV)]]) (fun g => iterB (m22_msg_PutReply_s10 a0) g.1 g.2 = some x10) (fun g => g.1) (fuel, (v8, 0)) hx10 ⟨rfl, rfl, rfl, rfl, trivial⟩ [] rfl (fun _ _ => inbL_of rfl) (fun _ _ => blkinb_of rfl) (fun _ _ => Nat.le_of_ble_eq_true rfl) ?_
      clear hx10 h
      rintro ⟨n10, s10⟩ h
      obtain ⟨n10, y10, rfl, h, hk10⟩ := iterB_eq h
      unfold m22_msg_PutReply_s10 at h
      refine cseq ?_
      refine cregion ?_
      refine sv rfl (opv_lss rfl rfl) ?_
      refine snil ?_
      refine cseq ?_
      refine ccond rfl (fun hc => ?_) (fun hc => ?_)
      · replace h := ite_t hc h
        clear hc
        refine cskip ?_
        refine then_normal ?_
        refine cseq ?_
        refine cblock ?_
        refine cseq ?_
        refine cregion ?_
        obtain ⟨u11, hu11, h⟩ := bind_eq h
        refine sv rfl (opv_ix (f := eGApiKV) si44 (fun _ => rfl) rfl rfl rfl rfl hu11) ?_
        refine sv rfl (opv_loadNe (ys := [.sl u11.Key.length (u11.Key.flatMap eU8), .sl u11.Val.length (u11.Val.flatMap eU8)]) ti93 rfl (.cp _) rfl rfl) ?_
        refine salloc rfl zi93 ?_
        refine sstore sz93 rfl rfl rfl rfl (Nat.le_of_ble_eq_true rfl) ?_
        refine smem [.box [.i .i64 a0.Kind, .i .i64 a0.Seq, .i .i64 a0.Code, .i .i64 a0.N, .b a0.Found, .sl a0.Val.length (a0.Val.flatMap eU8), .sl a0.List.length (a0.List.flatMap eGApiKV)], .box [.sl u11.Key.length (u11.Key.flatMap eU8), .sl u11.Val.length (u11.Val.flatMap eU8)]] rfl ?_
        refine snil ?_
        refine cdrawL mixed (by kernel_rfl) ?_
        refine dv rfl (opv_mv rfl) ?_
        refine dv rfl (opv_fieldAddr_lp fi93_0 rfl) ?_
        refine dv rfl (opv_load1 ti22 rfl (.lp _ _ _ rfl) rfl) ?_
        obtain ⟨v12, hv12, h⟩ := bind_eq h
        refine dd rfl (opD_call fn35 (opnds_cons rfl (opnds_cons rfl opnds_nil)) rfl (m35_enc_List_c hv12)) ?_
        refine dv rfl (opv_fieldAddr_lp fi93_1 rfl) ?_
        refine dv rfl (opv_load1 ti22 rfl (.lp _ _ _ rfl) rfl) ?_
        obtain ⟨v13, hv13, h⟩ := bind_eq h
        refine dd rfl (opD_call fn35 (opnds_cons rfl (opnds_cons rfl opnds_nil)) rfl (m35_enc_List_c hv13)) ?_
        refine dv rfl (opv_as rfl) ?_
        refine dnil ?_
        refine block_normal ?_
        refine then_normal ?_
        refine cregion ?_
        refine sv rfl (opv_add rfl rfl) ?_
        refine sv rfl (opv_mv rfl) ?_
        refine snil ?_
        obtain rfl := Option.some.inj h
        exact ⟨(n10, (v13, (wI (s10.2 + 1)))), _, hk10, ⟨rfl, rfl, rfl, rfl, trivial⟩, rfl, Nat.lt_succ_self _⟩
      · replace h := ite_f hc h
        clear hc
        refine cexit ?_
        refine then_exit ?_
        refine then_exit ?_
        refine block_hit ?_
        refine then_normal ?_
        obtain rfl := Option.some.inj h
        obtain rfl : _ = x10 := hk10
        exact ⟨s10.1, _, ho10, ⟨rfl, trivial⟩, rfl⟩

def m67_msg_readLists_k3 (b3 : Int × Int × (List GApiKV)) : Option ((List GApiKV) × Int × Int) :=
  some (b3.2.2, b3.1, b3.2.1)

def m67_msg_readLists_s4 (a2 : List UInt8) (v1 : (BitVec 64) × Int × Int) (s4 : Int × Int × Int × (List GApiKV)) : Option (LB (Int × Int × Int × (List GApiKV)) (Int × Int × (List GApiKV))) :=
  if (decide (s4.1 < (wI (v1.1.toNat : Int)))) then ((m66_enc_Reader_Lists 16 s4.2.1 s4.2.2.1 a2).bind fun v5 => (m66_enc_Reader_Lists 32 v5.2.1 v5.2.2 a2).bind fun v6 => if (s4.2.2.2.length + [(GApiKV.mk v5.1 v6.1)].length) * 48 ≤ 140737488355328 then (some (.cont ((wI (s4.1 + 1)), v6.2.1, v6.2.2, (s4.2.2.2 ++ [(GApiKV.mk v5.1 v6.1)])))) else none) else (some (.brk (s4.2.1, s4.2.2.1, s4.2.2.2)))
def m67_msg_readLists (a0 : Int) (a1 : Int) (a2 : List UInt8) : Option ((List GApiKV) × Int × Int) :=
  (m46_enc_Reader_Us 1 a0 a1 a2).bind fun v1 => if (decide (8 < (wI (v1.1.toNat : Int)))) then ((m48_enc_Reader_Fails 5 v1.2.1 v1.2.2 a2).bind fun v2 => some (([] : List GApiKV), v2, v1.2.2)) else ((iterB (m67_msg_readLists_s4 a2 v1) fuel (0, v1.2.1, v1.2.2, ([] : List GApiKV))).bind fun e8 => m67_msg_readLists_k3 e8)

set_option maxRecDepth 100000 in
theorem m67_msg_readLists_c {a0 : Int} {a1 : Int} {a2 : List UInt8} {r : (List GApiKV) × Int × Int} (h : m67_msg_readLists a0 a1 a2 = some r) : CallsB Tryd.prog 67 [.box [.fn 70 [] [.lp 1 0, .lp 2 0], .i .i64 a0], .box [.i .i64 a1], .box [.sl a2.length (a2.flatMap eU8)]] [.one (.lp 0 0)] (fun y m' => y = .s (.one (.sl r.1.length (r.1.flatMap eGApiKV))) ∧ m' = [.box [.fn 70 [] [.lp 1 0, .lp 2 0], .i .i64 r.2.1], .box [.i .i64 r.2.2], .box [.sl a2.length (a2.flatMap eU8)]]) := by
  unfold m67_msg_readLists at h
  refine callsB_of Tryd.func67 rfl (nt := 25) rfl (Nat.le_of_ble_eq_true rfl) ?_
  intro w0 S0 X0 H0
  refine cseq ?_
  refine cregion ?_
  refine sv rfl (opv_as rfl) ?_
  refine snil ?_
  refine cseq ?_
  refine cregion ?_
  refine sv rfl (opv_mv rfl) ?_
  obtain ⟨v1, hv1, h⟩ := bind_eq h
  refine scallB (x' := .s (.one (.i .u64 (v1.1.toNat : Int)))) (M' := [.box [.fn 70 [] [.lp 1 0, .lp 2 0], .i .i64 v1.2.1], .box [.i .i64 v1.2.2], .box [.sl a2.length (a2.flatMap eU8)]]) [0, 1, 2] rfl fn46 (.func _) (opnds_cons rfl (opnds_cons rfl opnds_nil)) (m46_enc_Reader_Us_c hv1) rfl rfl (by decide) rfl rfl rfl ?_
  refine sv rfl (opv_conv_int Tryd.underlying69 Tryd.underlying3 rfl) ?_
  refine sv rfl (opv_as rfl) ?_
  refine snil ?_
  refine cseq ?_
  refine cseq ?_
  refine cregion ?_
  refine sv rfl (opv_mv rfl) ?_
  refine sv rfl (opv_gtr rfl rfl) ?_
  refine snil ?_
  refine ccond rfl (fun hc => ?_) (fun hc => ?_)
  · replace h := ite_t hc h
    clear hc
    refine cseq ?_
    refine cregion ?_
    refine sv rfl (opv_mv rfl) ?_
    obtain ⟨v2, hv2, h⟩ := bind_eq h
    refine scallB (x' := .tup []) (M' := [.box [.fn 70 [] [.lp 1 0, .lp 2 0], .i .i64 v2], .box [.i .i64 v1.2.2], .box [.sl a2.length (a2.flatMap eU8)]]) [0, 1, 2] rfl fn48 (.func _) (opnds_cons rfl (opnds_cons rfl opnds_nil)) (m48_enc_Reader_Fails_c hv2) rfl rfl (by decide) rfl rfl rfl ?_
    refine snil ?_
    refine cseq ?_
    refine cregion ?_
    refine sv rfl (opv_as rfl) ?_
    refine snil ?_
    refine cpub 2 rfl (by (repeat' first | exact PubA.nil _ | apply PubA.cons | apply PubV.one | apply PubV.agg | exact PubL.nil | exact PubL.id _ rfl | exact PubLs.nil _ | apply PubLs.cons)) ?_
    refine cret ?_
    refine then_ret ?_
    obtain rfl := Option.some.inj h
    exact ⟨Or.inr rfl, _, [0, 1, 2], [.one (.sl ([] : List GApiKV).length (([] : List GApiKV).flatMap eGApiKV))], [.box [.fn 70 [] [.lp 1 0, .lp 2 0], .i .i64 v2], .box [.i .i64 v1.2.2], .box [.sl a2.length (a2.flatMap eU8)]], (resVs_cons (ResV.tmp _ _ rfl) resVs_nil), rfl, rfl, ⟨by decide, rfl⟩, rfl, rfl, ⟨rfl, rfl⟩⟩
  · replace h := ite_f hc h
    clear hc
    refine cskip ?_
    refine then_normal ?_
    refine cseq ?_
    refine cregion ?_
    refine sv rfl (opv_as rfl) ?_
    refine snil ?_
    refine cseq ?_
    refine cseq ?_
    refine cregion ?_
    refine sv rfl (opv_mv rfl) ?_
    refine sv rfl (opv_mv rfl) ?_
    refine snil ?_
    refine sadopt_c 93 2 4 (by decide) rfl ?_
    refine cjoin (Int × Int × (List GApiKV)) (fun b3 => [(4, .s (.one (.ls 3 b3.2.2.length)))]) (fun b3 => [.box [.fn 70 [] [.lp 1 0, .lp 2 0], .i .i64 b3.1], .box [.i .i64 b3.2.1], .box [.sl a2.length (a2.flatMap eU8)], .arr 93 2 0 (b3.2.2.flatMap eGApiKV)]) (fun b3 => m67_msg_readLists_k3 b3 = some r) (fun _ _ => inbL_of rfl) (fun _ _ => blkinb_of rfl) (fun _ _ => Nat.le_of_ble_eq_true rfl) (fun b3 h => ?_) ?_
    · unfold m67_msg_readLists_k3 at h
      refine cseq ?_
      refine cregion ?_
      refine sv rfl (opv_mv rfl) ?_
      refine sv rfl (opv_as rfl) ?_
      refine snil ?_
      refine cpub 2 rfl (by (repeat' first | exact PubA.nil _ | apply PubA.cons | apply PubV.one | apply PubV.agg | exact PubL.nil | exact PubL.ls _ _ _ _ _ _ rfl (flat_len (f := eGApiKV) (fun _ => rfl) _).symm | exact PubL.id _ rfl | exact PubLs.nil _ | apply PubLs.cons)) ?_
      refine cret ?_
      obtain rfl := Option.some.inj h
      exact ⟨Or.inr rfl, _, [0, 1, 2], [.one (.sl b3.2.2.length (b3.2.2.flatMap eGApiKV))], [.box [.fn 70 [] [.lp 1 0, .lp 2 0], .i .i64 b3.1], .box [.i .i64 b3.2.1], .box [.sl a2.length (a2.flatMap eU8)]], (resVs_cons (ResV.tmp _ _ rfl) resVs_nil), rfl, rfl, ⟨by decide, rfl⟩, rfl, rfl, ⟨rfl, rfl⟩⟩
    · skip
      refine cblock ?_
      obtain ⟨x4, hx4, ho4⟩ := bind_eq h
      refine awc_loop (G := Nat × (Int × Int × Int × (List GApiKV))) (fun g => [(0, .s (.one (.lp 0 0))), (4, .s (.one (.ls 3 g.2.2.2.2.length))), (12, .s (.one (.i .i64 (wI (v1.1.toNat : Int))))), (13, .s (.one (.i .i64 g.2.1)))]) (fun g => [.box [.fn 70 [] [.lp 1 0, .lp 2 0], .i .i64 g.2.2.1], .box [.i .i64 g.2.2.2.1], .box [.sl a2.length (a2.flatMap eU8)], .arr 93 2 0 (g.2.2.2.2.flatMap eGApiKV)]) (fun g => iterB (m67_msg_readLists_s4 a2 v1) g.1 g.2 = some x4) (fun g => g.1) (fuel, (0, v1.2.1, v1.2.2, ([] : List GApiKV))) hx4 ⟨rfl, rfl, rfl, rfl, trivial⟩ [] rfl (fun _ _ => inbL_of rfl) (fun _ _ => blkinb_of rfl) (fun _ _ => Nat.le_of_ble_eq_true rfl) ?_
      clear hx4 h
      rintro ⟨n4, s4⟩ h
      obtain ⟨n4, y4, rfl, h, hk4⟩ := iterB_eq h
      unfold m67_msg_readLists_s4 at h
      refine cseq ?_
      refine cregion ?_
      refine sv rfl (opv_lss rfl rfl) ?_
      refine snil ?_
      refine cseq ?_
      refine ccond rfl (fun hc => ?_) (fun hc => ?_)
      · replace h := ite_t hc h
        clear hc
        refine cskip ?_
        refine then_normal ?_
        refine cseq ?_
        refine cblock ?_
        refine cregion ?_
        refine sv rfl (opv_mv rfl) ?_
        refine sv rfl (opv_mv rfl) ?_
        obtain ⟨v5, hv5, h⟩ := bind_eq h
        refine scallB (x' := .s (.one (.sl v5.1.length (v5.1.flatMap eU8)))) (M' := [.box [.fn 70 [] [.lp 1 0, .lp 2 0], .i .i64 v5.2.1], .box [.i .i64 v5.2.2], .box [.sl a2.length (a2.flatMap eU8)], .arr 93 2 0 (s4.2.2.2.flatMap eGApiKV)]) [0, 1, 2] rfl fn66 (.func _) (opnds_cons rfl (opnds_cons rfl opnds_nil)) (m66_enc_Reader_Lists_c hv5) rfl rfl (by decide) rfl rfl rfl ?_
        refine sv rfl (opv_mv rfl) ?_
        obtain ⟨v6, hv6, h⟩ := bind_eq h
        refine scallB (x' := .s (.one (.sl v6.1.length (v6.1.flatMap eU8)))) (M' := [.box [.fn 70 [] [.lp 1 0, .lp 2 0], .i .i64 v6.2.1], .box [.i .i64 v6.2.2], .box [.sl a2.length (a2.flatMap eU8)], .arr 93 2 0 (s4.2.2.2.flatMap eGApiKV)]) [0, 1, 2] rfl fn66 (.func _) (opnds_cons rfl (opnds_cons rfl opnds_nil)) (m66_enc_Reader_Lists_c hv6) rfl rfl (by decide) rfl rfl rfl ?_
        refine sv rfl (opv_build zi93 pi93 (parts_cons rfl (parts_cons rfl parts_nil)) (.cons _ _ _ _ _ _ _ rfl rfl (Nat.le_of_ble_eq_true rfl) (.cons _ _ _ _ _ _ _ rfl rfl (Nat.le_of_ble_eq_true rfl) (.nil _)))) ?_
        refine sbuild1 rfl Tryd.underlying44 ei93 rfl rfl (List.all_eq_true.1 rfl) (by decide) ?_
        refine smem [.box [.fn 70 [] [.lp 1 0, .lp 2 0], .i .i64 v6.2.1], .box [.i .i64 v6.2.2], .box [.sl a2.length (a2.flatMap eU8)], .arr 93 2 0 (s4.2.2.2.flatMap eGApiKV), .arr 93 2 0 ([(GApiKV.mk v5.1 v6.1)].flatMap eGApiKV)] rfl ?_
        obtain ⟨hb7, h⟩ := chk_eq h
        refine sapp (f := eGApiKV) (xs := s4.2.2.2) (us := [(GApiKV.mk v5.1 v6.1)]) rfl Tryd.underlying44 ei93 ni44 (fun _ => rfl) rfl rfl (.one _ _ _ _ (.ls _ _ _ _ _ _ rfl (flat_len (f := eGApiKV) (fun _ => rfl) [(GApiKV.mk v5.1 v6.1)]).symm)) rfl rfl rfl (.sl _ _ _ (flat_len (f := eGApiKV) (fun _ => rfl) _)) rfl rfl hb7 (by decide) ?_
        refine sv rfl (opv_as rfl) ?_
        refine snil0 ?_
        refine block_normal ?_
        refine then_normal ?_
        refine cregion ?_
        refine sv rfl (opv_add rfl rfl) ?_
        refine sv rfl (opv_mv rfl) ?_
        refine snil ?_
        obtain rfl := Option.some.inj h
        exact ⟨(n4, ((wI (s4.1 + 1)), v6.2.1, v6.2.2, (s4.2.2.2 ++ [(GApiKV.mk v5.1 v6.1)]))), _, hk4, ⟨rfl, rfl, rfl, rfl, trivial⟩, rfl, Nat.lt_succ_self _⟩
      · replace h := ite_f hc h
        clear hc
        refine cexit ?_
        refine then_exit ?_
        refine then_exit ?_
        refine block_hit ?_
        refine then_normal ?_
        obtain rfl := Option.some.inj h
        obtain rfl : _ = x4 := hk4
        exact ⟨(s4.2.1, s4.2.2.1, s4.2.2.2), _, ho4, ⟨rfl, trivial⟩, rfl⟩

def m25_msg_ReadReply_k4 (v1 : Int × Int × (List UInt8)) (v2 : (BitVec 64) × Int × Int) (v3 : (BitVec 64) × Int × Int) (b4 : Int) : Option (GMsgReply × Int) :=
  (m46_enc_Reader_Us 1 b4 v3.2.2 v1.2.2).bind fun v5 => (m46_enc_Reader_Us 8 v5.2.1 v5.2.2 v1.2.2).bind fun v6 => (m65_enc_Reader_Flags v6.2.1 v6.2.2 v1.2.2).bind fun v7 => (m66_enc_Reader_Lists 32 v7.2.1 v7.2.2 v1.2.2).bind fun v8 => (m67_msg_readLists v8.2.1 v8.2.2 v1.2.2).bind fun v9 => (m50_enc_Reader_Ends v9.2.1 v9.2.2 v1.2.2).bind fun v10 => if (!decide (v10.1 = 0)) then (some ((GMsgReply.mk 0 0 0 0 false ([] : List UInt8) ([] : List GApiKV)), v10.1)) else ((m29_msg_SaneReply (GMsgReply.mk (wI (v2.1.toNat : Int)) (wI (v3.1.toNat : Int)) (wI (v5.1.toNat : Int)) (wI (v6.1.toNat : Int)) v7.1 v8.1 v9.1)).bind fun v11 => if (!v11) then (some ((GMsgReply.mk 0 0 0 0 false ([] : List UInt8) ([] : List GApiKV)), 3)) else (some ((GMsgReply.mk (wI (v2.1.toNat : Int)) (wI (v3.1.toNat : Int)) (wI (v5.1.toNat : Int)) (wI (v6.1.toNat : Int)) v7.1 v8.1 v9.1), 0)))
def m25_msg_ReadReply (a0 : List UInt8) : Option (GMsgReply × Int) :=
  (m45_enc_News a0).bind fun v1 => (m46_enc_Reader_Us 1 v1.1 v1.2.1 v1.2.2).bind fun v2 => (m46_enc_Reader_Us 4 v2.2.1 v2.2.2 v1.2.2).bind fun v3 => if (!decide ((wI (v2.1.toNat : Int)) = 0)) then ((m47_msg_isKind (wI (v2.1.toNat : Int))).bind fun v12 => if (!v12) then ((m48_enc_Reader_Fails 3 v3.2.1 v3.2.2 v1.2.2).bind fun v13 => m25_msg_ReadReply_k4 v1 v2 v3 v13) else (m25_msg_ReadReply_k4 v1 v2 v3 v3.2.1)) else (m25_msg_ReadReply_k4 v1 v2 v3 v3.2.1)

set_option maxRecDepth 100000 in
theorem m25_msg_ReadReply_c {a0 : List UInt8} {r : GMsgReply × Int} (h : m25_msg_ReadReply a0 = some r) : CallsA Tryd.prog 25 [.one (.sl a0.length (a0.flatMap eU8))] (· = .tup [.agg [.i .i64 r.1.Kind, .i .i64 r.1.Seq, .i .i64 r.1.Code, .i .i64 r.1.N, .b r.1.Found, .sl r.1.Val.length (r.1.Val.flatMap eU8), .sl r.1.List.length (r.1.List.flatMap eGApiKV)], .one (.i .i64 r.2)]) := by
  unfold m25_msg_ReadReply at h
  refine callsA_of Tryd.func25 rfl (nt := 55) rfl (Nat.le_of_ble_eq_true rfl) ?_
  intro w0 S0
  refine cseq ?_
  refine cregion ?_
  refine salloc rfl zi49 ?_
  refine sv rfl (opv_as rfl) ?_
  refine snil ?_
  refine cseq ?_
  refine cregion ?_
  refine sv rfl (opv_mv rfl) ?_
  obtain ⟨v1, hv1, h⟩ := bind_eq h
  refine scallB (x' := .s (.one (.lp 1 0))) (M' := [.box [.i .i64 0, .i .i64 0, .i .i64 0, .i .i64 0, .b false, .raw (.slice none 0 0), .raw (.slice none 0 0)], .box [.fn 70 [] [.lp 2 0, .lp 3 0], .i .i64 v1.1], .box [.i .i64 v1.2.1], .box [.sl v1.2.2.length (v1.2.2.flatMap eU8)]]) [] rfl fn45 (.func _) (opnds_cons rfl opnds_nil) (m45_enc_News_c hv1) rfl rfl (by decide) rfl rfl rfl ?_
  refine sv rfl (opv_as rfl) ?_
  refine snil ?_
  refine cseq ?_
  refine cregion ?_
  refine sv rfl (opv_mv rfl) ?_
  obtain ⟨v2, hv2, h⟩ := bind_eq h
  refine scallB (x' := .s (.one (.i .u64 (v2.1.toNat : Int)))) (M' := [.box [.i .i64 0, .i .i64 0, .i .i64 0, .i .i64 0, .b false, .raw (.slice none 0 0), .raw (.slice none 0 0)], .box [.fn 70 [] [.lp 2 0, .lp 3 0], .i .i64 v2.2.1], .box [.i .i64 v2.2.2], .box [.sl v1.2.2.length (v1.2.2.flatMap eU8)]]) [1, 2, 3] rfl fn46 (.func _) (opnds_cons rfl (opnds_cons rfl opnds_nil)) (m46_enc_Reader_Us_c hv2) rfl rfl (by decide) rfl rfl rfl ?_
  refine sv rfl (opv_conv_int Tryd.underlying69 Tryd.underlying3 rfl) ?_
  refine sv rfl (opv_mv rfl) ?_
  obtain ⟨v3, hv3, h⟩ := bind_eq h
  refine scallB (x' := .s (.one (.i .u64 (v3.1.toNat : Int)))) (M' := [.box [.i .i64 0, .i .i64 0, .i .i64 0, .i .i64 0, .b false, .raw (.slice none 0 0), .raw (.slice none 0 0)], .box [.fn 70 [] [.lp 2 0, .lp 3 0], .i .i64 v3.2.1], .box [.i .i64 v3.2.2], .box [.sl v1.2.2.length (v1.2.2.flatMap eU8)]]) [1, 2, 3] rfl fn46 (.func _) (opnds_cons rfl (opnds_cons rfl opnds_nil)) (m46_enc_Reader_Us_c hv3) rfl rfl (by decide) rfl rfl rfl ?_
  refine sv rfl (opv_conv_int Tryd.underlying69 Tryd.underlying3 rfl) ?_
  refine sv rfl (opv_build zi49 pi49 (parts_cons rfl (parts_cons rfl parts_nil)) (.cons _ _ _ _ _ _ _ rfl rfl (Nat.le_of_ble_eq_true rfl) (.cons _ _ _ _ _ _ _ rfl rfl (Nat.le_of_ble_eq_true rfl) (.nil _)))) ?_
  refine salloc rfl zi49 ?_
  refine sstore sz49 rfl rfl rfl rfl (Nat.le_of_ble_eq_true rfl) ?_
  refine smem [.box [.i .i64 0, .i .i64 0, .i .i64 0, .i .i64 0, .b false, .raw (.slice none 0 0), .raw (.slice none 0 0)], .box [.fn 70 [] [.lp 2 0, .lp 3 0], .i .i64 v3.2.1], .box [.i .i64 v3.2.2], .box [.sl v1.2.2.length (v1.2.2.flatMap eU8)], .box [.i .i64 (wI (v2.1.toNat : Int)), .i .i64 (wI (v3.1.toNat : Int)), .i .i64 0, .i .i64 0, .b false, .raw (.slice none 0 0), .raw (.slice none 0 0)]] rfl ?_
  refine snil ?_
  refine cseq ?_
  refine cseq ?_
  refine cjoin3 (Int) (fun b4 => [(2, .s (.one (.lp 0 0))), (4, .s (.one (.lp 1 0))), (5, .s (.one (.lp 4 0)))]) (fun b4 => [.box [.i .i64 0, .i .i64 0, .i .i64 0, .i .i64 0, .b false, .raw (.slice none 0 0), .raw (.slice none 0 0)], .box [.fn 70 [] [.lp 2 0, .lp 3 0], .i .i64 b4], .box [.i .i64 v3.2.2], .box [.sl v1.2.2.length (v1.2.2.flatMap eU8)], .box [.i .i64 (wI (v2.1.toNat : Int)), .i .i64 (wI (v3.1.toNat : Int)), .i .i64 0, .i .i64 0, .b false, .raw (.slice none 0 0), .raw (.slice none 0 0)]]) (fun b4 => m25_msg_ReadReply_k4 v1 v2 v3 b4 = some r) (fun _ _ => inbL_of rfl) (fun _ _ => blkinb_of rfl) (fun _ _ => Nat.le_of_ble_eq_true rfl) (fun b4 h => ?_) ?_
  · unfold m25_msg_ReadReply_k4 at h
    refine cseq ?_
    refine cregion ?_
    refine sv rfl (opv_mv rfl) ?_
    obtain ⟨v5, hv5, h⟩ := bind_eq h
    refine scallB (x' := .s (.one (.i .u64 (v5.1.toNat : Int)))) (M' := [.box [.i .i64 0, .i .i64 0, .i .i64 0, .i .i64 0, .b false, .raw (.slice none 0 0), .raw (.slice none 0 0)], .box [.fn 70 [] [.lp 2 0, .lp 3 0], .i .i64 v5.2.1], .box [.i .i64 v5.2.2], .box [.sl v1.2.2.length (v1.2.2.flatMap eU8)], .box [.i .i64 (wI (v2.1.toNat : Int)), .i .i64 (wI (v3.1.toNat : Int)), .i .i64 0, .i .i64 0, .b false, .raw (.slice none 0 0), .raw (.slice none 0 0)]]) [1, 2, 3] rfl fn46 (.func _) (opnds_cons rfl (opnds_cons rfl opnds_nil)) (m46_enc_Reader_Us_c hv5) rfl rfl (by decide) rfl rfl rfl ?_
    refine sv rfl (opv_conv_int Tryd.underlying69 Tryd.underlying29 rfl) ?_
    refine sv rfl (opv_fieldAddr_lp fi49_2 rfl) ?_
    refine sstore sz29 rfl rfl rfl rfl (Nat.le_of_ble_eq_true rfl) ?_
    refine smem [.box [.i .i64 0, .i .i64 0, .i .i64 0, .i .i64 0, .b false, .raw (.slice none 0 0), .raw (.slice none 0 0)], .box [.fn 70 [] [.lp 2 0, .lp 3 0], .i .i64 v5.2.1], .box [.i .i64 v5.2.2], .box [.sl v1.2.2.length (v1.2.2.flatMap eU8)], .box [.i .i64 (wI (v2.1.toNat : Int)), .i .i64 (wI (v3.1.toNat : Int)), .i .i64 (wI (v5.1.toNat : Int)), .i .i64 0, .b false, .raw (.slice none 0 0), .raw (.slice none 0 0)]] rfl ?_
    refine snil ?_
    refine cseq ?_
    refine cregion ?_
    refine sv rfl (opv_mv rfl) ?_
    obtain ⟨v6, hv6, h⟩ := bind_eq h
    refine scallB (x' := .s (.one (.i .u64 (v6.1.toNat : Int)))) (M' := [.box [.i .i64 0, .i .i64 0, .i .i64 0, .i .i64 0, .b false, .raw (.slice none 0 0), .raw (.slice none 0 0)], .box [.fn 70 [] [.lp 2 0, .lp 3 0], .i .i64 v6.2.1], .box [.i .i64 v6.2.2], .box [.sl v1.2.2.length (v1.2.2.flatMap eU8)], .box [.i .i64 (wI (v2.1.toNat : Int)), .i .i64 (wI (v3.1.toNat : Int)), .i .i64 (wI (v5.1.toNat : Int)), .i .i64 0, .b false, .raw (.slice none 0 0), .raw (.slice none 0 0)]]) [1, 2, 3] rfl fn46 (.func _) (opnds_cons rfl (opnds_cons rfl opnds_nil)) (m46_enc_Reader_Us_c hv6) rfl rfl (by decide) rfl rfl rfl ?_
    refine sv rfl (opv_conv_int Tryd.underlying69 Tryd.underlying3 rfl) ?_
    refine sv rfl (opv_fieldAddr_lp fi49_3 rfl) ?_
    refine sstore sz3 rfl rfl rfl rfl (Nat.le_of_ble_eq_true rfl) ?_
    refine smem [.box [.i .i64 0, .i .i64 0, .i .i64 0, .i .i64 0, .b false, .raw (.slice none 0 0), .raw (.slice none 0 0)], .box [.fn 70 [] [.lp 2 0, .lp 3 0], .i .i64 v6.2.1], .box [.i .i64 v6.2.2], .box [.sl v1.2.2.length (v1.2.2.flatMap eU8)], .box [.i .i64 (wI (v2.1.toNat : Int)), .i .i64 (wI (v3.1.toNat : Int)), .i .i64 (wI (v5.1.toNat : Int)), .i .i64 (wI (v6.1.toNat : Int)), .b false, .raw (.slice none 0 0), .raw (.slice none 0 0)]] rfl ?_
    refine snil ?_
    refine cseq ?_
    refine cregion ?_
    refine sv rfl (opv_mv rfl) ?_
    obtain ⟨v7, hv7, h⟩ := bind_eq h
    refine scallB (x' := .s (.one (.b v7.1))) (M' := [.box [.i .i64 0, .i .i64 0, .i .i64 0, .i .i64 0, .b false, .raw (.slice none 0 0), .raw (.slice none 0 0)], .box [.fn 70 [] [.lp 2 0, .lp 3 0], .i .i64 v7.2.1], .box [.i .i64 v7.2.2], .box [.sl v1.2.2.length (v1.2.2.flatMap eU8)], .box [.i .i64 (wI (v2.1.toNat : Int)), .i .i64 (wI (v3.1.toNat : Int)), .i .i64 (wI (v5.1.toNat : Int)), .i .i64 (wI (v6.1.toNat : Int)), .b false, .raw (.slice none 0 0), .raw (.slice none 0 0)]]) [1, 2, 3] rfl fn65 (.func _) (opnds_cons rfl opnds_nil) (m65_enc_Reader_Flags_c hv7) rfl rfl (by decide) rfl rfl rfl ?_
    refine sv rfl (opv_fieldAddr_lp fi49_4 rfl) ?_
    refine sstore sz4 rfl rfl rfl rfl (Nat.le_of_ble_eq_true rfl) ?_
    refine smem [.box [.i .i64 0, .i .i64 0, .i .i64 0, .i .i64 0, .b false, .raw (.slice none 0 0), .raw (.slice none 0 0)], .box [.fn 70 [] [.lp 2 0, .lp 3 0], .i .i64 v7.2.1], .box [.i .i64 v7.2.2], .box [.sl v1.2.2.length (v1.2.2.flatMap eU8)], .box [.i .i64 (wI (v2.1.toNat : Int)), .i .i64 (wI (v3.1.toNat : Int)), .i .i64 (wI (v5.1.toNat : Int)), .i .i64 (wI (v6.1.toNat : Int)), .b v7.1, .raw (.slice none 0 0), .raw (.slice none 0 0)]] rfl ?_
    refine snil ?_
    refine cseq ?_
    refine cregion ?_
    refine sv rfl (opv_mv rfl) ?_
    obtain ⟨v8, hv8, h⟩ := bind_eq h
    refine scallB (x' := .s (.one (.sl v8.1.length (v8.1.flatMap eU8)))) (M' := [.box [.i .i64 0, .i .i64 0, .i .i64 0, .i .i64 0, .b false, .raw (.slice none 0 0), .raw (.slice none 0 0)], .box [.fn 70 [] [.lp 2 0, .lp 3 0], .i .i64 v8.2.1], .box [.i .i64 v8.2.2], .box [.sl v1.2.2.length (v1.2.2.flatMap eU8)], .box [.i .i64 (wI (v2.1.toNat : Int)), .i .i64 (wI (v3.1.toNat : Int)), .i .i64 (wI (v5.1.toNat : Int)), .i .i64 (wI (v6.1.toNat : Int)), .b v7.1, .raw (.slice none 0 0), .raw (.slice none 0 0)]]) [1, 2, 3] rfl fn66 (.func _) (opnds_cons rfl (opnds_cons rfl opnds_nil)) (m66_enc_Reader_Lists_c hv8) rfl rfl (by decide) rfl rfl rfl ?_
    refine sv rfl (opv_fieldAddr_lp fi49_5 rfl) ?_
    refine sstore sz22 rfl rfl rfl rfl (Nat.le_of_ble_eq_true rfl) ?_
    refine smem [.box [.i .i64 0, .i .i64 0, .i .i64 0, .i .i64 0, .b false, .raw (.slice none 0 0), .raw (.slice none 0 0)], .box [.fn 70 [] [.lp 2 0, .lp 3 0], .i .i64 v8.2.1], .box [.i .i64 v8.2.2], .box [.sl v1.2.2.length (v1.2.2.flatMap eU8)], .box [.i .i64 (wI (v2.1.toNat : Int)), .i .i64 (wI (v3.1.toNat : Int)), .i .i64 (wI (v5.1.toNat : Int)), .i .i64 (wI (v6.1.toNat : Int)), .b v7.1, .sl v8.1.length (v8.1.flatMap eU8), .raw (.slice none 0 0)]] rfl ?_
    refine snil ?_
    refine cseq ?_
    refine cregion ?_
    refine sv rfl (opv_mv rfl) ?_
    obtain ⟨v9, hv9, h⟩ := bind_eq h
    refine scallB (x' := .s (.one (.sl v9.1.length (v9.1.flatMap eGApiKV)))) (M' := [.box [.i .i64 0, .i .i64 0, .i .i64 0, .i .i64 0, .b false, .raw (.slice none 0 0), .raw (.slice none 0 0)], .box [.fn 70 [] [.lp 2 0, .lp 3 0], .i .i64 v9.2.1], .box [.i .i64 v9.2.2], .box [.sl v1.2.2.length (v1.2.2.flatMap eU8)], .box [.i .i64 (wI (v2.1.toNat : Int)), .i .i64 (wI (v3.1.toNat : Int)), .i .i64 (wI (v5.1.toNat : Int)), .i .i64 (wI (v6.1.toNat : Int)), .b v7.1, .sl v8.1.length (v8.1.flatMap eU8), .raw (.slice none 0 0)]]) [1, 2, 3] rfl fn67 (.func _) (opnds_cons rfl opnds_nil) (m67_msg_readLists_c hv9) rfl rfl (by decide) rfl rfl rfl ?_
    refine sv rfl (opv_fieldAddr_lp fi49_6 rfl) ?_
    refine sstore sz44 rfl rfl rfl rfl (Nat.le_of_ble_eq_true rfl) ?_
    refine smem [.box [.i .i64 0, .i .i64 0, .i .i64 0, .i .i64 0, .b false, .raw (.slice none 0 0), .raw (.slice none 0 0)], .box [.fn 70 [] [.lp 2 0, .lp 3 0], .i .i64 v9.2.1], .box [.i .i64 v9.2.2], .box [.sl v1.2.2.length (v1.2.2.flatMap eU8)], .box [.i .i64 (wI (v2.1.toNat : Int)), .i .i64 (wI (v3.1.toNat : Int)), .i .i64 (wI (v5.1.toNat : Int)), .i .i64 (wI (v6.1.toNat : Int)), .b v7.1, .sl v8.1.length (v8.1.flatMap eU8), .sl v9.1.length (v9.1.flatMap eGApiKV)]] rfl ?_
    refine snil ?_
    refine cseq ?_
    refine cseq ?_
    refine cregion ?_
    refine sv rfl (opv_mv rfl) ?_
    obtain ⟨v10, hv10, h⟩ := bind_eq h
    refine scallB (x' := .s (.one (.i .i64 v10.1))) (M' := [.box [.i .i64 0, .i .i64 0, .i .i64 0, .i .i64 0, .b false, .raw (.slice none 0 0), .raw (.slice none 0 0)], .box [.fn 70 [] [.lp 2 0, .lp 3 0], .i .i64 v9.2.1], .box [.i .i64 v10.2], .box [.sl v1.2.2.length (v1.2.2.flatMap eU8)], .box [.i .i64 (wI (v2.1.toNat : Int)), .i .i64 (wI (v3.1.toNat : Int)), .i .i64 (wI (v5.1.toNat : Int)), .i .i64 (wI (v6.1.toNat : Int)), .b v7.1, .sl v8.1.length (v8.1.flatMap eU8), .sl v9.1.length (v9.1.flatMap eGApiKV)]]) [1, 2, 3] rfl fn50 (.func _) (opnds_cons rfl opnds_nil) (m50_enc_Reader_Ends_c hv10) rfl rfl (by decide) rfl rfl rfl ?_
    refine sv rfl (opv_as rfl) ?_
    refine snil ?_
    refine cseq ?_
    refine cregion ?_
    refine sv rfl (opv_mv rfl) ?_
    refine sv rfl (opv_ineq rfl rfl) ?_
    refine snil ?_
    refine ccond rfl (fun hc => ?_) (fun hc => ?_)
    · replace h := ite_t hc h
      clear hc
      refine cseq ?_
      refine cregion ?_
      refine sv rfl (opv_build zi49 pi49 parts_nil (.nil _)) ?_
      refine sv rfl (opv_mv rfl) ?_
      refine sstore sz49 rfl rfl rfl rfl (Nat.le_of_ble_eq_true rfl) ?_
      refine smem [.box [.i .i64 0, .i .i64 0, .i .i64 0, .i .i64 0, .b false, .raw (.slice none 0 0), .raw (.slice none 0 0)], .box [.fn 70 [] [.lp 2 0, .lp 3 0], .i .i64 v9.2.1], .box [.i .i64 v10.2], .box [.sl v1.2.2.length (v1.2.2.flatMap eU8)], .box [.i .i64 (wI (v2.1.toNat : Int)), .i .i64 (wI (v3.1.toNat : Int)), .i .i64 (wI (v5.1.toNat : Int)), .i .i64 (wI (v6.1.toNat : Int)), .b v7.1, .sl v8.1.length (v8.1.flatMap eU8), .sl v9.1.length (v9.1.flatMap eGApiKV)]] rfl ?_
      refine sv rfl (opv_as rfl) ?_
      refine snil ?_
      refine cret ?_
      refine then_ret ?_
      obtain rfl := Option.some.inj h
      refine ⟨Or.inr rfl, _, _, _, (resVs_cons (ResV.agg _ _ _ _ _ ti49 rfl (.lp _ _ _ rfl) (Nat.le_of_ble_eq_true rfl)) (resVs_cons (ResV.tmp _ _ rfl) resVs_nil)), (pubC rfl), ?_⟩
      rfl
    · replace h := ite_f hc h
      clear hc
      refine cskip ?_
      refine then_normal ?_
      refine cseq ?_
      refine cseq ?_
      refine cregion ?_
      refine sv rfl (opv_loadN ti49 rfl (.lp _ _ _ rfl) (Nat.le_of_ble_eq_true rfl)) ?_
      obtain ⟨v11, hv11, h⟩ := bind_eq h
      refine scall1 rfl fn29 (opnds_cons rfl opnds_nil) (pubA_id rfl) (m29_msg_SaneReply_c hv11) ?_
      refine sv rfl (opv_not rfl) ?_
      refine snil ?_
      refine ccond rfl (fun hc => ?_) (fun hc => ?_)
      · replace h := ite_t hc h
        clear hc
        refine cseq ?_
        refine cregion ?_
        refine sv rfl (opv_build zi49 pi49 parts_nil (.nil _)) ?_
        refine sstore sz49 rfl rfl rfl rfl (Nat.le_of_ble_eq_true rfl) ?_
        refine smem [.box [.i .i64 0, .i .i64 0, .i .i64 0, .i .i64 0, .b false, .raw (.slice none 0 0), .raw (.slice none 0 0)], .box [.fn 70 [] [.lp 2 0, .lp 3 0], .i .i64 v9.2.1], .box [.i .i64 v10.2], .box [.sl v1.2.2.length (v1.2.2.flatMap eU8)], .box [.i .i64 (wI (v2.1.toNat : Int)), .i .i64 (wI (v3.1.toNat : Int)), .i .i64 (wI (v5.1.toNat : Int)), .i .i64 (wI (v6.1.toNat : Int)), .b v7.1, .sl v8.1.length (v8.1.flatMap eU8), .sl v9.1.length (v9.1.flatMap eGApiKV)]] rfl ?_
        refine sv rfl (opv_as rfl) ?_
        refine snil ?_
        refine cret ?_
        refine then_ret ?_
        obtain rfl := Option.some.inj h
        refine ⟨Or.inr rfl, _, _, _, (resVs_cons (ResV.agg _ _ _ _ _ ti49 rfl (.lp _ _ _ rfl) (Nat.le_of_ble_eq_true rfl)) (resVs_cons (ResV.tmp _ _ rfl) resVs_nil)), (pubC rfl), ?_⟩
        rfl
      · replace h := ite_f hc h
        clear hc
        refine cskip ?_
        refine then_normal ?_
        refine cseq ?_
        refine cregion ?_
        refine sv rfl (opv_loadN ti49 rfl (.lp _ _ _ rfl) (Nat.le_of_ble_eq_true rfl)) ?_
        refine sstore sz49 rfl rfl rfl rfl (Nat.le_of_ble_eq_true rfl) ?_
        refine smem [.box [.i .i64 (wI (v2.1.toNat : Int)), .i .i64 (wI (v3.1.toNat : Int)), .i .i64 (wI (v5.1.toNat : Int)), .i .i64 (wI (v6.1.toNat : Int)), .b v7.1, .sl v8.1.length (v8.1.flatMap eU8), .sl v9.1.length (v9.1.flatMap eGApiKV)], .box [.fn 70 [] [.lp 2 0, .lp 3 0], .i .i64 v9.2.1], .box [.i .i64 v10.2], .box [.sl v1.2.2.length (v1.2.2.flatMap eU8)], .box [.i .i64 (wI (v2.1.toNat : Int)), .i .i64 (wI (v3.1.toNat : Int)), .i .i64 (wI (v5.1.toNat : Int)), .i .i64 (wI (v6.1.toNat : Int)), .b v7.1, .sl v8.1.length (v8.1.flatMap eU8), .sl v9.1.length (v9.1.flatMap eGApiKV)]] rfl ?_
        refine sv rfl (opv_as rfl) ?_
        refine snil ?_
        refine cret ?_
        obtain rfl := Option.some.inj h
        refine ⟨Or.inr rfl, _, _, _, (resVs_cons (ResV.agg _ _ _ _ _ ti49 rfl (.lp _ _ _ rfl) (Nat.le_of_ble_eq_true rfl)) (resVs_cons (ResV.tmp _ _ rfl) resVs_nil)), (pubA_id rfl), ?_⟩
        rfl
  · skip
    refine cregion ?_
    refine sv rfl (opv_fieldAddr_lp fi49_0 rfl) ?_
    refine sv rfl (opv_load1 ti3 rfl (.lp _ _ _ rfl) rfl) ?_
    refine sv rfl (opv_ineq rfl rfl) ?_
    refine sv rfl (opv_mv rfl) ?_
    refine ssplit 19 rfl (fun hc => ?_) (fun hc => ?_)
    · replace h := ite_t hc h
      clear hc
      refine son rfl rfl rfl ?_
      refine sv rfl (opv_fieldAddr_lp fi49_0 rfl) ?_
      refine son rfl rfl rfl ?_
      refine sv rfl (opv_load1 ti3 rfl (.lp _ _ _ rfl) rfl) ?_
      refine son rfl rfl rfl ?_
      obtain ⟨v12, hv12, h⟩ := bind_eq h
      refine scall1 rfl fn47 (opnds_cons rfl opnds_nil) (pubA_id rfl) (m47_msg_isKind_c hv12) ?_
      refine son rfl rfl rfl ?_
      refine sv rfl (opv_not rfl) ?_
      refine sv rfl (opv_pick_t rfl rfl) ?_
      refine snil ?_
      refine ccond rfl (fun hc => ?_) (fun hc => ?_)
      · replace h := ite_t hc h
        clear hc
        refine cregion ?_
        refine sv rfl (opv_mv rfl) ?_
        obtain ⟨v13, hv13, h⟩ := bind_eq h
        refine scallB (x' := .tup []) (M' := [.box [.i .i64 0, .i .i64 0, .i .i64 0, .i .i64 0, .b false, .raw (.slice none 0 0), .raw (.slice none 0 0)], .box [.fn 70 [] [.lp 2 0, .lp 3 0], .i .i64 v13], .box [.i .i64 v3.2.2], .box [.sl v1.2.2.length (v1.2.2.flatMap eU8)], .box [.i .i64 (wI (v2.1.toNat : Int)), .i .i64 (wI (v3.1.toNat : Int)), .i .i64 0, .i .i64 0, .b false, .raw (.slice none 0 0), .raw (.slice none 0 0)]]) [1, 2, 3] rfl fn48 (.func _) (opnds_cons rfl (opnds_cons rfl opnds_nil)) (m48_enc_Reader_Fails_c hv13) rfl rfl (by decide) rfl rfl rfl ?_
        refine snil ?_
        exact ⟨v13, _, h, ⟨rfl, rfl, rfl, trivial⟩, rfl⟩
      · replace h := ite_f hc h
        clear hc
        refine cskip ?_
        refine then_normal ?_
        exact ⟨v3.2.1, _, h, ⟨rfl, rfl, rfl, trivial⟩, rfl⟩
    · replace h := ite_f hc h
      clear hc
      refine soff rfl rfl rfl rfl ?_
      refine soff rfl rfl rfl rfl ?_
      refine soff rfl rfl rfl rfl ?_
      refine soff rfl rfl rfl rfl ?_
      refine sv rfl (opv_pick_f rfl rfl) ?_
      refine snil ?_
      refine ccond rfl (fun hx => Bool.noConfusion hx) (fun _ => ?_)
      refine cskip ?_
      refine then_normal ?_
      exact ⟨v3.2.1, _, h, ⟨rfl, rfl, rfl, trivial⟩, rfl⟩

end Go.Proofs.YtljkjkkpogkgbaaDoor.Abs
