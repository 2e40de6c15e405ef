/-
  t
-/
import Derived.Test.YtlpanhfojeaamaaDoorAbsC
import Derived.Test.YtlpanhfojeaamaaDoorProg
namespace Go.Proofs.YtlpanhfojeaamaaDoor.Abs
open Go.RowKit Go.Proofs
structure GApiRange where
  Lo : List UInt8
  Hi : List UInt8
  Open : Bool
def eGApiRange (x : GApiRange) : List Lf := [.sl x.Lo.length (x.Lo.flatMap eU8), .sl x.Hi.length (x.Hi.flatMap eU8), .b x.Open]

structure GR05Req where
  Kind : Int
  Seq : Int
  Token : Int
  Attempt : Int
  RO : Bool
  Key : List UInt8
  Val : List UInt8
  Rng : GApiRange
def eGR05Req (x : GR05Req) : List Lf := [.i .i64 x.Kind, .i .i64 x.Seq, .i .i64 x.Token, .i .i64 x.Attempt, .b x.RO, .sl x.Key.length (x.Key.flatMap eU8), .sl x.Val.length (x.Val.flatMap eU8), .sl x.Rng.Lo.length (x.Rng.Lo.flatMap eU8), .sl x.Rng.Hi.length (x.Rng.Hi.flatMap eU8), .b x.Rng.Open]

structure GApiKV where
  Key : List UInt8
  Val : List UInt8
def eGApiKV (x : GApiKV) : List Lf := [.sl x.Key.length (x.Key.flatMap eU8), .sl x.Val.length (x.Val.flatMap eU8)]

structure GR05Reply where
  Kind : Int
  Seq : Int
  Code : Int
  N : Int
  Found : Bool
  Val : List UInt8
  List : List GApiKV
def eGR05Reply (x : GR05Reply) : List Lf := [.i .i64 x.Kind, .i .i64 x.Seq, .i .i64 x.Code, .i .i64 x.N, .b x.Found, .sl x.Val.length (x.Val.flatMap eU8), .sl x.List.length (x.List.flatMap eGApiKV)]

structure GL16Act where
  What : Int
  Req : GR05Req
  Reply : GR05Reply
def eGL16Act (x : GL16Act) : List Lf := [.i .i64 x.What, .i .i64 x.Req.Kind, .i .i64 x.Req.Seq, .i .i64 x.Req.Token, .i .i64 x.Req.Attempt, .b x.Req.RO, .sl x.Req.Key.length (x.Req.Key.flatMap eU8), .sl x.Req.Val.length (x.Req.Val.flatMap eU8), .sl x.Req.Rng.Lo.length (x.Req.Rng.Lo.flatMap eU8), .sl x.Req.Rng.Hi.length (x.Req.Rng.Hi.flatMap eU8), .b x.Req.Rng.Open, .i .i64 x.Reply.Kind, .i .i64 x.Reply.Seq, .i .i64 x.Reply.Code, .i .i64 x.Reply.N, .b x.Reply.Found, .sl x.Reply.Val.length (x.Reply.Val.flatMap eU8), .sl x.Reply.List.length (x.Reply.List.flatMap eGApiKV)]

structure GSeqsWindow where
  Base : Int
  Bits : BitVec 64
def eGSeqsWindow (x : GSeqsWindow) : List Lf := [.i .i64 x.Base, .i .u64 (x.Bits.toNat : Int)]

structure GMsgReq where
  Kind : Int
  Seq : Int
  Token : Int
  Attempt : Int
  RO : Bool
  Key : List UInt8
  Val : List UInt8
  Rng : GApiRange
def eGMsgReq (x : GMsgReq) : List Lf := [.i .i64 x.Kind, .i .i64 x.Seq, .i .i64 x.Token, .i .i64 x.Attempt, .b x.RO, .sl x.Key.length (x.Key.flatMap eU8), .sl x.Val.length (x.Val.flatMap eU8), .sl x.Rng.Lo.length (x.Rng.Lo.flatMap eU8), .sl x.Rng.Hi.length (x.Rng.Hi.flatMap eU8), .b x.Rng.Open]

structure GMsgReply where
  Kind : Int
  Seq : Int
  Code : Int
  N : Int
  Found : Bool
  Val : List UInt8
  List : List GApiKV
def eGMsgReply (x : GMsgReply) : List Lf := [.i .i64 x.Kind, .i .i64 x.Seq, .i .i64 x.Code, .i .i64 x.N, .b x.Found, .sl x.Val.length (x.Val.flatMap eU8), .sl x.List.length (x.List.flatMap eGApiKV)]

structure GPipePipe where
  Win : GSeqsWindow
  Next : Int
  Wait : List GMsgReq
  Past : List GMsgReply
def eGPipePipe (x : GPipePipe) : List Lf := [.i .i64 x.Win.Base, .i .u64 (x.Win.Bits.toNat : Int), .i .i64 x.Next, .sl x.Wait.length (x.Wait.flatMap eGMsgReq), .sl x.Past.length (x.Past.flatMap eGMsgReply)]

structure GMsgParts where
  token_ : Bool
  attempt_ : Bool
  ro_ : Bool
  key_ : Bool
  val_ : Bool
  rng_ : Bool
def eGMsgParts (x : GMsgParts) : List Lf := [.b x.token_, .b x.attempt_, .b x.ro_, .b x.key_, .b x.val_, .b x.rng_]

def tab0 : List GMsgParts := [⟨false, false, false, false, false, false⟩, ⟨true, true, false, false, false, false⟩, ⟨true, true, true, false, false, false⟩, ⟨false, false, false, true, false, false⟩, ⟨false, false, false, true, true, false⟩, ⟨false, false, false, true, false, false⟩, ⟨false, false, false, false, false, true⟩, ⟨false, false, false, false, false, false⟩, ⟨false, false, false, false, false, false⟩, ⟨true, true, false, false, false, false⟩, ⟨true, false, false, false, false, false⟩, ⟨false, false, false, false, false, false⟩]

theorem zi46 : ZI Tryd.prog 46 ([.i .i64 0, .i .u64 0, .i .i64 0, .raw (.slice none 0 0), .raw (.slice none 0 0)]) := zi_of (by kernel_rfl)
theorem pi46 : PI Tryd.prog 46 [(0, 2), (2, 1), (3, 1), (4, 1)] := pi_of Tryd.underlying46 (by kernel_rfl) (by kernel_rfl)
theorem zi51 : ZI Tryd.prog 51 ([.i .i64 0, .i .i64 0, .i .i64 0, .i .i64 0, .b false, .raw (.slice none 0 0), .raw (.slice none 0 0), .raw (.slice none 0 0), .raw (.slice none 0 0), .b false]) := zi_of (by kernel_rfl)
theorem pi51 : PI Tryd.prog 51 [(0, 1), (1, 1), (2, 1), (3, 1), (4, 1), (5, 1), (6, 1), (7, 3)] := pi_of Tryd.underlying51 (by kernel_rfl) (by kernel_rfl)
theorem zi48 : ZI Tryd.prog 48 ([.i .i64 0, .i .i64 0, .i .i64 0, .i .i64 0, .b false, .raw (.slice none 0 0), .raw (.slice none 0 0)]) := zi_of (by kernel_rfl)
theorem ti46 : TI Tryd.prog 46 true 5 := ⟨⟨_, Tryd.underlying46, rfl⟩, by kernel_rfl⟩
theorem fi46_1 : FI Tryd.prog 46 1 2 := ⟨⟨_, _, 1, Tryd.underlying46, rfl, rfl, by kernel_rfl, by decide⟩⟩
theorem ti3 : TI Tryd.prog 3 false 1 := ⟨⟨_, Tryd.underlying3, rfl⟩, by kernel_rfl⟩
theorem fi46_2 : FI Tryd.prog 46 2 3 := ⟨⟨_, _, 1, Tryd.underlying46, rfl, rfl, by kernel_rfl, by decide⟩⟩
theorem ti43 : TI Tryd.prog 43 false 1 := ⟨⟨_, Tryd.underlying43, rfl⟩, by kernel_rfl⟩
theorem si43 : SI Tryd.prog 43 51 10 := ⟨Tryd.underlying43, by kernel_rfl, by decide⟩
theorem ti51 : TI Tryd.prog 51 true 10 := ⟨⟨_, Tryd.underlying51, rfl⟩, by kernel_rfl⟩
theorem sz51 : (Tryd.prog.info? 51).map (·.size) = some 10 := by kernel_rfl
theorem fi51_0 : FI Tryd.prog 51 0 0 := ⟨⟨_, _, 1, Tryd.underlying51, rfl, rfl, by kernel_rfl, by decide⟩⟩
theorem zi102 : ZI Tryd.prog 102 ([.b false, .b false, .b false, .b false, .b false, .b false]) := zi_of (by kernel_rfl)
theorem fn57 : FnI Tryd.prog 57 := ⟨⟨_, Tryd.func57, by kernel_rfl, by kernel_rfl⟩⟩
theorem pi102 : PI Tryd.prog 102 [(0, 1), (1, 1), (2, 1), (3, 1), (4, 1), (5, 1)] := pi_of Tryd.underlying102 (by kernel_rfl) (by kernel_rfl)
theorem sz102 : (Tryd.prog.info? 102).map (·.size) = some 6 := by kernel_rfl
theorem ti102 : TI Tryd.prog 102 true 6 := ⟨⟨_, Tryd.underlying102, rfl⟩, by kernel_rfl⟩
theorem tab0_in : (0, tab0.flatMap eGMsgParts) ∈ GL := List.mem_cons.2 (.inl rfl)

theorem ai113 : AI Tryd.prog 113 12 102 6 := ⟨Tryd.underlying113, by kernel_rfl, by decide, by decide⟩
theorem fn56 : FnI Tryd.prog 56 := ⟨⟨_, Tryd.func56, by kernel_rfl, by kernel_rfl⟩⟩
theorem fi51_1 : FI Tryd.prog 51 1 1 := ⟨⟨_, _, 1, Tryd.underlying51, rfl, rfl, by kernel_rfl, by decide⟩⟩
theorem fn58 : FnI Tryd.prog 58 := ⟨⟨_, Tryd.func58, by kernel_rfl, by kernel_rfl⟩⟩
theorem fi102_0 : FI Tryd.prog 102 0 0 := ⟨⟨_, _, 1, Tryd.underlying102, rfl, rfl, by kernel_rfl, by decide⟩⟩
theorem ti4 : TI Tryd.prog 4 false 1 := ⟨⟨_, Tryd.underlying4, rfl⟩, by kernel_rfl⟩
theorem fi51_2 : FI Tryd.prog 51 2 2 := ⟨⟨_, _, 1, Tryd.underlying51, rfl, rfl, by kernel_rfl, by decide⟩⟩
theorem fn59 : FnI Tryd.prog 59 := ⟨⟨_, Tryd.func59, by kernel_rfl, by kernel_rfl⟩⟩
theorem fi102_1 : FI Tryd.prog 102 1 1 := ⟨⟨_, _, 1, Tryd.underlying102, rfl, rfl, by kernel_rfl, by decide⟩⟩
theorem fi51_3 : FI Tryd.prog 51 3 3 := ⟨⟨_, _, 1, Tryd.underlying51, rfl, rfl, by kernel_rfl, by decide⟩⟩
theorem fi102_2 : FI Tryd.prog 102 2 2 := ⟨⟨_, _, 1, Tryd.underlying102, rfl, rfl, by kernel_rfl, by decide⟩⟩
theorem fi102_3 : FI Tryd.prog 102 3 3 := ⟨⟨_, _, 1, Tryd.underlying102, rfl, rfl, by kernel_rfl, by decide⟩⟩
theorem fi51_5 : FI Tryd.prog 51 5 5 := ⟨⟨_, _, 1, Tryd.underlying51, rfl, rfl, by kernel_rfl, by decide⟩⟩
theorem ti29 : TI Tryd.prog 29 false 1 := ⟨⟨_, Tryd.underlying29, rfl⟩, by kernel_rfl⟩
theorem si29 : SI Tryd.prog 29 5 1 := ⟨Tryd.underlying29, by kernel_rfl, by decide⟩
theorem fn60 : FnI Tryd.prog 60 := ⟨⟨_, Tryd.func60, by kernel_rfl, by kernel_rfl⟩⟩
theorem fi102_4 : FI Tryd.prog 102 4 4 := ⟨⟨_, _, 1, Tryd.underlying102, rfl, rfl, by kernel_rfl, by decide⟩⟩
theorem fi51_6 : FI Tryd.prog 51 6 6 := ⟨⟨_, _, 1, Tryd.underlying51, rfl, rfl, by kernel_rfl, by decide⟩⟩
theorem fi102_5 : FI Tryd.prog 102 5 5 := ⟨⟨_, _, 1, Tryd.underlying102, rfl, rfl, by kernel_rfl, by decide⟩⟩
theorem fi51_7 : FI Tryd.prog 51 7 7 := ⟨⟨_, _, 3, Tryd.underlying51, rfl, rfl, by kernel_rfl, by decide⟩⟩
theorem ti31 : TI Tryd.prog 31 true 3 := ⟨⟨_, Tryd.underlying31, rfl⟩, by kernel_rfl⟩
theorem fi31_0 : FI Tryd.prog 31 0 0 := ⟨⟨_, _, 1, Tryd.underlying31, rfl, rfl, by kernel_rfl, by decide⟩⟩
theorem fi31_1 : FI Tryd.prog 31 1 1 := ⟨⟨_, _, 1, Tryd.underlying31, rfl, rfl, by kernel_rfl, by decide⟩⟩
theorem fi31_2 : FI Tryd.prog 31 2 2 := ⟨⟨_, _, 1, Tryd.underlying31, rfl, rfl, by kernel_rfl, by decide⟩⟩
theorem fn61 : FnI Tryd.prog 61 := ⟨⟨_, Tryd.func61, by kernel_rfl, by kernel_rfl⟩⟩
theorem fi51_4 : FI Tryd.prog 51 4 4 := ⟨⟨_, _, 1, Tryd.underlying51, rfl, rfl, by kernel_rfl, by decide⟩⟩
theorem fn32 : FnI Tryd.prog 32 := ⟨⟨_, Tryd.func32, by kernel_rfl, by kernel_rfl⟩⟩
theorem fn43 : FnI Tryd.prog 43 := ⟨⟨_, Tryd.func43, by kernel_rfl, by kernel_rfl⟩⟩
theorem fi46_3 : FI Tryd.prog 46 3 4 := ⟨⟨_, _, 1, Tryd.underlying46, rfl, rfl, by kernel_rfl, by decide⟩⟩
theorem ti44 : TI Tryd.prog 44 false 1 := ⟨⟨_, Tryd.underlying44, rfl⟩, by kernel_rfl⟩
theorem si44 : SI Tryd.prog 44 48 7 := ⟨Tryd.underlying44, by kernel_rfl, by decide⟩
theorem ti48 : TI Tryd.prog 48 true 7 := ⟨⟨_, Tryd.underlying48, rfl⟩, by kernel_rfl⟩
theorem sz48 : (Tryd.prog.info? 48).map (·.size) = some 7 := by kernel_rfl
theorem fi48_6 : FI Tryd.prog 48 6 6 := ⟨⟨_, _, 1, Tryd.underlying48, rfl, rfl, by kernel_rfl, by decide⟩⟩
theorem ti35 : TI Tryd.prog 35 false 1 := ⟨⟨_, Tryd.underlying35, rfl⟩, by kernel_rfl⟩
theorem si35 : SI Tryd.prog 35 83 2 := ⟨Tryd.underlying35, by kernel_rfl, by decide⟩
theorem ti83 : TI Tryd.prog 83 true 2 := ⟨⟨_, Tryd.underlying83, rfl⟩, by kernel_rfl⟩
theorem zi83 : ZI Tryd.prog 83 ([.raw (.slice none 0 0), .raw (.slice none 0 0)]) := zi_of (by kernel_rfl)
theorem sz83 : (Tryd.prog.info? 83).map (·.size) = some 2 := by kernel_rfl
theorem fi83_0 : FI Tryd.prog 83 0 0 := ⟨⟨_, _, 1, Tryd.underlying83, rfl, rfl, by kernel_rfl, by decide⟩⟩
theorem fi83_1 : FI Tryd.prog 83 1 1 := ⟨⟨_, _, 1, Tryd.underlying83, rfl, rfl, by kernel_rfl, by decide⟩⟩
theorem fi48_0 : FI Tryd.prog 48 0 0 := ⟨⟨_, _, 1, Tryd.underlying48, rfl, rfl, by kernel_rfl, by decide⟩⟩
theorem fi48_1 : FI Tryd.prog 48 1 1 := ⟨⟨_, _, 1, Tryd.underlying48, rfl, rfl, by kernel_rfl, by decide⟩⟩
theorem fi48_2 : FI Tryd.prog 48 2 2 := ⟨⟨_, _, 1, Tryd.underlying48, rfl, rfl, by kernel_rfl, by decide⟩⟩
theorem ti34 : TI Tryd.prog 34 false 1 := ⟨⟨_, Tryd.underlying34, rfl⟩, by kernel_rfl⟩
theorem fi48_3 : FI Tryd.prog 48 3 3 := ⟨⟨_, _, 1, Tryd.underlying48, rfl, rfl, by kernel_rfl, by decide⟩⟩
theorem fi48_4 : FI Tryd.prog 48 4 4 := ⟨⟨_, _, 1, Tryd.underlying48, rfl, rfl, by kernel_rfl, by decide⟩⟩
theorem fi48_5 : FI Tryd.prog 48 5 5 := ⟨⟨_, _, 1, Tryd.underlying48, rfl, rfl, by kernel_rfl, by decide⟩⟩
theorem fn38 : FnI Tryd.prog 38 := ⟨⟨_, Tryd.func38, by kernel_rfl, by kernel_rfl⟩⟩
theorem fn44 : FnI Tryd.prog 44 := ⟨⟨_, Tryd.func44, by kernel_rfl, by kernel_rfl⟩⟩
theorem fi46_0 : FI Tryd.prog 46 0 0 := ⟨⟨_, _, 2, Tryd.underlying46, rfl, rfl, by kernel_rfl, by decide⟩⟩
theorem ti42 : TI Tryd.prog 42 true 2 := ⟨⟨_, Tryd.underlying42, rfl⟩, by kernel_rfl⟩
theorem fi42_0 : FI Tryd.prog 42 0 0 := ⟨⟨_, _, 1, Tryd.underlying42, rfl, rfl, by kernel_rfl, by decide⟩⟩
theorem fi42_1 : FI Tryd.prog 42 1 1 := ⟨⟨_, _, 1, Tryd.underlying42, rfl, rfl, by kernel_rfl, by decide⟩⟩
theorem ti22 : TI Tryd.prog 22 false 1 := ⟨⟨_, Tryd.underlying22, rfl⟩, by kernel_rfl⟩
theorem fn68 : FnI Tryd.prog 68 := ⟨⟨_, Tryd.func68, by kernel_rfl, by kernel_rfl⟩⟩
theorem fn62 : FnI Tryd.prog 62 := ⟨⟨_, Tryd.func62, by kernel_rfl, by kernel_rfl⟩⟩
theorem mixed : Tryd.prog.follows .mixedOrders = true := by kernel_rfl
theorem fn63 : FnI Tryd.prog 63 := ⟨⟨_, Tryd.func63, by kernel_rfl, by kernel_rfl⟩⟩
theorem fn64 : FnI Tryd.prog 64 := ⟨⟨_, Tryd.func64, by kernel_rfl, by kernel_rfl⟩⟩
theorem fn33 : FnI Tryd.prog 33 := ⟨⟨_, Tryd.func33, by kernel_rfl, by kernel_rfl⟩⟩
theorem fn45 : FnI Tryd.prog 45 := ⟨⟨_, Tryd.func45, by kernel_rfl, by kernel_rfl⟩⟩
theorem fn27 : FnI Tryd.prog 27 := ⟨⟨_, Tryd.func27, by kernel_rfl, by kernel_rfl⟩⟩
theorem pi48 : PI Tryd.prog 48 [(0, 1), (1, 1), (2, 1), (3, 1), (4, 1), (5, 1), (6, 1)] := pi_of Tryd.underlying48 (by kernel_rfl) (by kernel_rfl)
theorem sz46 : (Tryd.prog.info? 46).map (·.size) = some 5 := by kernel_rfl
theorem zi42 : ZI Tryd.prog 42 ([.i .i64 0, .i .u64 0]) := zi_of (by kernel_rfl)
theorem pi42 : PI Tryd.prog 42 [(0, 1), (1, 1)] := pi_of Tryd.underlying42 (by kernel_rfl) (by kernel_rfl)
theorem sz42 : (Tryd.prog.info? 42).map (·.size) = some 2 := by kernel_rfl
theorem sz3 : (Tryd.prog.info? 3).map (·.size) = some 1 := by kernel_rfl
theorem sz22 : (Tryd.prog.info? 22).map (·.size) = some 1 := by kernel_rfl
theorem fn65 : FnI Tryd.prog 65 := ⟨⟨_, Tryd.func65, by kernel_rfl, by kernel_rfl⟩⟩
theorem fn34 : FnI Tryd.prog 34 := ⟨⟨_, Tryd.func34, by kernel_rfl, by kernel_rfl⟩⟩
theorem ei51 : EI Tryd.prog 51 10 144 [.i .i64 0, .i .i64 0, .i .i64 0, .i .i64 0, .b false, .raw (.slice none 0 0), .raw (.slice none 0 0), .raw (.slice none 0 0), .raw (.slice none 0 0), .b false] := ei_of (by kernel_rfl) (by decide)
theorem ei43 : EI Tryd.prog 43 1 24 [.raw (.slice none 0 0)] := ei_of (by kernel_rfl) (by decide)
theorem si114 : SI Tryd.prog 114 43 1 := ⟨Tryd.underlying114, by kernel_rfl, by decide⟩
theorem fn69 : FnI Tryd.prog 69 := ⟨⟨_, Tryd.func69, by kernel_rfl, by kernel_rfl⟩⟩
theorem ni43 : NI Tryd.prog 43 := ⟨.inl ⟨_, Tryd.underlying43⟩⟩
theorem fn66 : FnI Tryd.prog 66 := ⟨⟨_, Tryd.func66, by kernel_rfl, by kernel_rfl⟩⟩
theorem fn35 : FnI Tryd.prog 35 := ⟨⟨_, Tryd.func35, by kernel_rfl, by kernel_rfl⟩⟩
theorem sz43 : (Tryd.prog.info? 43).map (·.size) = some 1 := by kernel_rfl
theorem fn13 : FnI Tryd.prog 13 := ⟨⟨_, Tryd.func13, by kernel_rfl, by kernel_rfl⟩⟩
theorem fn19 : FnI Tryd.prog 19 := ⟨⟨_, Tryd.func19, by kernel_rfl, by kernel_rfl⟩⟩
theorem fn39 : FnI Tryd.prog 39 := ⟨⟨_, Tryd.func39, by kernel_rfl, by kernel_rfl⟩⟩
theorem ei48 : EI Tryd.prog 48 7 88 [.i .i64 0, .i .i64 0, .i .i64 0, .i .i64 0, .b false, .raw (.slice none 0 0), .raw (.slice none 0 0)] := ei_of (by kernel_rfl) (by decide)
theorem fn40 : FnI Tryd.prog 40 := ⟨⟨_, Tryd.func40, by kernel_rfl, by kernel_rfl⟩⟩
theorem fn16 : FnI Tryd.prog 16 := ⟨⟨_, Tryd.func16, by kernel_rfl, by kernel_rfl⟩⟩
theorem fn8 : FnI Tryd.prog 8 := ⟨⟨_, Tryd.func8, by kernel_rfl, by kernel_rfl⟩⟩
theorem si72 : SI Tryd.prog 72 75 18 := ⟨Tryd.underlying72, by kernel_rfl, by decide⟩
theorem fi75_1 : FI Tryd.prog 75 1 1 := ⟨⟨_, _, 10, Tryd.underlying75, rfl, rfl, by kernel_rfl, by decide⟩⟩
theorem ti33 : TI Tryd.prog 33 true 10 := ⟨⟨_, Tryd.underlying33, rfl⟩, by kernel_rfl⟩
theorem fi33_5 : FI Tryd.prog 33 5 5 := ⟨⟨_, _, 1, Tryd.underlying33, rfl, rfl, by kernel_rfl, by decide⟩⟩
theorem fi33_6 : FI Tryd.prog 33 6 6 := ⟨⟨_, _, 1, Tryd.underlying33, rfl, rfl, by kernel_rfl, by decide⟩⟩
theorem fi33_7 : FI Tryd.prog 33 7 7 := ⟨⟨_, _, 3, Tryd.underlying33, rfl, rfl, by kernel_rfl, by decide⟩⟩
theorem fn10 : FnI Tryd.prog 10 := ⟨⟨_, Tryd.func10, by kernel_rfl, by kernel_rfl⟩⟩
theorem fi75_2 : FI Tryd.prog 75 2 11 := ⟨⟨_, _, 7, Tryd.underlying75, rfl, rfl, by kernel_rfl, by decide⟩⟩
theorem ti37 : TI Tryd.prog 37 true 7 := ⟨⟨_, Tryd.underlying37, rfl⟩, by kernel_rfl⟩
theorem fi37_5 : FI Tryd.prog 37 5 5 := ⟨⟨_, _, 1, Tryd.underlying37, rfl, rfl, by kernel_rfl, by decide⟩⟩
theorem fi37_6 : FI Tryd.prog 37 6 6 := ⟨⟨_, _, 1, Tryd.underlying37, rfl, rfl, by kernel_rfl, by decide⟩⟩
theorem fn11 : FnI Tryd.prog 11 := ⟨⟨_, Tryd.func11, by kernel_rfl, by kernel_rfl⟩⟩
theorem fn29 : FnI Tryd.prog 29 := ⟨⟨_, Tryd.func29, by kernel_rfl, by kernel_rfl⟩⟩
theorem fi75_0 : FI Tryd.prog 75 0 0 := ⟨⟨_, _, 1, Tryd.underlying75, rfl, rfl, by kernel_rfl, by decide⟩⟩
theorem fi37_0 : FI Tryd.prog 37 0 0 := ⟨⟨_, _, 1, Tryd.underlying37, rfl, rfl, by kernel_rfl, by decide⟩⟩
theorem fi37_1 : FI Tryd.prog 37 1 1 := ⟨⟨_, _, 1, Tryd.underlying37, rfl, rfl, by kernel_rfl, by decide⟩⟩
theorem fi37_2 : FI Tryd.prog 37 2 2 := ⟨⟨_, _, 1, Tryd.underlying37, rfl, rfl, by kernel_rfl, by decide⟩⟩
theorem fi37_3 : FI Tryd.prog 37 3 3 := ⟨⟨_, _, 1, Tryd.underlying37, rfl, rfl, by kernel_rfl, by decide⟩⟩
theorem fi37_4 : FI Tryd.prog 37 4 4 := ⟨⟨_, _, 1, Tryd.underlying37, rfl, rfl, by kernel_rfl, by decide⟩⟩
theorem fn17 : FnI Tryd.prog 17 := ⟨⟨_, Tryd.func17, by kernel_rfl, by kernel_rfl⟩⟩
theorem ni44 : NI Tryd.prog 44 := ⟨.inl ⟨_, Tryd.underlying44⟩⟩
theorem fi33_1 : FI Tryd.prog 33 1 1 := ⟨⟨_, _, 1, Tryd.underlying33, rfl, rfl, by kernel_rfl, by decide⟩⟩
theorem fi33_0 : FI Tryd.prog 33 0 0 := ⟨⟨_, _, 1, Tryd.underlying33, rfl, rfl, by kernel_rfl, by decide⟩⟩
theorem fi33_2 : FI Tryd.prog 33 2 2 := ⟨⟨_, _, 1, Tryd.underlying33, rfl, rfl, by kernel_rfl, by decide⟩⟩
theorem fi33_3 : FI Tryd.prog 33 3 3 := ⟨⟨_, _, 1, Tryd.underlying33, rfl, rfl, by kernel_rfl, by decide⟩⟩
theorem fi33_4 : FI Tryd.prog 33 4 4 := ⟨⟨_, _, 1, Tryd.underlying33, rfl, rfl, by kernel_rfl, by decide⟩⟩
theorem fn14 : FnI Tryd.prog 14 := ⟨⟨_, Tryd.func14, by kernel_rfl, by kernel_rfl⟩⟩
theorem fn48 : FnI Tryd.prog 48 := ⟨⟨_, Tryd.func48, by kernel_rfl, by kernel_rfl⟩⟩
theorem fn30 : FnI Tryd.prog 30 := ⟨⟨_, Tryd.func30, by kernel_rfl, by kernel_rfl⟩⟩

def m57_msg_isKind (a0 : Int) : Option Bool :=
  if (decide (1 ≤ a0)) then (some (decide (a0 ≤ 11))) else (some false)

set_option maxRecDepth 100000 in
theorem m57_msg_isKind_c {a0 : Int} {r : Bool} (h : m57_msg_isKind a0 = some r) : CallsA Tryd.prog 57 [.one (.i .i64 a0)] (· = .s (.one (.b r))) := by
  unfold m57_msg_isKind at h
  refine callsA_of Tryd.func57 rfl (nt := 9) rfl (Nat.le_of_ble_eq_true rfl) ?_
  intro w0 S0
  refine cseq ?_
  refine cregion ?_
  refine sv rfl (opv_as rfl) ?_
  refine snil ?_
  refine cseq ?_
  refine cregion ?_
  refine sv rfl (opv_mv rfl) ?_
  refine sv rfl (opv_geq rfl rfl) ?_
  refine sv rfl (opv_mv rfl) ?_
  refine ssplit 5 rfl (fun hc => ?_) (fun hc => ?_)
  · replace h := ite_t hc h
    clear hc
    refine son rfl rfl rfl ?_
    refine sv rfl (opv_mv rfl) ?_
    refine son rfl rfl rfl ?_
    refine sv rfl (opv_leq rfl rfl) ?_
    refine sv rfl (opv_pick_t rfl rfl) ?_
    refine sv rfl (opv_as rfl) ?_
    refine snil ?_
    refine cret ?_
    obtain rfl := Option.some.inj h
    refine ⟨Or.inr rfl, _, _, _, (resVs_cons (ResV.tmp _ _ rfl) resVs_nil), (pubA_id rfl), ?_⟩
    rfl
  · replace h := ite_f hc h
    clear hc
    refine soff rfl rfl rfl rfl ?_
    refine soff rfl rfl rfl rfl ?_
    refine sv rfl (opv_pick_f rfl rfl) ?_
    refine sv rfl (opv_as rfl) ?_
    refine snil ?_
    refine cret ?_
    obtain rfl := Option.some.inj h
    refine ⟨Or.inr rfl, _, _, _, (resVs_cons (ResV.tmp _ _ rfl) resVs_nil), (pubA_id rfl), ?_⟩
    rfl

def m56_msg_partsOf (a0 : Int) : Option GMsgParts :=
  (m57_msg_isKind a0).bind fun v1 => if (!v1) then (some (GMsgParts.mk false false false false false false)) else ((idx tab0 a0).bind fun u2 => some u2)

set_option maxRecDepth 100000 in
theorem m56_msg_partsOf_c {a0 : Int} {r : GMsgParts} (h : m56_msg_partsOf a0 = some r) : CallsA Tryd.prog 56 [.one (.i .i64 a0)] (· = .s (.agg [.b r.token_, .b r.attempt_, .b r.ro_, .b r.key_, .b r.val_, .b r.rng_])) := by
  unfold m56_msg_partsOf at h
  refine callsA_of Tryd.func56 rfl (nt := 10) rfl (Nat.le_of_ble_eq_true rfl) ?_
  intro w0 S0
  refine cseq ?_
  refine cregion ?_
  refine salloc rfl zi102 ?_
  refine snil ?_
  refine cseq ?_
  refine cseq ?_
  refine cregion ?_
  refine sv rfl (opv_mv rfl) ?_
  obtain ⟨v1, hv1, h⟩ := bind_eq h
  refine scall1 rfl fn57 (opnds_cons rfl opnds_nil) (pubA_id rfl) (m57_msg_isKind_c hv1) ?_
  refine sv rfl (opv_not rfl) ?_
  refine snil ?_
  refine ccond rfl (fun hc => ?_) (fun hc => ?_)
  · replace h := ite_t hc h
    clear hc
    refine cseq ?_
    refine cregion ?_
    refine sv rfl (opv_build zi102 pi102 parts_nil (.nil _)) ?_
    refine sstore sz102 rfl rfl rfl rfl (Nat.le_of_ble_eq_true rfl) ?_
    refine smem [.box [.b false, .b false, .b false, .b false, .b false, .b false]] rfl ?_
    refine snil ?_
    refine cret ?_
    refine then_ret ?_
    obtain rfl := Option.some.inj h
    refine ⟨Or.inr rfl, _, _, _, (resVs_cons (ResV.agg _ _ _ _ _ ti102 rfl (.lp _ _ _ rfl) (Nat.le_of_ble_eq_true rfl)) resVs_nil), (pubA_id rfl), ?_⟩
    rfl
  · replace h := ite_f hc h
    clear hc
    refine cskip ?_
    refine then_normal ?_
    refine cseq ?_
    refine cregion ?_
    refine sv rfl (opv_mv rfl) ?_
    obtain ⟨u2, hu2, h⟩ := bind_eq h
    refine sv rfl (opv_gix (f := eGMsgParts) ai113 (fun _ => rfl) tab0_in rfl rfl rfl hu2) ?_
    refine sv rfl (opv_loadNe (ys := [.b u2.token_, .b u2.attempt_, .b u2.ro_, .b u2.key_, .b u2.val_, .b u2.rng_]) ti102 rfl (.cp _) rfl rfl) ?_
    refine sstore sz102 rfl rfl rfl rfl (Nat.le_of_ble_eq_true rfl) ?_
    refine smem [.box [.b u2.token_, .b u2.attempt_, .b u2.ro_, .b u2.key_, .b u2.val_, .b u2.rng_]] rfl ?_
    refine snil ?_
    refine cret ?_
    obtain rfl := Option.some.inj h
    refine ⟨Or.inr rfl, _, _, _, (resVs_cons (ResV.agg _ _ _ _ _ ti102 rfl (.lp _ _ _ rfl) (Nat.le_of_ble_eq_true rfl)) resVs_nil), (pubA_id rfl), ?_⟩
    rfl

def m58_msg_within (a0 : Int) (a1 : Int) : Option Bool :=
  if (decide (0 ≤ a0)) then (some (decide (a0 ≤ a1))) else (some false)

set_option maxRecDepth 100000 in
theorem m58_msg_within_c {a0 : Int} {a1 : Int} {r : Bool} (h : m58_msg_within a0 a1 = some r) : CallsA Tryd.prog 58 [.one (.i .i64 a0), .one (.i .i64 a1)] (· = .s (.one (.b r))) := by
  unfold m58_msg_within at h
  refine callsA_of Tryd.func58 rfl (nt := 12) rfl (Nat.le_of_ble_eq_true rfl) ?_
  intro w0 S0
  refine cseq ?_
  refine cregion ?_
  refine sv rfl (opv_as rfl) ?_
  refine snil ?_
  refine cseq ?_
  refine cregion ?_
  refine sv rfl (opv_mv rfl) ?_
  refine sv rfl (opv_geq rfl rfl) ?_
  refine sv rfl (opv_mv rfl) ?_
  refine ssplit 7 rfl (fun hc => ?_) (fun hc => ?_)
  · replace h := ite_t hc h
    clear hc
    refine son rfl rfl rfl ?_
    refine sv rfl (opv_mv rfl) ?_
    refine son rfl rfl rfl ?_
    refine sv rfl (opv_mv rfl) ?_
    refine son rfl rfl rfl ?_
    refine sv rfl (opv_leq rfl rfl) ?_
    refine sv rfl (opv_pick_t rfl rfl) ?_
    refine sv rfl (opv_as rfl) ?_
    refine snil ?_
    refine cret ?_
    obtain rfl := Option.some.inj h
    refine ⟨Or.inr rfl, _, _, _, (resVs_cons (ResV.tmp _ _ rfl) resVs_nil), (pubA_id rfl), ?_⟩
    rfl
  · replace h := ite_f hc h
    clear hc
    refine soff rfl rfl rfl rfl ?_
    refine soff rfl rfl rfl rfl ?_
    refine soff rfl rfl rfl rfl ?_
    refine sv rfl (opv_pick_f rfl rfl) ?_
    refine sv rfl (opv_as rfl) ?_
    refine snil ?_
    refine cret ?_
    obtain rfl := Option.some.inj h
    refine ⟨Or.inr rfl, _, _, _, (resVs_cons (ResV.tmp _ _ rfl) resVs_nil), (pubA_id rfl), ?_⟩
    rfl

def m59_msg_saneNum (a0 : Bool) (a1 : Int) (a2 : Int) : Option Bool :=
  if (!a0) then (some (decide (a1 = 0))) else ((m58_msg_within a1 a2).bind fun v1 => some v1)

set_option maxRecDepth 100000 in
theorem m59_msg_saneNum_c {a0 : Bool} {a1 : Int} {a2 : Int} {r : Bool} (h : m59_msg_saneNum a0 a1 a2 = some r) : CallsA Tryd.prog 59 [.one (.b a0), .one (.i .i64 a1), .one (.i .i64 a2)] (· = .s (.one (.b r))) := by
  unfold m59_msg_saneNum at h
  refine callsA_of Tryd.func59 rfl (nt := 14) rfl (Nat.le_of_ble_eq_true rfl) ?_
  intro w0 S0
  refine cseq ?_
  refine cregion ?_
  refine sv rfl (opv_as rfl) ?_
  refine snil ?_
  refine cseq ?_
  refine cseq ?_
  refine cregion ?_
  refine sv rfl (opv_mv rfl) ?_
  refine sv rfl (opv_not rfl) ?_
  refine snil ?_
  refine ccond rfl (fun hc => ?_) (fun hc => ?_)
  · replace h := ite_t hc h
    clear hc
    refine cseq ?_
    refine cregion ?_
    refine sv rfl (opv_mv rfl) ?_
    refine sv rfl (opv_ieql rfl rfl) ?_
    refine sv rfl (opv_as rfl) ?_
    refine snil ?_
    refine cret ?_
    refine then_ret ?_
    obtain rfl := Option.some.inj h
    refine ⟨Or.inr rfl, _, _, _, (resVs_cons (ResV.tmp _ _ rfl) resVs_nil), (pubA_id rfl), ?_⟩
    rfl
  · replace h := ite_f hc h
    clear hc
    refine cskip ?_
    refine then_normal ?_
    refine cseq ?_
    refine cregion ?_
    refine sv rfl (opv_mv rfl) ?_
    refine sv rfl (opv_mv rfl) ?_
    obtain ⟨v1, hv1, h⟩ := bind_eq h
    refine scall1 rfl fn58 (opnds_cons rfl (opnds_cons rfl opnds_nil)) (pubA_id rfl) (m58_msg_within_c hv1) ?_
    refine sv rfl (opv_as rfl) ?_
    refine snil ?_
    refine cret ?_
    obtain rfl := Option.some.inj h
    refine ⟨Or.inr rfl, _, _, _, (resVs_cons (ResV.tmp _ _ rfl) resVs_nil), (pubA_id rfl), ?_⟩
    rfl

def m60_msg_saneBytes (a0 : Bool) (a1 : List UInt8) (a2 : Int) (a3 : Int) : Option Bool :=
  if (!a0) then (some (decide ((a1.length : Int) = 0))) else (if (decide (a2 ≤ (a1.length : Int))) then (some (decide ((a1.length : Int) ≤ a3))) else (some false))

set_option maxRecDepth 100000 in
theorem m60_msg_saneBytes_c {a0 : Bool} {a1 : List UInt8} {a2 : Int} {a3 : Int} {r : Bool} (h : m60_msg_saneBytes a0 a1 a2 a3 = some r) : CallsA Tryd.prog 60 [.one (.b a0), .one (.sl a1.length (a1.flatMap eU8)), .one (.i .i64 a2), .one (.i .i64 a3)] (· = .s (.one (.b r))) := by
  unfold m60_msg_saneBytes at h
  refine callsA_of Tryd.func60 rfl (nt := 24) rfl (Nat.le_of_ble_eq_true rfl) ?_
  intro w0 S0
  refine cseq ?_
  refine cregion ?_
  refine sv rfl (opv_as rfl) ?_
  refine snil ?_
  refine cseq ?_
  refine cseq ?_
  refine cregion ?_
  refine sv rfl (opv_mv rfl) ?_
  refine sv rfl (opv_not rfl) ?_
  refine snil ?_
  refine ccond rfl (fun hc => ?_) (fun hc => ?_)
  · replace h := ite_t hc h
    clear hc
    refine cseq ?_
    refine cregion ?_
    refine sv rfl (opv_mv rfl) ?_
    refine sv rfl (opv_len_sl si29 rfl) ?_
    refine sv rfl (opv_ieql rfl rfl) ?_
    refine sv rfl (opv_as rfl) ?_
    refine snil ?_
    refine cret ?_
    refine then_ret ?_
    obtain rfl := Option.some.inj h
    refine ⟨Or.inr rfl, _, _, _, (resVs_cons (ResV.tmp _ _ rfl) resVs_nil), (pubA_id rfl), ?_⟩
    rfl
  · replace h := ite_f hc h
    clear hc
    refine cskip ?_
    refine then_normal ?_
    refine cseq ?_
    refine cregion ?_
    refine sv rfl (opv_mv rfl) ?_
    refine sv rfl (opv_len_sl si29 rfl) ?_
    refine sv rfl (opv_mv rfl) ?_
    refine sv rfl (opv_geq rfl rfl) ?_
    refine sv rfl (opv_mv rfl) ?_
    refine ssplit 18 rfl (fun hc => ?_) (fun hc => ?_)
    · replace h := ite_t hc h
      clear hc
      refine son rfl rfl rfl ?_
      refine sv rfl (opv_mv rfl) ?_
      refine son rfl rfl rfl ?_
      refine sv rfl (opv_len_sl si29 rfl) ?_
      refine son rfl rfl rfl ?_
      refine sv rfl (opv_mv rfl) ?_
      refine son rfl rfl rfl ?_
      refine sv rfl (opv_leq rfl rfl) ?_
      refine sv rfl (opv_pick_t rfl rfl) ?_
      refine sv rfl (opv_as rfl) ?_
      refine snil ?_
      refine cret ?_
      obtain rfl := Option.some.inj h
      refine ⟨Or.inr rfl, _, _, _, (resVs_cons (ResV.tmp _ _ rfl) resVs_nil), (pubA_id rfl), ?_⟩
      rfl
    · replace h := ite_f hc h
      clear hc
      refine soff rfl rfl rfl rfl ?_
      refine soff rfl rfl rfl rfl ?_
      refine soff rfl rfl rfl rfl ?_
      refine soff rfl rfl rfl rfl ?_
      refine sv rfl (opv_pick_f rfl rfl) ?_
      refine sv rfl (opv_as rfl) ?_
      refine snil ?_
      refine cret ?_
      obtain rfl := Option.some.inj h
      refine ⟨Or.inr rfl, _, _, _, (resVs_cons (ResV.tmp _ _ rfl) resVs_nil), (pubA_id rfl), ?_⟩
      rfl

def m61_msg_saneRng (a0 : Bool) (a1 : GApiRange) : Option Bool :=
  if (!a0) then (if (decide ((a1.Lo.length : Int) = 0)) then (if (decide ((a1.Hi.length : Int) = 0)) then (some (!a1.Open)) else (some false)) else (some false)) else (if (decide ((a1.Lo.length : Int) ≤ 16)) then ((m60_msg_saneBytes (!a1.Open) a1.Hi 0 16).bind fun v1 => some v1) else (some false))

set_option maxRecDepth 100000 in
theorem m61_msg_saneRng_c {a0 : Bool} {a1 : GApiRange} {r : Bool} (h : m61_msg_saneRng a0 a1 = some r) : CallsA Tryd.prog 61 [.one (.b a0), .agg [.sl a1.Lo.length (a1.Lo.flatMap eU8), .sl a1.Hi.length (a1.Hi.flatMap eU8), .b a1.Open]] (· = .s (.one (.b r))) := by
  unfold m61_msg_saneRng at h
  refine callsA_of Tryd.func61 rfl (nt := 34) rfl (Nat.le_of_ble_eq_true rfl) ?_
  intro w0 S0
  refine cseq ?_
  refine cregion ?_
  refine sbox rfl rfl ?_
  refine sv rfl (opv_as rfl) ?_
  refine snil ?_
  refine cseq ?_
  refine cseq ?_
  refine cregion ?_
  refine sv rfl (opv_mv rfl) ?_
  refine sv rfl (opv_not rfl) ?_
  refine snil ?_
  refine ccond rfl (fun hc => ?_) (fun hc => ?_)
  · replace h := ite_t hc h
    clear hc
    refine cseq ?_
    refine cregion ?_
    refine sv rfl (opv_fieldAddr_lp fi31_0 rfl) ?_
    refine sv rfl (opv_load1 ti29 rfl (.lp _ _ _ rfl) rfl) ?_
    refine sv rfl (opv_len_sl si29 rfl) ?_
    refine sv rfl (opv_ieql rfl rfl) ?_
    refine sv rfl (opv_mv rfl) ?_
    refine ssplit 11 rfl (fun hc => ?_) (fun hc => ?_)
    · replace h := ite_t hc h
      clear hc
      refine son rfl rfl rfl ?_
      refine sv rfl (opv_fieldAddr_lp fi31_1 rfl) ?_
      refine son rfl rfl rfl ?_
      refine sv rfl (opv_load1 ti29 rfl (.lp _ _ _ rfl) rfl) ?_
      refine son rfl rfl rfl ?_
      refine sv rfl (opv_len_sl si29 rfl) ?_
      refine son rfl rfl rfl ?_
      refine sv rfl (opv_ieql rfl rfl) ?_
      refine sv rfl (opv_pick_t rfl rfl) ?_
      refine sv rfl (opv_mv rfl) ?_
      refine ssplit 17 rfl (fun hc => ?_) (fun hc => ?_)
      · replace h := ite_t hc h
        clear hc
        refine son rfl rfl rfl ?_
        refine sv rfl (opv_fieldAddr_lp fi31_2 rfl) ?_
        refine son rfl rfl rfl ?_
        refine sv rfl (opv_load1 ti4 rfl (.lp _ _ _ rfl) rfl) ?_
        refine son rfl rfl rfl ?_
        refine sv rfl (opv_not rfl) ?_
        refine sv rfl (opv_pick_t rfl rfl) ?_
        refine sv rfl (opv_as rfl) ?_
        refine snil ?_
        refine cret ?_
        refine then_ret ?_
        obtain rfl := Option.some.inj h
        refine ⟨Or.inr rfl, _, _, _, (resVs_cons (ResV.tmp _ _ rfl) resVs_nil), (pubA_id rfl), ?_⟩
        rfl
      · replace h := ite_f hc h
        clear hc
        refine soff rfl rfl rfl rfl ?_
        refine soff rfl rfl rfl rfl ?_
        refine soff rfl rfl rfl rfl ?_
        refine sv rfl (opv_pick_f rfl rfl) ?_
        refine sv rfl (opv_as rfl) ?_
        refine snil ?_
        refine cret ?_
        refine then_ret ?_
        obtain rfl := Option.some.inj h
        refine ⟨Or.inr rfl, _, _, _, (resVs_cons (ResV.tmp _ _ rfl) resVs_nil), (pubA_id rfl), ?_⟩
        rfl
    · replace h := ite_f hc h
      clear hc
      refine soff rfl rfl rfl rfl ?_
      refine soff rfl rfl rfl rfl ?_
      refine soff rfl rfl rfl rfl ?_
      refine soff rfl rfl rfl rfl ?_
      refine sv rfl (opv_pick_f rfl rfl) ?_
      refine sv rfl (opv_mv rfl) ?_
      refine soff rfl rfl rfl rfl ?_
      refine soff rfl rfl rfl rfl ?_
      refine soff rfl rfl rfl rfl ?_
      refine sv rfl (opv_pick_f rfl rfl) ?_
      refine sv rfl (opv_as rfl) ?_
      refine snil ?_
      refine cret ?_
      refine then_ret ?_
      obtain rfl := Option.some.inj h
      refine ⟨Or.inr rfl, _, _, _, (resVs_cons (ResV.tmp _ _ rfl) resVs_nil), (pubA_id rfl), ?_⟩
      rfl
  · replace h := ite_f hc h
    clear hc
    refine cskip ?_
    refine then_normal ?_
    refine cseq ?_
    refine cregion ?_
    refine sv rfl (opv_fieldAddr_lp fi31_0 rfl) ?_
    refine sv rfl (opv_load1 ti29 rfl (.lp _ _ _ rfl) rfl) ?_
    refine sv rfl (opv_len_sl si29 rfl) ?_
    refine sv rfl (opv_leq rfl rfl) ?_
    refine sv rfl (opv_mv rfl) ?_
    refine ssplit 26 rfl (fun hc => ?_) (fun hc => ?_)
    · replace h := ite_t hc h
      clear hc
      refine son rfl rfl rfl ?_
      refine sv rfl (opv_fieldAddr_lp fi31_2 rfl) ?_
      refine son rfl rfl rfl ?_
      refine sv rfl (opv_load1 ti4 rfl (.lp _ _ _ rfl) rfl) ?_
      refine son rfl rfl rfl ?_
      refine sv rfl (opv_not rfl) ?_
      refine son rfl rfl rfl ?_
      refine sv rfl (opv_fieldAddr_lp fi31_1 rfl) ?_
      refine son rfl rfl rfl ?_
      refine sv rfl (opv_load1 ti29 rfl (.lp _ _ _ rfl) rfl) ?_
      refine son rfl rfl rfl ?_
      obtain ⟨v1, hv1, h⟩ := bind_eq h
      refine scall1 rfl fn60 (opnds_cons rfl (opnds_cons rfl (opnds_cons rfl (opnds_cons rfl opnds_nil)))) (pubA_id rfl) (m60_msg_saneBytes_c hv1) ?_
      refine sv rfl (opv_pick_t rfl rfl) ?_
      refine sv rfl (opv_as rfl) ?_
      refine snil ?_
      refine cret ?_
      obtain rfl := Option.some.inj h
      refine ⟨Or.inr rfl, _, _, _, (resVs_cons (ResV.tmp _ _ rfl) resVs_nil), (pubA_id rfl), ?_⟩
      rfl
    · replace h := ite_f hc h
      clear hc
      refine soff rfl rfl rfl rfl ?_
      refine soff rfl rfl rfl rfl ?_
      refine soff rfl rfl rfl rfl ?_
      refine soff rfl rfl rfl rfl ?_
      refine soff rfl rfl rfl rfl ?_
      refine soff rfl rfl rfl rfl ?_
      refine sv rfl (opv_pick_f rfl rfl) ?_
      refine sv rfl (opv_as rfl) ?_
      refine snil ?_
      refine cret ?_
      obtain rfl := Option.some.inj h
      refine ⟨Or.inr rfl, _, _, _, (resVs_cons (ResV.tmp _ _ rfl) resVs_nil), (pubA_id rfl), ?_⟩
      rfl

def m32_msg_SaneReq (a0 : GMsgReq) : Option Bool :=
  (m56_msg_partsOf a0.Kind).bind fun v1 => (m57_msg_isKind a0.Kind).bind fun v2 => if v2 then ((m58_msg_within a0.Seq 4294967295).bind fun v3 => if v3 then ((m59_msg_saneNum v1.token_ a0.Token 1099511627776).bind fun v4 => if v4 then ((m59_msg_saneNum v1.attempt_ a0.Attempt 65535).bind fun v5 => if v5 then (if v1.ro_ then ((m60_msg_saneBytes v1.key_ a0.Key 1 16).bind fun v6 => if v6 then ((m60_msg_saneBytes v1.val_ a0.Val 0 32).bind fun v7 => if v7 then ((m61_msg_saneRng v1.rng_ (GApiRange.mk a0.Rng.Lo a0.Rng.Hi a0.Rng.Open)).bind fun v8 => some v8) else (some false)) else (some false)) else (if (!a0.RO) then ((m60_msg_saneBytes v1.key_ a0.Key 1 16).bind fun v9 => if v9 then ((m60_msg_saneBytes v1.val_ a0.Val 0 32).bind fun v10 => if v10 then ((m61_msg_saneRng v1.rng_ (GApiRange.mk a0.Rng.Lo a0.Rng.Hi a0.Rng.Open)).bind fun v11 => some v11) else (some false)) else (some false)) else (some false))) else (some false)) else (some false)) else (some false)) else (some false)

set_option maxRecDepth 100000 in
theorem m32_msg_SaneReq_c {a0 : GMsgReq} {r : Bool} (h : m32_msg_SaneReq a0 = some r) : CallsA Tryd.prog 32 [.agg [.i .i64 a0.Kind, .i .i64 a0.Seq, .i .i64 a0.Token, .i .i64 a0.Attempt, .b a0.RO, .sl a0.Key.length (a0.Key.flatMap eU8), .sl a0.Val.length (a0.Val.flatMap eU8), .sl a0.Rng.Lo.length (a0.Rng.Lo.flatMap eU8), .sl a0.Rng.Hi.length (a0.Rng.Hi.flatMap eU8), .b a0.Rng.Open]] (· = .s (.one (.b r))) := by
  unfold m32_msg_SaneReq at h
  refine callsA_of Tryd.func32 rfl (nt := 59) rfl (Nat.le_of_ble_eq_true rfl) ?_
  intro w0 S0
  refine cseq ?_
  refine cregion ?_
  refine sbox rfl rfl ?_
  refine sv rfl (opv_as rfl) ?_
  refine snil ?_
  refine cseq ?_
  refine cregion ?_
  refine sv rfl (opv_fieldAddr_lp fi51_0 rfl) ?_
  refine sv rfl (opv_load1 ti3 rfl (.lp _ _ _ rfl) rfl) ?_
  obtain ⟨v1, hv1, h⟩ := bind_eq h
  refine scall1 rfl fn56 (opnds_cons rfl opnds_nil) (pubA_id rfl) (m56_msg_partsOf_c hv1) ?_
  refine salloc rfl zi102 ?_
  refine sstore sz102 rfl rfl rfl rfl (Nat.le_of_ble_eq_true rfl) ?_
  refine smem [.box [.i .i64 a0.Kind, .i .i64 a0.Seq, .i .i64 a0.Token, .i .i64 a0.Attempt, .b a0.RO, .sl a0.Key.length (a0.Key.flatMap eU8), .sl a0.Val.length (a0.Val.flatMap eU8), .sl a0.Rng.Lo.length (a0.Rng.Lo.flatMap eU8), .sl a0.Rng.Hi.length (a0.Rng.Hi.flatMap eU8), .b a0.Rng.Open], .box [.b v1.token_, .b v1.attempt_, .b v1.ro_, .b v1.key_, .b v1.val_, .b v1.rng_]] rfl ?_
  refine snil ?_
  refine cseq ?_
  refine cregion ?_
  refine sv rfl (opv_fieldAddr_lp fi51_0 rfl) ?_
  refine sv rfl (opv_load1 ti3 rfl (.lp _ _ _ rfl) rfl) ?_
  obtain ⟨v2, hv2, h⟩ := bind_eq h
  refine scall1 rfl fn57 (opnds_cons rfl opnds_nil) (pubA_id rfl) (m57_msg_isKind_c hv2) ?_
  refine sv rfl (opv_mv rfl) ?_
  refine ssplit 10 rfl (fun hc => ?_) (fun hc => ?_)
  · replace h := ite_t hc h
    clear hc
    refine son rfl rfl rfl ?_
    refine sv rfl (opv_fieldAddr_lp fi51_1 rfl) ?_
    refine son rfl rfl rfl ?_
    refine sv rfl (opv_load1 ti3 rfl (.lp _ _ _ rfl) rfl) ?_
    refine son rfl rfl rfl ?_
    obtain ⟨v3, hv3, h⟩ := bind_eq h
    refine scall1 rfl fn58 (opnds_cons rfl (opnds_cons rfl opnds_nil)) (pubA_id rfl) (m58_msg_within_c hv3) ?_
    refine sv rfl (opv_pick_t rfl rfl) ?_
    refine sv rfl (opv_mv rfl) ?_
    refine ssplit 15 rfl (fun hc => ?_) (fun hc => ?_)
    · replace h := ite_t hc h
      clear hc
      refine son rfl rfl rfl ?_
      refine sv rfl (opv_fieldAddr_lp fi102_0 rfl) ?_
      refine son rfl rfl rfl ?_
      refine sv rfl (opv_load1 ti4 rfl (.lp _ _ _ rfl) rfl) ?_
      refine son rfl rfl rfl ?_
      refine sv rfl (opv_fieldAddr_lp fi51_2 rfl) ?_
      refine son rfl rfl rfl ?_
      refine sv rfl (opv_load1 ti3 rfl (.lp _ _ _ rfl) rfl) ?_
      refine son rfl rfl rfl ?_
      obtain ⟨v4, hv4, h⟩ := bind_eq h
      refine scall1 rfl fn59 (opnds_cons rfl (opnds_cons rfl (opnds_cons rfl opnds_nil))) (pubA_id rfl) (m59_msg_saneNum_c hv4) ?_
      refine sv rfl (opv_pick_t rfl rfl) ?_
      refine sv rfl (opv_mv rfl) ?_
      refine ssplit 22 rfl (fun hc => ?_) (fun hc => ?_)
      · replace h := ite_t hc h
        clear hc
        refine son rfl rfl rfl ?_
        refine sv rfl (opv_fieldAddr_lp fi102_1 rfl) ?_
        refine son rfl rfl rfl ?_
        refine sv rfl (opv_load1 ti4 rfl (.lp _ _ _ rfl) rfl) ?_
        refine son rfl rfl rfl ?_
        refine sv rfl (opv_fieldAddr_lp fi51_3 rfl) ?_
        refine son rfl rfl rfl ?_
        refine sv rfl (opv_load1 ti3 rfl (.lp _ _ _ rfl) rfl) ?_
        refine son rfl rfl rfl ?_
        obtain ⟨v5, hv5, h⟩ := bind_eq h
        refine scall1 rfl fn59 (opnds_cons rfl (opnds_cons rfl (opnds_cons rfl opnds_nil))) (pubA_id rfl) (m59_msg_saneNum_c hv5) ?_
        refine sv rfl (opv_pick_t rfl rfl) ?_
        refine sv rfl (opv_mv rfl) ?_
        refine ssplit 29 rfl (fun hc => ?_) (fun hc => ?_)
        · replace h := ite_t hc h
          clear hc
          refine son rfl rfl rfl ?_
          refine sv rfl (opv_fieldAddr_lp fi102_2 rfl) ?_
          refine son rfl rfl rfl ?_
          refine sv rfl (opv_load1 ti4 rfl (.lp _ _ _ rfl) rfl) ?_
          refine son rfl rfl rfl ?_
          refine sv rfl (opv_mv rfl) ?_
          refine ssplit 32 rfl (fun hc => ?_) (fun hc => ?_)
          · replace h := ite_t hc h
            clear hc
            refine soff rfl rfl rfl rfl ?_
            refine soff rfl rfl rfl rfl ?_
            refine soff rfl rfl rfl rfl ?_
            refine son rfl rfl rfl ?_
            refine sv rfl (opv_pick_t rfl rfl) ?_
            refine sv rfl (opv_pick_t rfl rfl) ?_
            refine sv rfl (opv_mv rfl) ?_
            refine son rfl rfl rfl ?_
            refine sv rfl (opv_fieldAddr_lp fi102_3 rfl) ?_
            refine son rfl rfl rfl ?_
            refine sv rfl (opv_load1 ti4 rfl (.lp _ _ _ rfl) rfl) ?_
            refine son rfl rfl rfl ?_
            refine sv rfl (opv_fieldAddr_lp fi51_5 rfl) ?_
            refine son rfl rfl rfl ?_
            refine sv rfl (opv_load1 ti29 rfl (.lp _ _ _ rfl) rfl) ?_
            refine son rfl rfl rfl ?_
            obtain ⟨v6, hv6, h⟩ := bind_eq h
            refine scall1 rfl fn60 (opnds_cons rfl (opnds_cons rfl (opnds_cons rfl (opnds_cons rfl opnds_nil)))) (pubA_id rfl) (m60_msg_saneBytes_c hv6) ?_
            refine sv rfl (opv_pick_t rfl rfl) ?_
            refine sv rfl (opv_mv rfl) ?_
            refine ssplit 45 rfl (fun hc => ?_) (fun hc => ?_)
            · replace h := ite_t hc h
              clear hc
              refine son rfl rfl rfl ?_
              refine sv rfl (opv_fieldAddr_lp fi102_4 rfl) ?_
              refine son rfl rfl rfl ?_
              refine sv rfl (opv_load1 ti4 rfl (.lp _ _ _ rfl) rfl) ?_
              refine son rfl rfl rfl ?_
              refine sv rfl (opv_fieldAddr_lp fi51_6 rfl) ?_
              refine son rfl rfl rfl ?_
              refine sv rfl (opv_load1 ti29 rfl (.lp _ _ _ rfl) rfl) ?_
              refine son rfl rfl rfl ?_
              obtain ⟨v7, hv7, h⟩ := bind_eq h
              refine scall1 rfl fn60 (opnds_cons rfl (opnds_cons rfl (opnds_cons rfl (opnds_cons rfl opnds_nil)))) (pubA_id rfl) (m60_msg_saneBytes_c hv7) ?_
              refine sv rfl (opv_pick_t rfl rfl) ?_
              refine sv rfl (opv_mv rfl) ?_
              refine ssplit 52 rfl (fun hc => ?_) (fun hc => ?_)
              · replace h := ite_t hc h
                clear hc
                refine son rfl rfl rfl ?_
                refine sv rfl (opv_fieldAddr_lp fi102_5 rfl) ?_
                refine son rfl rfl rfl ?_
                refine sv rfl (opv_load1 ti4 rfl (.lp _ _ _ rfl) rfl) ?_
                refine son rfl rfl rfl ?_
                refine sv rfl (opv_fieldAddr_lp fi51_7 rfl) ?_
                refine son rfl rfl rfl ?_
                refine sv rfl (opv_loadN ti31 rfl (.lp _ _ _ rfl) (Nat.le_of_ble_eq_true rfl)) ?_
                refine son rfl rfl rfl ?_
                obtain ⟨v8, hv8, h⟩ := bind_eq h
                refine scall1 rfl fn61 (opnds_cons rfl (opnds_cons rfl opnds_nil)) (pubA_id rfl) (m61_msg_saneRng_c hv8) ?_
                refine sv rfl (opv_pick_t rfl rfl) ?_
                refine sv rfl (opv_as rfl) ?_
                refine snil ?_
                refine cret ?_
                obtain rfl := Option.some.inj h
                refine ⟨Or.inr rfl, _, _, _, (resVs_cons (ResV.tmp _ _ rfl) resVs_nil), (pubA_id rfl), ?_⟩
                rfl
              · replace h := ite_f hc h
                clear hc
                refine soff rfl rfl rfl rfl ?_
                refine soff rfl rfl rfl rfl ?_
                refine soff rfl rfl rfl rfl ?_
                refine soff rfl rfl rfl rfl ?_
                refine soff rfl rfl rfl rfl ?_
                refine sv rfl (opv_pick_f rfl rfl) ?_
                refine sv rfl (opv_as rfl) ?_
                refine snil ?_
                refine cret ?_
                obtain rfl := Option.some.inj h
                refine ⟨Or.inr rfl, _, _, _, (resVs_cons (ResV.tmp _ _ rfl) resVs_nil), (pubA_id rfl), ?_⟩
                rfl
            · replace h := ite_f hc h
              clear hc
              refine soff rfl rfl rfl rfl ?_
              refine soff rfl rfl rfl rfl ?_
              refine soff rfl rfl rfl rfl ?_
              refine soff rfl rfl rfl rfl ?_
              refine soff rfl rfl rfl rfl ?_
              refine sv rfl (opv_pick_f rfl rfl) ?_
              refine sv rfl (opv_mv rfl) ?_
              refine soff rfl rfl rfl rfl ?_
              refine soff rfl rfl rfl rfl ?_
              refine soff rfl rfl rfl rfl ?_
              refine soff rfl rfl rfl rfl ?_
              refine soff rfl rfl rfl rfl ?_
              refine sv rfl (opv_pick_f rfl rfl) ?_
              refine sv rfl (opv_as rfl) ?_
              refine snil ?_
              refine cret ?_
              obtain rfl := Option.some.inj h
              refine ⟨Or.inr rfl, _, _, _, (resVs_cons (ResV.tmp _ _ rfl) resVs_nil), (pubA_id rfl), ?_⟩
              rfl
          · replace h := ite_f hc h
            clear hc
            refine son rfl rfl rfl ?_
            refine sv rfl (opv_fieldAddr_lp fi51_4 rfl) ?_
            refine son rfl rfl rfl ?_
            refine sv rfl (opv_load1 ti4 rfl (.lp _ _ _ rfl) rfl) ?_
            refine son rfl rfl rfl ?_
            refine sv rfl (opv_not rfl) ?_
            refine son rfl rfl rfl ?_
            refine sv rfl (opv_pick_f rfl rfl) ?_
            refine sv rfl (opv_pick_t rfl rfl) ?_
            refine sv rfl (opv_mv rfl) ?_
            refine ssplit 38 rfl (fun hc => ?_) (fun hc => ?_)
            · replace h := ite_t hc h
              clear hc
              refine son rfl rfl rfl ?_
              refine sv rfl (opv_fieldAddr_lp fi102_3 rfl) ?_
              refine son rfl rfl rfl ?_
              refine sv rfl (opv_load1 ti4 rfl (.lp _ _ _ rfl) rfl) ?_
              refine son rfl rfl rfl ?_
              refine sv rfl (opv_fieldAddr_lp fi51_5 rfl) ?_
              refine son rfl rfl rfl ?_
              refine sv rfl (opv_load1 ti29 rfl (.lp _ _ _ rfl) rfl) ?_
              refine son rfl rfl rfl ?_
              obtain ⟨v9, hv9, h⟩ := bind_eq h
              refine scall1 rfl fn60 (opnds_cons rfl (opnds_cons rfl (opnds_cons rfl (opnds_cons rfl opnds_nil)))) (pubA_id rfl) (m60_msg_saneBytes_c hv9) ?_
              refine sv rfl (opv_pick_t rfl rfl) ?_
              refine sv rfl (opv_mv rfl) ?_
              refine ssplit 45 rfl (fun hc => ?_) (fun hc => ?_)
              · replace h := ite_t hc h
                clear hc
                refine son rfl rfl rfl ?_
                refine sv rfl (opv_fieldAddr_lp fi102_4 rfl) ?_
                refine son rfl rfl rfl ?_
                refine sv rfl (opv_load1 ti4 rfl (.lp _ _ _ rfl) rfl) ?_
                refine son rfl rfl rfl ?_
                refine sv rfl (opv_fieldAddr_lp fi51_6 rfl) ?_
                refine son rfl rfl rfl ?_
                refine sv rfl (opv_load1 ti29 rfl (.lp _ _ _ rfl) rfl) ?_
                refine son rfl rfl rfl ?_
                obtain ⟨v10, hv10, h⟩ := bind_eq h
                refine scall1 rfl fn60 (opnds_cons rfl (opnds_cons rfl (opnds_cons rfl (opnds_cons rfl opnds_nil)))) (pubA_id rfl) (m60_msg_saneBytes_c hv10) ?_
                refine sv rfl (opv_pick_t rfl rfl) ?_
                refine sv rfl (opv_mv rfl) ?_
                refine ssplit 52 rfl (fun hc => ?_) (fun hc => ?_)
                · replace h := ite_t hc h
                  clear hc
                  refine son rfl rfl rfl ?_
                  refine sv rfl (opv_fieldAddr_lp fi102_5 rfl) ?_
                  refine son rfl rfl rfl ?_
                  refine sv rfl (opv_load1 ti4 rfl (.lp _ _ _ rfl) rfl) ?_
                  refine son rfl rfl rfl ?_
                  refine sv rfl (opv_fieldAddr_lp fi51_7 rfl) ?_
                  refine son rfl rfl rfl ?_
                  refine sv rfl (opv_loadN ti31 rfl (.lp _ _ _ rfl) (Nat.le_of_ble_eq_true rfl)) ?_
                  refine son rfl rfl rfl ?_
                  obtain ⟨v11, hv11, h⟩ := bind_eq h
                  refine scall1 rfl fn61 (opnds_cons rfl (opnds_cons rfl opnds_nil)) (pubA_id rfl) (m61_msg_saneRng_c hv11) ?_
                  refine sv rfl (opv_pick_t rfl rfl) ?_
                  refine sv rfl (opv_as rfl) ?_
                  refine snil ?_
                  refine cret ?_
                  obtain rfl := Option.some.inj h
                  refine ⟨Or.inr rfl, _, _, _, (resVs_cons (ResV.tmp _ _ rfl) resVs_nil), (pubA_id rfl), ?_⟩
                  rfl
                · replace h := ite_f hc h
                  clear hc
                  refine soff rfl rfl rfl rfl ?_
                  refine soff rfl rfl rfl rfl ?_
                  refine soff rfl rfl rfl rfl ?_
                  refine soff rfl rfl rfl rfl ?_
                  refine soff rfl rfl rfl rfl ?_
                  refine sv rfl (opv_pick_f rfl rfl) ?_
                  refine sv rfl (opv_as rfl) ?_
                  refine snil ?_
                  refine cret ?_
                  obtain rfl := Option.some.inj h
                  refine ⟨Or.inr rfl, _, _, _, (resVs_cons (ResV.tmp _ _ rfl) resVs_nil), (pubA_id rfl), ?_⟩
                  rfl
              · replace h := ite_f hc h
                clear hc
                refine soff rfl rfl rfl rfl ?_
                refine soff rfl rfl rfl rfl ?_
                refine soff rfl rfl rfl rfl ?_
                refine soff rfl rfl rfl rfl ?_
                refine soff rfl rfl rfl rfl ?_
                refine sv rfl (opv_pick_f rfl rfl) ?_
                refine sv rfl (opv_mv rfl) ?_
                refine soff rfl rfl rfl rfl ?_
                refine soff rfl rfl rfl rfl ?_
                refine soff rfl rfl rfl rfl ?_
                refine soff rfl rfl rfl rfl ?_
                refine soff rfl rfl rfl rfl ?_
                refine sv rfl (opv_pick_f rfl rfl) ?_
                refine sv rfl (opv_as rfl) ?_
                refine snil ?_
                refine cret ?_
                obtain rfl := Option.some.inj h
                refine ⟨Or.inr rfl, _, _, _, (resVs_cons (ResV.tmp _ _ rfl) resVs_nil), (pubA_id rfl), ?_⟩
                rfl
            · replace h := ite_f hc h
              clear hc
              refine soff rfl rfl rfl rfl ?_
              refine soff rfl rfl rfl rfl ?_
              refine soff rfl rfl rfl rfl ?_
              refine soff rfl rfl rfl rfl ?_
              refine soff rfl rfl rfl rfl ?_
              refine sv rfl (opv_pick_f rfl rfl) ?_
              refine sv rfl (opv_mv rfl) ?_
              refine soff rfl rfl rfl rfl ?_
              refine soff rfl rfl rfl rfl ?_
              refine soff rfl rfl rfl rfl ?_
              refine soff rfl rfl rfl rfl ?_
              refine soff rfl rfl rfl rfl ?_
              refine sv rfl (opv_pick_f rfl rfl) ?_
              refine sv rfl (opv_mv rfl) ?_
              refine soff rfl rfl rfl rfl ?_
              refine soff rfl rfl rfl rfl ?_
              refine soff rfl rfl rfl rfl ?_
              refine soff rfl rfl rfl rfl ?_
              refine soff rfl rfl rfl rfl ?_
              refine sv rfl (opv_pick_f rfl rfl) ?_
              refine sv rfl (opv_as rfl) ?_
              refine snil ?_
              refine cret ?_
              obtain rfl := Option.some.inj h
              refine ⟨Or.inr rfl, _, _, _, (resVs_cons (ResV.tmp _ _ rfl) resVs_nil), (pubA_id rfl), ?_⟩
              rfl
        · replace h := ite_f hc h
          clear hc
          refine soff rfl rfl rfl rfl ?_
          refine soff rfl rfl rfl rfl ?_
          refine soff rfl rfl rfl rfl ?_
          refine soffu rfl rfl rfl ?_
          refine soffu rfl rfl rfl ?_
          refine soffu rfl rfl rfl ?_
          refine soff rfl rfl rfl rfl ?_
          refine sv rfl (opv_pick_f rfl rfl) ?_
          refine sv rfl (opv_mv rfl) ?_
          refine soff rfl rfl rfl rfl ?_
          refine soff rfl rfl rfl rfl ?_
          refine soff rfl rfl rfl rfl ?_
          refine soff rfl rfl rfl rfl ?_
          refine soff rfl rfl rfl rfl ?_
          refine sv rfl (opv_pick_f rfl rfl) ?_
          refine sv rfl (opv_mv rfl) ?_
          refine soff rfl rfl rfl rfl ?_
          refine soff rfl rfl rfl rfl ?_
          refine soff rfl rfl rfl rfl ?_
          refine soff rfl rfl rfl rfl ?_
          refine soff rfl rfl rfl rfl ?_
          refine sv rfl (opv_pick_f rfl rfl) ?_
          refine sv rfl (opv_mv rfl) ?_
          refine soff rfl rfl rfl rfl ?_
          refine soff rfl rfl rfl rfl ?_
          refine soff rfl rfl rfl rfl ?_
          refine soff rfl rfl rfl rfl ?_
          refine soff rfl rfl rfl rfl ?_
          refine sv rfl (opv_pick_f rfl rfl) ?_
          refine sv rfl (opv_as rfl) ?_
          refine snil ?_
          refine cret ?_
          obtain rfl := Option.some.inj h
          refine ⟨Or.inr rfl, _, _, _, (resVs_cons (ResV.tmp _ _ rfl) resVs_nil), (pubA_id rfl), ?_⟩
          rfl
      · replace h := ite_f hc h
        clear hc
        refine soff rfl rfl rfl rfl ?_
        refine soff rfl rfl rfl rfl ?_
        refine soff rfl rfl rfl rfl ?_
        refine soff rfl rfl rfl rfl ?_
        refine soff rfl rfl rfl rfl ?_
        refine sv rfl (opv_pick_f rfl rfl) ?_
        refine sv rfl (opv_mv rfl) ?_
        refine soff rfl rfl rfl rfl ?_
        refine soff rfl rfl rfl rfl ?_
        refine soff rfl rfl rfl rfl ?_
        refine soffu rfl rfl rfl ?_
        refine soffu rfl rfl rfl ?_
        refine soffu rfl rfl rfl ?_
        refine soff rfl rfl rfl rfl ?_
        refine sv rfl (opv_pick_f rfl rfl) ?_
        refine sv rfl (opv_mv rfl) ?_
        refine soff rfl rfl rfl rfl ?_
        refine soff rfl rfl rfl rfl ?_
        refine soff rfl rfl rfl rfl ?_
        refine soff rfl rfl rfl rfl ?_
        refine soff rfl rfl rfl rfl ?_
        refine sv rfl (opv_pick_f rfl rfl) ?_
        refine sv rfl (opv_mv rfl) ?_
        refine soff rfl rfl rfl rfl ?_
        refine soff rfl rfl rfl rfl ?_
        refine soff rfl rfl rfl rfl ?_
        refine soff rfl rfl rfl rfl ?_
        refine soff rfl rfl rfl rfl ?_
        refine sv rfl (opv_pick_f rfl rfl) ?_
        refine sv rfl (opv_mv rfl) ?_
        refine soff rfl rfl rfl rfl ?_
        refine soff rfl rfl rfl rfl ?_
        refine soff rfl rfl rfl rfl ?_
        refine soff rfl rfl rfl rfl ?_
        refine soff rfl rfl rfl rfl ?_
        refine sv rfl (opv_pick_f rfl rfl) ?_
        refine sv rfl (opv_as rfl) ?_
        refine snil ?_
        refine cret ?_
        obtain rfl := Option.some.inj h
        refine ⟨Or.inr rfl, _, _, _, (resVs_cons (ResV.tmp _ _ rfl) resVs_nil), (pubA_id rfl), ?_⟩
        rfl
    · replace h := ite_f hc h
      clear hc
      refine soff rfl rfl rfl rfl ?_
      refine soff rfl rfl rfl rfl ?_
      refine soff rfl rfl rfl rfl ?_
      refine soff rfl rfl rfl rfl ?_
      refine soff rfl rfl rfl rfl ?_
      refine sv rfl (opv_pick_f rfl rfl) ?_
      refine sv rfl (opv_mv rfl) ?_
      refine soff rfl rfl rfl rfl ?_
      refine soff rfl rfl rfl rfl ?_
      refine soff rfl rfl rfl rfl ?_
      refine soff rfl rfl rfl rfl ?_
      refine soff rfl rfl rfl rfl ?_
      refine sv rfl (opv_pick_f rfl rfl) ?_
      refine sv rfl (opv_mv rfl) ?_
      refine soff rfl rfl rfl rfl ?_
      refine soff rfl rfl rfl rfl ?_
      refine soff rfl rfl rfl rfl ?_
      refine soffu rfl rfl rfl ?_
      refine soffu rfl rfl rfl ?_
      refine soffu rfl rfl rfl ?_
      refine soff rfl rfl rfl rfl ?_
      refine sv rfl (opv_pick_f rfl rfl) ?_
      refine sv rfl (opv_mv rfl) ?_
      refine soff rfl rfl rfl rfl ?_
      refine soff rfl rfl rfl rfl ?_
      refine soff rfl rfl rfl rfl ?_
      refine soff rfl rfl rfl rfl ?_
      refine soff rfl rfl rfl rfl ?_
      refine sv rfl (opv_pick_f rfl rfl) ?_
      refine sv rfl (opv_mv rfl) ?_
      refine soff rfl rfl rfl rfl ?_
      refine soff rfl rfl rfl rfl ?_
      refine soff rfl rfl rfl rfl ?_
      refine soff rfl rfl rfl rfl ?_
      refine soff rfl rfl rfl rfl ?_
      refine sv rfl (opv_pick_f rfl rfl) ?_
      refine sv rfl (opv_mv rfl) ?_
      refine soff rfl rfl rfl rfl ?_
      refine soff rfl rfl rfl rfl ?_
      refine soff rfl rfl rfl rfl ?_
      refine soff rfl rfl rfl rfl ?_
      refine soff rfl rfl rfl rfl ?_
      refine sv rfl (opv_pick_f rfl rfl) ?_
      refine sv rfl (opv_as rfl) ?_
      refine snil ?_
      refine cret ?_
      obtain rfl := Option.some.inj h
      refine ⟨Or.inr rfl, _, _, _, (resVs_cons (ResV.tmp _ _ rfl) resVs_nil), (pubA_id rfl), ?_⟩
      rfl
  · replace h := ite_f hc h
    clear hc
    refine soff rfl rfl rfl rfl ?_
    refine soff rfl rfl rfl rfl ?_
    refine soff rfl rfl rfl rfl ?_
    refine sv rfl (opv_pick_f rfl rfl) ?_
    refine sv rfl (opv_mv rfl) ?_
    refine soff rfl rfl rfl rfl ?_
    refine soff rfl rfl rfl rfl ?_
    refine soff rfl rfl rfl rfl ?_
    refine soff rfl rfl rfl rfl ?_
    refine soff rfl rfl rfl rfl ?_
    refine sv rfl (opv_pick_f rfl rfl) ?_
    refine sv rfl (opv_mv rfl) ?_
    refine soff rfl rfl rfl rfl ?_
    refine soff rfl rfl rfl rfl ?_
    refine soff rfl rfl rfl rfl ?_
    refine soff rfl rfl rfl rfl ?_
    refine soff rfl rfl rfl rfl ?_
    refine sv rfl (opv_pick_f rfl rfl) ?_
    refine sv rfl (opv_mv rfl) ?_
    refine soff rfl rfl rfl rfl ?_
    refine soff rfl rfl rfl rfl ?_
    refine soff rfl rfl rfl rfl ?_
    refine soffu rfl rfl rfl ?_
    refine soffu rfl rfl rfl ?_
    refine soffu rfl rfl rfl ?_
    refine soff rfl rfl rfl rfl ?_
    refine sv rfl (opv_pick_f rfl rfl) ?_
    refine sv rfl (opv_mv rfl) ?_
    refine soff rfl rfl rfl rfl ?_
    refine soff rfl rfl rfl rfl ?_
    refine soff rfl rfl rfl rfl ?_
    refine soff rfl rfl rfl rfl ?_
    refine soff rfl rfl rfl rfl ?_
    refine sv rfl (opv_pick_f rfl rfl) ?_
    refine sv rfl (opv_mv rfl) ?_
    refine soff rfl rfl rfl rfl ?_
    refine soff rfl rfl rfl rfl ?_
    refine soff rfl rfl rfl rfl ?_
    refine soff rfl rfl rfl rfl ?_
    refine soff rfl rfl rfl rfl ?_
    refine sv rfl (opv_pick_f rfl rfl) ?_
    refine sv rfl (opv_mv rfl) ?_
    refine soff rfl rfl rfl rfl ?_
    refine soff rfl rfl rfl rfl ?_
    refine soff rfl rfl rfl rfl ?_
    refine soff rfl rfl rfl rfl ?_
    refine soff rfl rfl rfl rfl ?_
    refine sv rfl (opv_pick_f rfl rfl) ?_
    refine sv rfl (opv_as rfl) ?_
    refine snil ?_
    refine cret ?_
    obtain rfl := Option.some.inj h
    refine ⟨Or.inr rfl, _, _, _, (resVs_cons (ResV.tmp _ _ rfl) resVs_nil), (pubA_id rfl), ?_⟩
    rfl

def m43_pipe_saneWait_k1 (a0 : GPipePipe) (b1 : Unit) : Option Bool :=
  some (decide ((a0.Wait.length : Int) ≤ 8))

def m43_pipe_saneWait_k4 (s2 : Int × Int) (u3 : GMsgReq) (b4 : Unit) : Option (LR (Int × Int) (Unit) (Bool)) :=
  some (.cont ((wI (u3.Seq + 1)), (wI (s2.2 + 1))))

def m43_pipe_saneWait_s2 (a0 : GPipePipe) (s2 : Int × Int) : Option (LR (Int × Int) (Unit) (Bool)) :=
  if (decide (s2.2 < (a0.Wait.length : Int))) then ((idx a0.Wait s2.2).bind fun u3 => (m32_msg_SaneReq (GMsgReq.mk u3.Kind u3.Seq u3.Token u3.Attempt u3.RO u3.Key u3.Val (GApiRange.mk u3.Rng.Lo u3.Rng.Hi u3.Rng.Open))).bind fun v5 => if (!v5) then (some (.ret false)) else (if (decide (u3.Seq < s2.1)) then (some (.ret false)) else (if (decide ((wI (a0.Next + 8)) ≤ u3.Seq)) then (some (.ret false)) else (m43_pipe_saneWait_k4 s2 u3 ())))) else (some (.brk ()))
def m43_pipe_saneWait (a0 : GPipePipe) : Option Bool :=
  (iter (m43_pipe_saneWait_s2 a0) fuel (a0.Next, 0)).bind fun x => match x with | .inl r => some r | .inr e6 => m43_pipe_saneWait_k1 a0 e6

set_option maxRecDepth 100000 in
theorem m43_pipe_saneWait_c {a0 : GPipePipe} {r : Bool} (h : m43_pipe_saneWait a0 = some r) : CallsA Tryd.prog 43 [.agg [.i .i64 a0.Win.Base, .i .u64 (a0.Win.Bits.toNat : Int), .i .i64 a0.Next, .sl a0.Wait.length (a0.Wait.flatMap eGMsgReq), .sl a0.Past.length (a0.Past.flatMap eGMsgReply)]] (· = .s (.one (.b r))) := by
  unfold m43_pipe_saneWait at h
  refine callsA_of Tryd.func43 rfl (nt := 40) rfl (Nat.le_of_ble_eq_true rfl) ?_
  intro w0 S0
  refine cseq ?_
  refine cregion ?_
  refine sbox rfl rfl ?_
  refine sv rfl (opv_as rfl) ?_
  refine snil ?_
  refine cseq ?_
  refine cregion ?_
  refine sv rfl (opv_fieldAddr_lp fi46_1 rfl) ?_
  refine sv rfl (opv_load1 ti3 rfl (.lp _ _ _ rfl) rfl) ?_
  refine sv rfl (opv_as rfl) ?_
  refine snil ?_
  refine cseq ?_
  refine cseq ?_
  refine cregion ?_
  refine sv rfl (opv_fieldAddr_lp fi46_2 rfl) ?_
  refine sv rfl (opv_load1 ti43 rfl (.lp _ _ _ rfl) rfl) ?_
  refine sv rfl (opv_len_sl si43 rfl) ?_
  refine sv rfl (opv_mv rfl) ?_
  refine snil ?_
  refine cjoin (Unit) (fun b1 => [(1, .s (.one (.lp 0 0)))]) (fun b1 => [.box [.i .i64 a0.Win.Base, .i .u64 (a0.Win.Bits.toNat : Int), .i .i64 a0.Next, .sl a0.Wait.length (a0.Wait.flatMap eGMsgReq), .sl a0.Past.length (a0.Past.flatMap eGMsgReply)]]) (fun b1 => m43_pipe_saneWait_k1 a0 b1 = some r) (fun _ _ => inbL_of rfl) (fun _ _ => blkinb_of rfl) (fun _ _ => Nat.le_of_ble_eq_true rfl) (fun b1 h => ?_) ?_
  · unfold m43_pipe_saneWait_k1 at h
    refine cseq ?_
    refine cregion ?_
    refine sv rfl (opv_fieldAddr_lp fi46_2 rfl) ?_
    refine sv rfl (opv_load1 ti43 rfl (.lp _ _ _ rfl) rfl) ?_
    refine sv rfl (opv_len_sl si43 rfl) ?_
    refine sv rfl (opv_leq rfl rfl) ?_
    refine sv rfl (opv_as rfl) ?_
    refine snil ?_
    refine cret ?_
    obtain rfl := Option.some.inj h
    refine ⟨Or.inr rfl, _, _, _, (resVs_cons (ResV.tmp _ _ rfl) resVs_nil), (pubA_id rfl), ?_⟩
    rfl
  · skip
    refine cblock ?_
    obtain ⟨x2, hx2, ho2⟩ := bind_eq h
    refine awc_loop (G := Nat × (Int × Int)) (fun g => [(1, .s (.one (.lp 0 0))), (3, .s (.one (.i .i64 g.2.1))), (9, .s (.one (.sl a0.Wait.length (a0.Wait.flatMap eGMsgReq)))), (10, .s (.one (.i .i64 (a0.Wait.length : Int)))), (11, .s (.one (.i .i64 g.2.2)))]) (fun g => [.box [.i .i64 a0.Win.Base, .i .u64 (a0.Win.Bits.toNat : Int), .i .i64 a0.Next, .sl a0.Wait.length (a0.Wait.flatMap eGMsgReq), .sl a0.Past.length (a0.Past.flatMap eGMsgReply)]]) (fun g => iter (m43_pipe_saneWait_s2 a0) g.1 g.2 = some x2) (fun g => g.1) (fuel, (a0.Next, 0)) hx2 ⟨rfl, rfl, rfl, rfl, rfl, trivial⟩ [] rfl (fun _ _ => inbL_of rfl) (fun _ _ => blkinb_of rfl) (fun _ _ => Nat.le_of_ble_eq_true rfl) ?_
    clear hx2 h
    rintro ⟨n2, s2⟩ h
    obtain ⟨n2, y2, rfl, h, hk2⟩ := iter_eq h
    unfold m43_pipe_saneWait_s2 at h
    refine cseq ?_
    refine cregion ?_
    refine sv rfl (opv_lss rfl rfl) ?_
    refine snil ?_
    refine cseq ?_
    refine ccond rfl (fun hc => ?_) (fun hc => ?_)
    · replace h := ite_t hc h
      clear hc
      refine cskip ?_
      refine then_normal ?_
      refine cseq ?_
      refine cblock ?_
      refine cseq ?_
      refine cregion ?_
      obtain ⟨u3, hu3, h⟩ := bind_eq h
      refine sv rfl (opv_ix (f := eGMsgReq) si43 (fun _ => rfl) rfl rfl rfl rfl hu3) ?_
      refine sv rfl (opv_loadNe (ys := [.i .i64 u3.Kind, .i .i64 u3.Seq, .i .i64 u3.Token, .i .i64 u3.Attempt, .b u3.RO, .sl u3.Key.length (u3.Key.flatMap eU8), .sl u3.Val.length (u3.Val.flatMap eU8), .sl u3.Rng.Lo.length (u3.Rng.Lo.flatMap eU8), .sl u3.Rng.Hi.length (u3.Rng.Hi.flatMap eU8), .b u3.Rng.Open]) ti51 rfl (.cp _) rfl rfl) ?_
      refine salloc rfl zi51 ?_
      refine sstore sz51 rfl rfl rfl rfl (Nat.le_of_ble_eq_true rfl) ?_
      refine smem [.box [.i .i64 a0.Win.Base, .i .u64 (a0.Win.Bits.toNat : Int), .i .i64 a0.Next, .sl a0.Wait.length (a0.Wait.flatMap eGMsgReq), .sl a0.Past.length (a0.Past.flatMap eGMsgReply)], .box [.i .i64 u3.Kind, .i .i64 u3.Seq, .i .i64 u3.Token, .i .i64 u3.Attempt, .b u3.RO, .sl u3.Key.length (u3.Key.flatMap eU8), .sl u3.Val.length (u3.Val.flatMap eU8), .sl u3.Rng.Lo.length (u3.Rng.Lo.flatMap eU8), .sl u3.Rng.Hi.length (u3.Rng.Hi.flatMap eU8), .b u3.Rng.Open]] rfl ?_
      refine snil ?_
      refine cseq ?_
      refine cseq ?_
      refine cjoin3 (Unit) (fun b4 => [(1, .s (.one (.lp 0 0))), (5, .s (.one (.lp 1 0))), (9, .s (.one (.sl a0.Wait.length (a0.Wait.flatMap eGMsgReq)))), (10, .s (.one (.i .i64 (a0.Wait.length : Int)))), (11, .s (.one (.i .i64 s2.2)))]) (fun b4 => [.box [.i .i64 a0.Win.Base, .i .u64 (a0.Win.Bits.toNat : Int), .i .i64 a0.Next, .sl a0.Wait.length (a0.Wait.flatMap eGMsgReq), .sl a0.Past.length (a0.Past.flatMap eGMsgReply)], .box [.i .i64 u3.Kind, .i .i64 u3.Seq, .i .i64 u3.Token, .i .i64 u3.Attempt, .b u3.RO, .sl u3.Key.length (u3.Key.flatMap eU8), .sl u3.Val.length (u3.Val.flatMap eU8), .sl u3.Rng.Lo.length (u3.Rng.Lo.flatMap eU8), .sl u3.Rng.Hi.length (u3.Rng.Hi.flatMap eU8), .b u3.Rng.Open]]) (fun b4 => m43_pipe_saneWait_k4 s2 u3 b4 = some y2) (fun _ _ => inbL_of rfl) (fun _ _ => blkinb_of rfl) (fun _ _ => Nat.le_of_ble_eq_true rfl) (fun b4 h => ?_) ?_
      · unfold m43_pipe_saneWait_k4 at h
        refine cregion ?_
        refine sv rfl (opv_fieldAddr_lp fi51_1 rfl) ?_
        refine sv rfl (opv_load1 ti3 rfl (.lp _ _ _ rfl) rfl) ?_
        refine sv rfl (opv_add rfl rfl) ?_
        refine sv rfl (opv_as rfl) ?_
        refine snil0 ?_
        refine block_normal ?_
        refine then_normal ?_
        refine cregion ?_
        refine sv rfl (opv_add rfl rfl) ?_
        refine sv rfl (opv_mv rfl) ?_
        refine snil ?_
        obtain rfl := Option.some.inj h
        exact ⟨(n2, ((wI (u3.Seq + 1)), (wI (s2.2 + 1)))), _, hk2, ⟨rfl, rfl, rfl, rfl, rfl, trivial⟩, rfl, Nat.lt_succ_self _⟩
      · skip
        refine cregion ?_
        refine sv rfl (opv_loadN ti51 rfl (.lp _ _ _ rfl) (Nat.le_of_ble_eq_true rfl)) ?_
        obtain ⟨v5, hv5, h⟩ := bind_eq h
        refine scall1 rfl fn32 (opnds_cons rfl opnds_nil) (pubA_id rfl) (m32_msg_SaneReq_c hv5) ?_
        refine sv rfl (opv_not rfl) ?_
        refine sv rfl (opv_mv rfl) ?_
        refine ssplit 18 rfl (fun hc => ?_) (fun hc => ?_)
        · replace h := ite_t hc h
          clear hc
          refine soff rfl rfl rfl rfl ?_
          refine soff rfl rfl rfl rfl ?_
          refine soff rfl rfl rfl rfl ?_
          refine soff rfl rfl rfl rfl ?_
          refine sv rfl (opv_pick_t rfl rfl) ?_
          refine sv rfl (opv_mv rfl) ?_
          refine soff rfl rfl rfl rfl ?_
          refine soff rfl rfl rfl rfl ?_
          refine soff rfl rfl rfl rfl ?_
          refine soff rfl rfl rfl rfl ?_
          refine soff rfl rfl rfl rfl ?_
          refine soff rfl rfl rfl rfl ?_
          refine sv rfl (opv_pick_t rfl rfl) ?_
          refine snil ?_
          refine ccond rfl (fun _ => ?_) (fun hx => Bool.noConfusion hx)
          refine cseq ?_
          refine cregion ?_
          refine sv rfl (opv_as rfl) ?_
          refine snil ?_
          refine cret ?_
          refine then_ret ?_
          refine block_ret ?_
          refine then_ret ?_
          refine then_ret ?_
          refine block_ret ?_
          refine then_ret ?_
          obtain rfl := Option.some.inj h
          obtain rfl : Sum.inl _ = x2 := hk2
          replace ho2 : some _ = some _ := ho2
          obtain rfl := Option.some.inj ho2
          refine ⟨Or.inr rfl, _, _, _, (resVs_cons (ResV.tmp _ _ rfl) resVs_nil), (pubA_id rfl), ?_⟩
          rfl
        · replace h := ite_f hc h
          clear hc
          refine son rfl rfl rfl ?_
          refine sv rfl (opv_fieldAddr_lp fi51_1 rfl) ?_
          refine son rfl rfl rfl ?_
          refine sv rfl (opv_load1 ti3 rfl (.lp _ _ _ rfl) rfl) ?_
          refine son rfl rfl rfl ?_
          refine sv rfl (opv_mv rfl) ?_
          refine son rfl rfl rfl ?_
          refine sv rfl (opv_lss rfl rfl) ?_
          refine sv rfl (opv_pick_f rfl rfl) ?_
          refine sv rfl (opv_mv rfl) ?_
          refine ssplit 24 rfl (fun hc => ?_) (fun hc => ?_)
          · replace h := ite_t hc h
            clear hc
            refine soff rfl rfl rfl rfl ?_
            refine soff rfl rfl rfl rfl ?_
            refine soff rfl rfl rfl rfl ?_
            refine soff rfl rfl rfl rfl ?_
            refine soff rfl rfl rfl rfl ?_
            refine soff rfl rfl rfl rfl ?_
            refine sv rfl (opv_pick_t rfl rfl) ?_
            refine snil ?_
            refine ccond rfl (fun _ => ?_) (fun hx => Bool.noConfusion hx)
            refine cseq ?_
            refine cregion ?_
            refine sv rfl (opv_as rfl) ?_
            refine snil ?_
            refine cret ?_
            refine then_ret ?_
            refine block_ret ?_
            refine then_ret ?_
            refine then_ret ?_
            refine block_ret ?_
            refine then_ret ?_
            obtain rfl := Option.some.inj h
            obtain rfl : Sum.inl _ = x2 := hk2
            replace ho2 : some _ = some _ := ho2
            obtain rfl := Option.some.inj ho2
            refine ⟨Or.inr rfl, _, _, _, (resVs_cons (ResV.tmp _ _ rfl) resVs_nil), (pubA_id rfl), ?_⟩
            rfl
          · replace h := ite_f hc h
            clear hc
            refine son rfl rfl rfl ?_
            refine sv rfl (opv_fieldAddr_lp fi51_1 rfl) ?_
            refine son rfl rfl rfl ?_
            refine sv rfl (opv_load1 ti3 rfl (.lp _ _ _ rfl) rfl) ?_
            refine son rfl rfl rfl ?_
            refine sv rfl (opv_fieldAddr_lp fi46_1 rfl) ?_
            refine son rfl rfl rfl ?_
            refine sv rfl (opv_load1 ti3 rfl (.lp _ _ _ rfl) rfl) ?_
            refine son rfl rfl rfl ?_
            refine sv rfl (opv_add rfl rfl) ?_
            refine son rfl rfl rfl ?_
            refine sv rfl (opv_geq rfl rfl) ?_
            refine sv rfl (opv_pick_f rfl rfl) ?_
            refine snil ?_
            refine ccond rfl (fun hc => ?_) (fun hc => ?_)
            · replace h := ite_t hc h
              clear hc
              refine cseq ?_
              refine cregion ?_
              refine sv rfl (opv_as rfl) ?_
              refine snil ?_
              refine cret ?_
              refine then_ret ?_
              refine block_ret ?_
              refine then_ret ?_
              refine then_ret ?_
              refine block_ret ?_
              refine then_ret ?_
              obtain rfl := Option.some.inj h
              obtain rfl : Sum.inl _ = x2 := hk2
              replace ho2 : some _ = some _ := ho2
              obtain rfl := Option.some.inj ho2
              refine ⟨Or.inr rfl, _, _, _, (resVs_cons (ResV.tmp _ _ rfl) resVs_nil), (pubA_id rfl), ?_⟩
              rfl
            · replace h := ite_f hc h
              clear hc
              refine cskip ?_
              refine then_normal ?_
              exact ⟨(), _, h, ⟨rfl, rfl, rfl, rfl, rfl, trivial⟩, rfl⟩
    · replace h := ite_f hc h
      clear hc
      refine cexit ?_
      refine then_exit ?_
      refine then_exit ?_
      refine block_hit ?_
      refine then_normal ?_
      obtain rfl := Option.some.inj h
      obtain rfl : _ = x2 := hk2
      exact ⟨(), _, ho2, ⟨rfl, trivial⟩, rfl⟩

def m38_msg_SaneReply_k1 (a0 : GMsgReply) (b1 : Unit) : Option Bool :=
  if (decide (a0.Kind = 0)) then ((m58_msg_within a0.Seq 4294967295).bind fun v2 => if v2 then ((m58_msg_within a0.Code 255).bind fun v3 => if v3 then ((m58_msg_within a0.N 1099511627776).bind fun v4 => if v4 then ((m60_msg_saneBytes a0.Found a0.Val 0 32).bind fun v5 => if v5 then (some (decide ((a0.List.length : Int) ≤ 8))) else (some false)) else (some false)) else (some false)) else (some false)) else ((m57_msg_isKind a0.Kind).bind fun v6 => if v6 then ((m58_msg_within a0.Seq 4294967295).bind fun v7 => if v7 then ((m58_msg_within a0.Code 255).bind fun v8 => if v8 then ((m58_msg_within a0.N 1099511627776).bind fun v9 => if v9 then ((m60_msg_saneBytes a0.Found a0.Val 0 32).bind fun v10 => if v10 then (some (decide ((a0.List.length : Int) ≤ 8))) else (some false)) else (some false)) else (some false)) else (some false)) else (some false))

def m38_msg_SaneReply_s11 (a0 : GMsgReply) (s11 : Int) : Option (LR (Int) (Unit) (Bool)) :=
  if (decide (s11 < (a0.List.length : Int))) then ((idx a0.List s11).bind fun u12 => (m60_msg_saneBytes true u12.Key 1 16).bind fun v13 => if (!v13) then (some (.ret false)) else (if (decide (32 < (u12.Val.length : Int))) then (some (.ret false)) else (some (.cont (wI (s11 + 1)))))) else (some (.brk ()))
def m38_msg_SaneReply (a0 : GMsgReply) : Option Bool :=
  (iter (m38_msg_SaneReply_s11 a0) fuel 0).bind fun x => match x with | .inl r => some r | .inr e14 => m38_msg_SaneReply_k1 a0 e14

set_option maxRecDepth 100000 in
theorem m38_msg_SaneReply_c {a0 : GMsgReply} {r : Bool} (h : m38_msg_SaneReply a0 = some r) : CallsA Tryd.prog 38 [.agg [.i .i64 a0.Kind, .i .i64 a0.Seq, .i .i64 a0.Code, .i .i64 a0.N, .b a0.Found, .sl a0.Val.length (a0.Val.flatMap eU8), .sl a0.List.length (a0.List.flatMap eGApiKV)]] (· = .s (.one (.b r))) := by
  unfold m38_msg_SaneReply at h
  refine callsA_of Tryd.func38 rfl (nt := 59) rfl (Nat.le_of_ble_eq_true rfl) ?_
  intro w0 S0
  refine cseq ?_
  refine cregion ?_
  refine sbox rfl rfl ?_
  refine sv rfl (opv_as rfl) ?_
  refine snil ?_
  refine cseq ?_
  refine cseq ?_
  refine cregion ?_
  refine sv rfl (opv_fieldAddr_lp fi48_6 rfl) ?_
  refine sv rfl (opv_load1 ti35 rfl (.lp _ _ _ rfl) rfl) ?_
  refine sv rfl (opv_len_sl si35 rfl) ?_
  refine sv rfl (opv_mv rfl) ?_
  refine snil ?_
  refine cjoin (Unit) (fun b1 => [(1, .s (.one (.lp 0 0)))]) (fun b1 => [.box [.i .i64 a0.Kind, .i .i64 a0.Seq, .i .i64 a0.Code, .i .i64 a0.N, .b a0.Found, .sl a0.Val.length (a0.Val.flatMap eU8), .sl a0.List.length (a0.List.flatMap eGApiKV)]]) (fun b1 => m38_msg_SaneReply_k1 a0 b1 = some r) (fun _ _ => inbL_of rfl) (fun _ _ => blkinb_of rfl) (fun _ _ => Nat.le_of_ble_eq_true rfl) (fun b1 h => ?_) ?_
  · unfold m38_msg_SaneReply_k1 at h
    refine cseq ?_
    refine cregion ?_
    refine sv rfl (opv_fieldAddr_lp fi48_0 rfl) ?_
    refine sv rfl (opv_load1 ti3 rfl (.lp _ _ _ rfl) rfl) ?_
    refine sv rfl (opv_ieql rfl rfl) ?_
    refine sv rfl (opv_mv rfl) ?_
    refine ssplit 26 rfl (fun hc => ?_) (fun hc => ?_)
    · replace h := ite_t hc h
      clear hc
      refine soff rfl rfl rfl rfl ?_
      refine soff rfl rfl rfl rfl ?_
      refine soff rfl rfl rfl rfl ?_
      refine sv rfl (opv_pick_t rfl rfl) ?_
      refine sv rfl (opv_mv rfl) ?_
      refine son rfl rfl rfl ?_
      refine sv rfl (opv_fieldAddr_lp fi48_1 rfl) ?_
      refine son rfl rfl rfl ?_
      refine sv rfl (opv_load1 ti3 rfl (.lp _ _ _ rfl) rfl) ?_
      refine son rfl rfl rfl ?_
      obtain ⟨v2, hv2, h⟩ := bind_eq h
      refine scall1 rfl fn58 (opnds_cons rfl (opnds_cons rfl opnds_nil)) (pubA_id rfl) (m58_msg_within_c hv2) ?_
      refine sv rfl (opv_pick_t rfl rfl) ?_
      refine sv rfl (opv_mv rfl) ?_
      refine ssplit 36 rfl (fun hc => ?_) (fun hc => ?_)
      · replace h := ite_t hc h
        clear hc
        refine son rfl rfl rfl ?_
        refine sv rfl (opv_fieldAddr_lp fi48_2 rfl) ?_
        refine son rfl rfl rfl ?_
        refine sv rfl (opv_load1 ti34 rfl (.lp _ _ _ rfl) rfl) ?_
        refine son rfl rfl rfl ?_
        obtain ⟨v3, hv3, h⟩ := bind_eq h
        refine scall1 rfl fn58 (opnds_cons rfl (opnds_cons rfl opnds_nil)) (pubA_id rfl) (m58_msg_within_c hv3) ?_
        refine sv rfl (opv_pick_t rfl rfl) ?_
        refine sv rfl (opv_mv rfl) ?_
        refine ssplit 41 rfl (fun hc => ?_) (fun hc => ?_)
        · replace h := ite_t hc h
          clear hc
          refine son rfl rfl rfl ?_
          refine sv rfl (opv_fieldAddr_lp fi48_3 rfl) ?_
          refine son rfl rfl rfl ?_
          refine sv rfl (opv_load1 ti3 rfl (.lp _ _ _ rfl) rfl) ?_
          refine son rfl rfl rfl ?_
          obtain ⟨v4, hv4, h⟩ := bind_eq h
          refine scall1 rfl fn58 (opnds_cons rfl (opnds_cons rfl opnds_nil)) (pubA_id rfl) (m58_msg_within_c hv4) ?_
          refine sv rfl (opv_pick_t rfl rfl) ?_
          refine sv rfl (opv_mv rfl) ?_
          refine ssplit 46 rfl (fun hc => ?_) (fun hc => ?_)
          · replace h := ite_t hc h
            clear hc
            refine son rfl rfl rfl ?_
            refine sv rfl (opv_fieldAddr_lp fi48_4 rfl) ?_
            refine son rfl rfl rfl ?_
            refine sv rfl (opv_load1 ti4 rfl (.lp _ _ _ rfl) rfl) ?_
            refine son rfl rfl rfl ?_
            refine sv rfl (opv_fieldAddr_lp fi48_5 rfl) ?_
            refine son rfl rfl rfl ?_
            refine sv rfl (opv_load1 ti29 rfl (.lp _ _ _ rfl) rfl) ?_
            refine son rfl rfl rfl ?_
            obtain ⟨v5, hv5, h⟩ := bind_eq h
            refine scall1 rfl fn60 (opnds_cons rfl (opnds_cons rfl (opnds_cons rfl (opnds_cons rfl opnds_nil)))) (pubA_id rfl) (m60_msg_saneBytes_c hv5) ?_
            refine sv rfl (opv_pick_t rfl rfl) ?_
            refine sv rfl (opv_mv rfl) ?_
            refine ssplit 53 rfl (fun hc => ?_) (fun hc => ?_)
            · replace h := ite_t hc h
              clear hc
              refine son rfl rfl rfl ?_
              refine sv rfl (opv_fieldAddr_lp fi48_6 rfl) ?_
              refine son rfl rfl rfl ?_
              refine sv rfl (opv_load1 ti35 rfl (.lp _ _ _ rfl) rfl) ?_
              refine son rfl rfl rfl ?_
              refine sv rfl (opv_len_sl si35 rfl) ?_
              refine son rfl rfl rfl ?_
              refine sv rfl (opv_leq rfl rfl) ?_
              refine sv rfl (opv_pick_t rfl rfl) ?_
              refine sv rfl (opv_as rfl) ?_
              refine snil ?_
              refine cret ?_
              obtain rfl := Option.some.inj h
              refine ⟨Or.inr rfl, _, _, _, (resVs_cons (ResV.tmp _ _ rfl) resVs_nil), (pubA_id rfl), ?_⟩
              rfl
            · replace h := ite_f hc h
              clear hc
              refine soff rfl rfl rfl rfl ?_
              refine soff rfl rfl rfl rfl ?_
              refine soff rfl rfl rfl rfl ?_
              refine soff rfl rfl rfl rfl ?_
              refine sv rfl (opv_pick_f rfl rfl) ?_
              refine sv rfl (opv_as rfl) ?_
              refine snil ?_
              refine cret ?_
              obtain rfl := Option.some.inj h
              refine ⟨Or.inr rfl, _, _, _, (resVs_cons (ResV.tmp _ _ rfl) resVs_nil), (pubA_id rfl), ?_⟩
              rfl
          · replace h := ite_f hc h
            clear hc
            refine soff rfl rfl rfl rfl ?_
            refine soff rfl rfl rfl rfl ?_
            refine soff rfl rfl rfl rfl ?_
            refine soff rfl rfl rfl rfl ?_
            refine soff rfl rfl rfl rfl ?_
            refine sv rfl (opv_pick_f rfl rfl) ?_
            refine sv rfl (opv_mv rfl) ?_
            refine soff rfl rfl rfl rfl ?_
            refine soff rfl rfl rfl rfl ?_
            refine soff rfl rfl rfl rfl ?_
            refine soff rfl rfl rfl rfl ?_
            refine sv rfl (opv_pick_f rfl rfl) ?_
            refine sv rfl (opv_as rfl) ?_
            refine snil ?_
            refine cret ?_
            obtain rfl := Option.some.inj h
            refine ⟨Or.inr rfl, _, _, _, (resVs_cons (ResV.tmp _ _ rfl) resVs_nil), (pubA_id rfl), ?_⟩
            rfl
        · replace h := ite_f hc h
          clear hc
          refine soff rfl rfl rfl rfl ?_
          refine soff rfl rfl rfl rfl ?_
          refine soff rfl rfl rfl rfl ?_
          refine sv rfl (opv_pick_f rfl rfl) ?_
          refine sv rfl (opv_mv rfl) ?_
          refine soff rfl rfl rfl rfl ?_
          refine soff rfl rfl rfl rfl ?_
          refine soff rfl rfl rfl rfl ?_
          refine soff rfl rfl rfl rfl ?_
          refine soff rfl rfl rfl rfl ?_
          refine sv rfl (opv_pick_f rfl rfl) ?_
          refine sv rfl (opv_mv rfl) ?_
          refine soff rfl rfl rfl rfl ?_
          refine soff rfl rfl rfl rfl ?_
          refine soff rfl rfl rfl rfl ?_
          refine soff rfl rfl rfl rfl ?_
          refine sv rfl (opv_pick_f rfl rfl) ?_
          refine sv rfl (opv_as rfl) ?_
          refine snil ?_
          refine cret ?_
          obtain rfl := Option.some.inj h
          refine ⟨Or.inr rfl, _, _, _, (resVs_cons (ResV.tmp _ _ rfl) resVs_nil), (pubA_id rfl), ?_⟩
          rfl
      · replace h := ite_f hc h
        clear hc
        refine soff rfl rfl rfl rfl ?_
        refine soff rfl rfl rfl rfl ?_
        refine soff rfl rfl rfl rfl ?_
        refine sv rfl (opv_pick_f rfl rfl) ?_
        refine sv rfl (opv_mv rfl) ?_
        refine soff rfl rfl rfl rfl ?_
        refine soff rfl rfl rfl rfl ?_
        refine soff rfl rfl rfl rfl ?_
        refine sv rfl (opv_pick_f rfl rfl) ?_
        refine sv rfl (opv_mv rfl) ?_
        refine soff rfl rfl rfl rfl ?_
        refine soff rfl rfl rfl rfl ?_
        refine soff rfl rfl rfl rfl ?_
        refine soff rfl rfl rfl rfl ?_
        refine soff rfl rfl rfl rfl ?_
        refine sv rfl (opv_pick_f rfl rfl) ?_
        refine sv rfl (opv_mv rfl) ?_
        refine soff rfl rfl rfl rfl ?_
        refine soff rfl rfl rfl rfl ?_
        refine soff rfl rfl rfl rfl ?_
        refine soff rfl rfl rfl rfl ?_
        refine sv rfl (opv_pick_f rfl rfl) ?_
        refine sv rfl (opv_as rfl) ?_
        refine snil ?_
        refine cret ?_
        obtain rfl := Option.some.inj h
        refine ⟨Or.inr rfl, _, _, _, (resVs_cons (ResV.tmp _ _ rfl) resVs_nil), (pubA_id rfl), ?_⟩
        rfl
    · replace h := ite_f hc h
      clear hc
      refine son rfl rfl rfl ?_
      refine sv rfl (opv_fieldAddr_lp fi48_0 rfl) ?_
      refine son rfl rfl rfl ?_
      refine sv rfl (opv_load1 ti3 rfl (.lp _ _ _ rfl) rfl) ?_
      refine son rfl rfl rfl ?_
      obtain ⟨v6, hv6, h⟩ := bind_eq h
      refine scall1 rfl fn57 (opnds_cons rfl opnds_nil) (pubA_id rfl) (m57_msg_isKind_c hv6) ?_
      refine sv rfl (opv_pick_f rfl rfl) ?_
      refine sv rfl (opv_mv rfl) ?_
      refine ssplit 31 rfl (fun hc => ?_) (fun hc => ?_)
      · replace h := ite_t hc h
        clear hc
        refine son rfl rfl rfl ?_
        refine sv rfl (opv_fieldAddr_lp fi48_1 rfl) ?_
        refine son rfl rfl rfl ?_
        refine sv rfl (opv_load1 ti3 rfl (.lp _ _ _ rfl) rfl) ?_
        refine son rfl rfl rfl ?_
        obtain ⟨v7, hv7, h⟩ := bind_eq h
        refine scall1 rfl fn58 (opnds_cons rfl (opnds_cons rfl opnds_nil)) (pubA_id rfl) (m58_msg_within_c hv7) ?_
        refine sv rfl (opv_pick_t rfl rfl) ?_
        refine sv rfl (opv_mv rfl) ?_
        refine ssplit 36 rfl (fun hc => ?_) (fun hc => ?_)
        · replace h := ite_t hc h
          clear hc
          refine son rfl rfl rfl ?_
          refine sv rfl (opv_fieldAddr_lp fi48_2 rfl) ?_
          refine son rfl rfl rfl ?_
          refine sv rfl (opv_load1 ti34 rfl (.lp _ _ _ rfl) rfl) ?_
          refine son rfl rfl rfl ?_
          obtain ⟨v8, hv8, h⟩ := bind_eq h
          refine scall1 rfl fn58 (opnds_cons rfl (opnds_cons rfl opnds_nil)) (pubA_id rfl) (m58_msg_within_c hv8) ?_
          refine sv rfl (opv_pick_t rfl rfl) ?_
          refine sv rfl (opv_mv rfl) ?_
          refine ssplit 41 rfl (fun hc => ?_) (fun hc => ?_)
          · replace h := ite_t hc h
            clear hc
            refine son rfl rfl rfl ?_
            refine sv rfl (opv_fieldAddr_lp fi48_3 rfl) ?_
            refine son rfl rfl rfl ?_
            refine sv rfl (opv_load1 ti3 rfl (.lp _ _ _ rfl) rfl) ?_
            refine son rfl rfl rfl ?_
            obtain ⟨v9, hv9, h⟩ := bind_eq h
            refine scall1 rfl fn58 (opnds_cons rfl (opnds_cons rfl opnds_nil)) (pubA_id rfl) (m58_msg_within_c hv9) ?_
            refine sv rfl (opv_pick_t rfl rfl) ?_
            refine sv rfl (opv_mv rfl) ?_
            refine ssplit 46 rfl (fun hc => ?_) (fun hc => ?_)
            · replace h := ite_t hc h
              clear hc
              refine son rfl rfl rfl ?_
              refine sv rfl (opv_fieldAddr_lp fi48_4 rfl) ?_
              refine son rfl rfl rfl ?_
              refine sv rfl (opv_load1 ti4 rfl (.lp _ _ _ rfl) rfl) ?_
              refine son rfl rfl rfl ?_
              refine sv rfl (opv_fieldAddr_lp fi48_5 rfl) ?_
              refine son rfl rfl rfl ?_
              refine sv rfl (opv_load1 ti29 rfl (.lp _ _ _ rfl) rfl) ?_
              refine son rfl rfl rfl ?_
              obtain ⟨v10, hv10, h⟩ := bind_eq h
              refine scall1 rfl fn60 (opnds_cons rfl (opnds_cons rfl (opnds_cons rfl (opnds_cons rfl opnds_nil)))) (pubA_id rfl) (m60_msg_saneBytes_c hv10) ?_
              refine sv rfl (opv_pick_t rfl rfl) ?_
              refine sv rfl (opv_mv rfl) ?_
              refine ssplit 53 rfl (fun hc => ?_) (fun hc => ?_)
              · replace h := ite_t hc h
                clear hc
                refine son rfl rfl rfl ?_
                refine sv rfl (opv_fieldAddr_lp fi48_6 rfl) ?_
                refine son rfl rfl rfl ?_
                refine sv rfl (opv_load1 ti35 rfl (.lp _ _ _ rfl) rfl) ?_
                refine son rfl rfl rfl ?_
                refine sv rfl (opv_len_sl si35 rfl) ?_
                refine son rfl rfl rfl ?_
                refine sv rfl (opv_leq rfl rfl) ?_
                refine sv rfl (opv_pick_t rfl rfl) ?_
                refine sv rfl (opv_as rfl) ?_
                refine snil ?_
                refine cret ?_
                obtain rfl := Option.some.inj h
                refine ⟨Or.inr rfl, _, _, _, (resVs_cons (ResV.tmp _ _ rfl) resVs_nil), (pubA_id rfl), ?_⟩
                rfl
              · replace h := ite_f hc h
                clear hc
                refine soff rfl rfl rfl rfl ?_
                refine soff rfl rfl rfl rfl ?_
                refine soff rfl rfl rfl rfl ?_
                refine soff rfl rfl rfl rfl ?_
                refine sv rfl (opv_pick_f rfl rfl) ?_
                refine sv rfl (opv_as rfl) ?_
                refine snil ?_
                refine cret ?_
                obtain rfl := Option.some.inj h
                refine ⟨Or.inr rfl, _, _, _, (resVs_cons (ResV.tmp _ _ rfl) resVs_nil), (pubA_id rfl), ?_⟩
                rfl
            · replace h := ite_f hc h
              clear hc
              refine soff rfl rfl rfl rfl ?_
              refine soff rfl rfl rfl rfl ?_
              refine soff rfl rfl rfl rfl ?_
              refine soff rfl rfl rfl rfl ?_
              refine soff rfl rfl rfl rfl ?_
              refine sv rfl (opv_pick_f rfl rfl) ?_
              refine sv rfl (opv_mv rfl) ?_
              refine soff rfl rfl rfl rfl ?_
              refine soff rfl rfl rfl rfl ?_
              refine soff rfl rfl rfl rfl ?_
              refine soff rfl rfl rfl rfl ?_
              refine sv rfl (opv_pick_f rfl rfl) ?_
              refine sv rfl (opv_as rfl) ?_
              refine snil ?_
              refine cret ?_
              obtain rfl := Option.some.inj h
              refine ⟨Or.inr rfl, _, _, _, (resVs_cons (ResV.tmp _ _ rfl) resVs_nil), (pubA_id rfl), ?_⟩
              rfl
          · replace h := ite_f hc h
            clear hc
            refine soff rfl rfl rfl rfl ?_
            refine soff rfl rfl rfl rfl ?_
            refine soff rfl rfl rfl rfl ?_
            refine sv rfl (opv_pick_f rfl rfl) ?_
            refine sv rfl (opv_mv rfl) ?_
            refine soff rfl rfl rfl rfl ?_
            refine soff rfl rfl rfl rfl ?_
            refine soff rfl rfl rfl rfl ?_
            refine soff rfl rfl rfl rfl ?_
            refine soff rfl rfl rfl rfl ?_
            refine sv rfl (opv_pick_f rfl rfl) ?_
            refine sv rfl (opv_mv rfl) ?_
            refine soff rfl rfl rfl rfl ?_
            refine soff rfl rfl rfl rfl ?_
            refine soff rfl rfl rfl rfl ?_
            refine soff rfl rfl rfl rfl ?_
            refine sv rfl (opv_pick_f rfl rfl) ?_
            refine sv rfl (opv_as rfl) ?_
            refine snil ?_
            refine cret ?_
            obtain rfl := Option.some.inj h
            refine ⟨Or.inr rfl, _, _, _, (resVs_cons (ResV.tmp _ _ rfl) resVs_nil), (pubA_id rfl), ?_⟩
            rfl
        · replace h := ite_f hc h
          clear hc
          refine soff rfl rfl rfl rfl ?_
          refine soff rfl rfl rfl rfl ?_
          refine soff rfl rfl rfl rfl ?_
          refine sv rfl (opv_pick_f rfl rfl) ?_
          refine sv rfl (opv_mv rfl) ?_
          refine soff rfl rfl rfl rfl ?_
          refine soff rfl rfl rfl rfl ?_
          refine soff rfl rfl rfl rfl ?_
          refine sv rfl (opv_pick_f rfl rfl) ?_
          refine sv rfl (opv_mv rfl) ?_
          refine soff rfl rfl rfl rfl ?_
          refine soff rfl rfl rfl rfl ?_
          refine soff rfl rfl rfl rfl ?_
          refine soff rfl rfl rfl rfl ?_
          refine soff rfl rfl rfl rfl ?_
          refine sv rfl (opv_pick_f rfl rfl) ?_
          refine sv rfl (opv_mv rfl) ?_
          refine soff rfl rfl rfl rfl ?_
          refine soff rfl rfl rfl rfl ?_
          refine soff rfl rfl rfl rfl ?_
          refine soff rfl rfl rfl rfl ?_
          refine sv rfl (opv_pick_f rfl rfl) ?_
          refine sv rfl (opv_as rfl) ?_
          refine snil ?_
          refine cret ?_
          obtain rfl := Option.some.inj h
          refine ⟨Or.inr rfl, _, _, _, (resVs_cons (ResV.tmp _ _ rfl) resVs_nil), (pubA_id rfl), ?_⟩
          rfl
      · replace h := ite_f hc h
        clear hc
        refine soff rfl rfl rfl rfl ?_
        refine soff rfl rfl rfl rfl ?_
        refine soff rfl rfl rfl rfl ?_
        refine sv rfl (opv_pick_f rfl rfl) ?_
        refine sv rfl (opv_mv rfl) ?_
        refine soff rfl rfl rfl rfl ?_
        refine soff rfl rfl rfl rfl ?_
        refine soff rfl rfl rfl rfl ?_
        refine sv rfl (opv_pick_f rfl rfl) ?_
        refine sv rfl (opv_mv rfl) ?_
        refine soff rfl rfl rfl rfl ?_
        refine soff rfl rfl rfl rfl ?_
        refine soff rfl rfl rfl rfl ?_
        refine sv rfl (opv_pick_f rfl rfl) ?_
        refine sv rfl (opv_mv rfl) ?_
        refine soff rfl rfl rfl rfl ?_
        refine soff rfl rfl rfl rfl ?_
        refine soff rfl rfl rfl rfl ?_
        refine soff rfl rfl rfl rfl ?_
        refine soff rfl rfl rfl rfl ?_
        refine sv rfl (opv_pick_f rfl rfl) ?_
        refine sv rfl (opv_mv rfl) ?_
        refine soff rfl rfl rfl rfl ?_
        refine soff rfl rfl rfl rfl ?_
        refine soff rfl rfl rfl rfl ?_
        refine soff rfl rfl rfl rfl ?_
        refine sv rfl (opv_pick_f rfl rfl) ?_
        refine sv rfl (opv_as rfl) ?_
        refine snil ?_
        refine cret ?_
        obtain rfl := Option.some.inj h
        refine ⟨Or.inr rfl, _, _, _, (resVs_cons (ResV.tmp _ _ rfl) resVs_nil), (pubA_id rfl), ?_⟩
        rfl
  · skip
    refine cblock ?_
    obtain ⟨x11, hx11, ho11⟩ := bind_eq h
    refine awc_loop (G := Nat × (Int)) (fun g => [(1, .s (.one (.lp 0 0))), (6, .s (.one (.sl a0.List.length (a0.List.flatMap eGApiKV)))), (7, .s (.one (.i .i64 (a0.List.length : Int)))), (8, .s (.one (.i .i64 g.2)))]) (fun g => [.box [.i .i64 a0.Kind, .i .i64 a0.Seq, .i .i64 a0.Code, .i .i64 a0.N, .b a0.Found, .sl a0.Val.length (a0.Val.flatMap eU8), .sl a0.List.length (a0.List.flatMap eGApiKV)]]) (fun g => iter (m38_msg_SaneReply_s11 a0) g.1 g.2 = some x11) (fun g => g.1) (fuel, 0) hx11 ⟨rfl, rfl, rfl, rfl, trivial⟩ [] rfl (fun _ _ => inbL_of rfl) (fun _ _ => blkinb_of rfl) (fun _ _ => Nat.le_of_ble_eq_true rfl) ?_
    clear hx11 h
    rintro ⟨n11, s11⟩ h
    obtain ⟨n11, y11, rfl, h, hk11⟩ := iter_eq h
    unfold m38_msg_SaneReply_s11 at h
    refine cseq ?_
    refine cregion ?_
    refine sv rfl (opv_lss rfl rfl) ?_
    refine snil ?_
    refine cseq ?_
    refine ccond rfl (fun hc => ?_) (fun hc => ?_)
    · replace h := ite_t hc h
      clear hc
      refine cskip ?_
      refine then_normal ?_
      refine cseq ?_
      refine cblock ?_
      refine cseq ?_
      refine cregion ?_
      obtain ⟨u12, hu12, h⟩ := bind_eq h
      refine sv rfl (opv_ix (f := eGApiKV) si35 (fun _ => rfl) rfl rfl rfl rfl hu12) ?_
      refine sv rfl (opv_loadNe (ys := [.sl u12.Key.length (u12.Key.flatMap eU8), .sl u12.Val.length (u12.Val.flatMap eU8)]) ti83 rfl (.cp _) rfl rfl) ?_
      refine salloc rfl zi83 ?_
      refine sstore sz83 rfl rfl rfl rfl (Nat.le_of_ble_eq_true rfl) ?_
      refine smem [.box [.i .i64 a0.Kind, .i .i64 a0.Seq, .i .i64 a0.Code, .i .i64 a0.N, .b a0.Found, .sl a0.Val.length (a0.Val.flatMap eU8), .sl a0.List.length (a0.List.flatMap eGApiKV)], .box [.sl u12.Key.length (u12.Key.flatMap eU8), .sl u12.Val.length (u12.Val.flatMap eU8)]] rfl ?_
      refine snil ?_
      refine cseq ?_
      refine cregion ?_
      refine sv rfl (opv_fieldAddr_lp fi83_0 rfl) ?_
      refine sv rfl (opv_load1 ti29 rfl (.lp _ _ _ rfl) rfl) ?_
      obtain ⟨v13, hv13, h⟩ := bind_eq h
      refine scall1 rfl fn60 (opnds_cons rfl (opnds_cons rfl (opnds_cons rfl (opnds_cons rfl opnds_nil)))) (pubA_id rfl) (m60_msg_saneBytes_c hv13) ?_
      refine sv rfl (opv_not rfl) ?_
      refine sv rfl (opv_mv rfl) ?_
      refine ssplit 16 rfl (fun hc => ?_) (fun hc => ?_)
      · replace h := ite_t hc h
        clear hc
        refine soff rfl rfl rfl rfl ?_
        refine soff rfl rfl rfl rfl ?_
        refine soff rfl rfl rfl rfl ?_
        refine soff rfl rfl rfl rfl ?_
        refine sv rfl (opv_pick_t rfl rfl) ?_
        refine snil ?_
        refine ccond rfl (fun _ => ?_) (fun hx => Bool.noConfusion hx)
        refine cseq ?_
        refine cregion ?_
        refine sv rfl (opv_as rfl) ?_
        refine snil ?_
        refine cret ?_
        refine block_ret ?_
        refine then_ret ?_
        refine then_ret ?_
        refine block_ret ?_
        refine then_ret ?_
        obtain rfl := Option.some.inj h
        obtain rfl : Sum.inl _ = x11 := hk11
        replace ho11 : some _ = some _ := ho11
        obtain rfl := Option.some.inj ho11
        refine ⟨Or.inr rfl, _, _, _, (resVs_cons (ResV.tmp _ _ rfl) resVs_nil), (pubA_id rfl), ?_⟩
        rfl
      · replace h := ite_f hc h
        clear hc
        refine son rfl rfl rfl ?_
        refine sv rfl (opv_fieldAddr_lp fi83_1 rfl) ?_
        refine son rfl rfl rfl ?_
        refine sv rfl (opv_load1 ti29 rfl (.lp _ _ _ rfl) rfl) ?_
        refine son rfl rfl rfl ?_
        refine sv rfl (opv_len_sl si29 rfl) ?_
        refine son rfl rfl rfl ?_
        refine sv rfl (opv_gtr rfl rfl) ?_
        refine sv rfl (opv_pick_f rfl rfl) ?_
        refine snil ?_
        refine ccond rfl (fun hc => ?_) (fun hc => ?_)
        · replace h := ite_t hc h
          clear hc
          refine cseq ?_
          refine cregion ?_
          refine sv rfl (opv_as rfl) ?_
          refine snil ?_
          refine cret ?_
          refine block_ret ?_
          refine then_ret ?_
          refine then_ret ?_
          refine block_ret ?_
          refine then_ret ?_
          obtain rfl := Option.some.inj h
          obtain rfl : Sum.inl _ = x11 := hk11
          replace ho11 : some _ = some _ := ho11
          obtain rfl := Option.some.inj ho11
          refine ⟨Or.inr rfl, _, _, _, (resVs_cons (ResV.tmp _ _ rfl) resVs_nil), (pubA_id rfl), ?_⟩
          rfl
        · replace h := ite_f hc h
          clear hc
          refine cskip ?_
          refine block_normal ?_
          refine then_normal ?_
          refine cregion ?_
          refine sv rfl (opv_add rfl rfl) ?_
          refine sv rfl (opv_mv rfl) ?_
          refine snil ?_
          obtain rfl := Option.some.inj h
          exact ⟨(n11, (wI (s11 + 1))), _, hk11, ⟨rfl, rfl, rfl, rfl, trivial⟩, rfl, Nat.lt_succ_self _⟩
    · replace h := ite_f hc h
      clear hc
      refine cexit ?_
      refine then_exit ?_
      refine then_exit ?_
      refine block_hit ?_
      refine then_normal ?_
      obtain rfl := Option.some.inj h
      obtain rfl : _ = x11 := hk11
      exact ⟨(), _, ho11, ⟨rfl, trivial⟩, rfl⟩

def m44_pipe_sanePast_k1 (a0 : GPipePipe) (b1 : Unit) : Option Bool :=
  some (decide ((a0.Past.length : Int) ≤ 8))

def m44_pipe_sanePast_s2 (a0 : GPipePipe) (s2 : Int) : Option (LR (Int) (Unit) (Bool)) :=
  if (decide (s2 < (a0.Past.length : Int))) then ((idx a0.Past s2).bind fun u3 => (m38_msg_SaneReply u3).bind fun v4 => if (!v4) then (some (.ret false)) else (if (!decide (u3.Seq = (wI ((wI (a0.Next - (a0.Past.length : Int))) + s2)))) then (some (.ret false)) else (some (.cont (wI (s2 + 1)))))) else (some (.brk ()))
def m44_pipe_sanePast (a0 : GPipePipe) : Option Bool :=
  (iter (m44_pipe_sanePast_s2 a0) fuel 0).bind fun x => match x with | .inl r => some r | .inr e5 => m44_pipe_sanePast_k1 a0 e5

set_option maxRecDepth 100000 in
theorem m44_pipe_sanePast_c {a0 : GPipePipe} {r : Bool} (h : m44_pipe_sanePast a0 = some r) : CallsA Tryd.prog 44 [.agg [.i .i64 a0.Win.Base, .i .u64 (a0.Win.Bits.toNat : Int), .i .i64 a0.Next, .sl a0.Wait.length (a0.Wait.flatMap eGMsgReq), .sl a0.Past.length (a0.Past.flatMap eGMsgReply)]] (· = .s (.one (.b r))) := by
  unfold m44_pipe_sanePast at h
  refine callsA_of Tryd.func44 rfl (nt := 34) rfl (Nat.le_of_ble_eq_true rfl) ?_
  intro w0 S0
  refine cseq ?_
  refine cregion ?_
  refine sbox rfl rfl ?_
  refine sv rfl (opv_as rfl) ?_
  refine snil ?_
  refine cseq ?_
  refine cseq ?_
  refine cregion ?_
  refine sv rfl (opv_fieldAddr_lp fi46_3 rfl) ?_
  refine sv rfl (opv_load1 ti44 rfl (.lp _ _ _ rfl) rfl) ?_
  refine sv rfl (opv_len_sl si44 rfl) ?_
  refine sv rfl (opv_mv rfl) ?_
  refine snil ?_
  refine cjoin (Unit) (fun b1 => [(1, .s (.one (.lp 0 0)))]) (fun b1 => [.box [.i .i64 a0.Win.Base, .i .u64 (a0.Win.Bits.toNat : Int), .i .i64 a0.Next, .sl a0.Wait.length (a0.Wait.flatMap eGMsgReq), .sl a0.Past.length (a0.Past.flatMap eGMsgReply)]]) (fun b1 => m44_pipe_sanePast_k1 a0 b1 = some r) (fun _ _ => inbL_of rfl) (fun _ _ => blkinb_of rfl) (fun _ _ => Nat.le_of_ble_eq_true rfl) (fun b1 h => ?_) ?_
  · unfold m44_pipe_sanePast_k1 at h
    refine cseq ?_
    refine cregion ?_
    refine sv rfl (opv_fieldAddr_lp fi46_3 rfl) ?_
    refine sv rfl (opv_load1 ti44 rfl (.lp _ _ _ rfl) rfl) ?_
    refine sv rfl (opv_len_sl si44 rfl) ?_
    refine sv rfl (opv_leq rfl rfl) ?_
    refine sv rfl (opv_as rfl) ?_
    refine snil ?_
    refine cret ?_
    obtain rfl := Option.some.inj h
    refine ⟨Or.inr rfl, _, _, _, (resVs_cons (ResV.tmp _ _ rfl) resVs_nil), (pubA_id rfl), ?_⟩
    rfl
  · skip
    refine cblock ?_
    obtain ⟨x2, hx2, ho2⟩ := bind_eq h
    refine awc_loop (G := Nat × (Int)) (fun g => [(1, .s (.one (.lp 0 0))), (6, .s (.one (.sl a0.Past.length (a0.Past.flatMap eGMsgReply)))), (7, .s (.one (.i .i64 (a0.Past.length : Int)))), (8, .s (.one (.i .i64 g.2)))]) (fun g => [.box [.i .i64 a0.Win.Base, .i .u64 (a0.Win.Bits.toNat : Int), .i .i64 a0.Next, .sl a0.Wait.length (a0.Wait.flatMap eGMsgReq), .sl a0.Past.length (a0.Past.flatMap eGMsgReply)]]) (fun g => iter (m44_pipe_sanePast_s2 a0) g.1 g.2 = some x2) (fun g => g.1) (fuel, 0) hx2 ⟨rfl, rfl, rfl, rfl, trivial⟩ [] rfl (fun _ _ => inbL_of rfl) (fun _ _ => blkinb_of rfl) (fun _ _ => Nat.le_of_ble_eq_true rfl) ?_
    clear hx2 h
    rintro ⟨n2, s2⟩ h
    obtain ⟨n2, y2, rfl, h, hk2⟩ := iter_eq h
    unfold m44_pipe_sanePast_s2 at h
    refine cseq ?_
    refine cregion ?_
    refine sv rfl (opv_lss rfl rfl) ?_
    refine snil ?_
    refine cseq ?_
    refine ccond rfl (fun hc => ?_) (fun hc => ?_)
    · replace h := ite_t hc h
      clear hc
      refine cskip ?_
      refine then_normal ?_
      refine cseq ?_
      refine cblock ?_
      refine cseq ?_
      refine cregion ?_
      refine sv rfl (opv_mv rfl) ?_
      obtain ⟨u3, hu3, h⟩ := bind_eq h
      refine sv rfl (opv_ix (f := eGMsgReply) si44 (fun _ => rfl) rfl rfl rfl rfl hu3) ?_
      refine sv rfl (opv_loadNe (ys := [.i .i64 u3.Kind, .i .i64 u3.Seq, .i .i64 u3.Code, .i .i64 u3.N, .b u3.Found, .sl u3.Val.length (u3.Val.flatMap eU8), .sl u3.List.length (u3.List.flatMap eGApiKV)]) ti48 rfl (.cp _) rfl rfl) ?_
      refine salloc rfl zi48 ?_
      refine sv rfl (opv_as rfl) ?_
      refine sstore sz48 rfl rfl rfl rfl (Nat.le_of_ble_eq_true rfl) ?_
      refine smem [.box [.i .i64 a0.Win.Base, .i .u64 (a0.Win.Bits.toNat : Int), .i .i64 a0.Next, .sl a0.Wait.length (a0.Wait.flatMap eGMsgReq), .sl a0.Past.length (a0.Past.flatMap eGMsgReply)], .box [.i .i64 u3.Kind, .i .i64 u3.Seq, .i .i64 u3.Code, .i .i64 u3.N, .b u3.Found, .sl u3.Val.length (u3.Val.flatMap eU8), .sl u3.List.length (u3.List.flatMap eGApiKV)]] rfl ?_
      refine snil ?_
      refine cseq ?_
      refine cregion ?_
      refine sv rfl (opv_loadN ti48 rfl (.lp _ _ _ rfl) (Nat.le_of_ble_eq_true rfl)) ?_
      obtain ⟨v4, hv4, h⟩ := bind_eq h
      refine scall1 rfl fn38 (opnds_cons rfl opnds_nil) (pubA_id rfl) (m38_msg_SaneReply_c hv4) ?_
      refine sv rfl (opv_not rfl) ?_
      refine sv rfl (opv_mv rfl) ?_
      refine ssplit 16 rfl (fun hc => ?_) (fun hc => ?_)
      · replace h := ite_t hc h
        clear hc
        refine soff rfl rfl rfl rfl ?_
        refine soff rfl rfl rfl rfl ?_
        refine soff rfl rfl rfl rfl ?_
        refine soff rfl rfl rfl rfl ?_
        refine soff rfl rfl rfl rfl ?_
        refine soff rfl rfl rfl rfl ?_
        refine soff rfl rfl rfl rfl ?_
        refine soff rfl rfl rfl rfl ?_
        refine soff rfl rfl rfl rfl ?_
        refine soff rfl rfl rfl rfl ?_
        refine soff rfl rfl rfl rfl ?_
        refine sv rfl (opv_pick_t rfl rfl) ?_
        refine snil ?_
        refine ccond rfl (fun _ => ?_) (fun hx => Bool.noConfusion hx)
        refine cseq ?_
        refine cregion ?_
        refine sv rfl (opv_as rfl) ?_
        refine snil ?_
        refine cret ?_
        refine block_ret ?_
        refine then_ret ?_
        refine then_ret ?_
        refine block_ret ?_
        refine then_ret ?_
        obtain rfl := Option.some.inj h
        obtain rfl : Sum.inl _ = x2 := hk2
        replace ho2 : some _ = some _ := ho2
        obtain rfl := Option.some.inj ho2
        refine ⟨Or.inr rfl, _, _, _, (resVs_cons (ResV.tmp _ _ rfl) resVs_nil), (pubA_id rfl), ?_⟩
        rfl
      · replace h := ite_f hc h
        clear hc
        refine son rfl rfl rfl ?_
        refine sv rfl (opv_fieldAddr_lp fi48_1 rfl) ?_
        refine son rfl rfl rfl ?_
        refine sv rfl (opv_load1 ti3 rfl (.lp _ _ _ rfl) rfl) ?_
        refine son rfl rfl rfl ?_
        refine sv rfl (opv_fieldAddr_lp fi46_1 rfl) ?_
        refine son rfl rfl rfl ?_
        refine sv rfl (opv_load1 ti3 rfl (.lp _ _ _ rfl) rfl) ?_
        refine son rfl rfl rfl ?_
        refine sv rfl (opv_fieldAddr_lp fi46_3 rfl) ?_
        refine son rfl rfl rfl ?_
        refine sv rfl (opv_load1 ti44 rfl (.lp _ _ _ rfl) rfl) ?_
        refine son rfl rfl rfl ?_
        refine sv rfl (opv_len_sl si44 rfl) ?_
        refine son rfl rfl rfl ?_
        refine sv rfl (opv_sub rfl rfl) ?_
        refine son rfl rfl rfl ?_
        refine sv rfl (opv_mv rfl) ?_
        refine son rfl rfl rfl ?_
        refine sv rfl (opv_add rfl rfl) ?_
        refine son rfl rfl rfl ?_
        refine sv rfl (opv_ineq rfl rfl) ?_
        refine sv rfl (opv_pick_f rfl rfl) ?_
        refine snil ?_
        refine ccond rfl (fun hc => ?_) (fun hc => ?_)
        · replace h := ite_t hc h
          clear hc
          refine cseq ?_
          refine cregion ?_
          refine sv rfl (opv_as rfl) ?_
          refine snil ?_
          refine cret ?_
          refine block_ret ?_
          refine then_ret ?_
          refine then_ret ?_
          refine block_ret ?_
          refine then_ret ?_
          obtain rfl := Option.some.inj h
          obtain rfl : Sum.inl _ = x2 := hk2
          replace ho2 : some _ = some _ := ho2
          obtain rfl := Option.some.inj ho2
          refine ⟨Or.inr rfl, _, _, _, (resVs_cons (ResV.tmp _ _ rfl) resVs_nil), (pubA_id rfl), ?_⟩
          rfl
        · replace h := ite_f hc h
          clear hc
          refine cskip ?_
          refine block_normal ?_
          refine then_normal ?_
          refine cregion ?_
          refine sv rfl (opv_add rfl rfl) ?_
          refine sv rfl (opv_mv rfl) ?_
          refine snil ?_
          obtain rfl := Option.some.inj h
          exact ⟨(n2, (wI (s2 + 1))), _, hk2, ⟨rfl, rfl, rfl, rfl, trivial⟩, rfl, Nat.lt_succ_self _⟩
    · replace h := ite_f hc h
      clear hc
      refine cexit ?_
      refine then_exit ?_
      refine then_exit ?_
      refine block_hit ?_
      refine then_normal ?_
      obtain rfl := Option.some.inj h
      obtain rfl : _ = x2 := hk2
      exact ⟨(), _, ho2, ⟨rfl, trivial⟩, rfl⟩

def m68_seqs_digit (a0 : BitVec 64) (a1 : Int) : Option Bool :=
  if 0 ≤ a1 then (some (decide ((((a0 >>> a1.toNat) &&& (1#64)).toNat : Int) = (1 : Int)))) else none

set_option maxRecDepth 100000 in
theorem m68_seqs_digit_c {a0 : BitVec 64} {a1 : Int} {r : Bool} (h : m68_seqs_digit a0 a1 = some r) : CallsA Tryd.prog 68 [.one (.i .u64 (a0.toNat : Int)), .one (.i .i64 a1)] (· = .s (.one (.b r))) := by
  unfold m68_seqs_digit at h
  refine callsA_of Tryd.func68 rfl (nt := 10) rfl (Nat.le_of_ble_eq_true rfl) ?_
  intro w0 S0
  refine cseq ?_
  refine cregion ?_
  refine sv rfl (opv_as rfl) ?_
  refine snil ?_
  refine cseq ?_
  refine cregion ?_
  refine sv rfl (opv_mv rfl) ?_
  refine sv rfl (opv_mv rfl) ?_
  obtain ⟨hz1, h⟩ := chk_eq h
  refine sv rfl (opv_shr_u64 (a := a0) rfl rfl rfl hz1) ?_
  refine sv rfl (opv_and_u64 (a := (a0 >>> a1.toNat)) (b := 1#64) rfl rfl rfl rfl) ?_
  refine sv rfl (opv_ieql rfl rfl) ?_
  refine sv rfl (opv_as rfl) ?_
  refine snil ?_
  refine cret ?_
  obtain rfl := Option.some.inj h
  refine ⟨Or.inr rfl, _, _, _, (resVs_cons (ResV.tmp _ _ rfl) resVs_nil), (pubA_id rfl), ?_⟩
  rfl

def m62_seqs_Sane_k1 (a0 : GSeqsWindow) (b1 : Unit) : Option Bool :=
  if 0 ≤ (wI (4294967296 - a0.Base)) then (some (decide (((a0.Bits >>> (wI (4294967296 - a0.Base)).toNat).toNat : Int) = (0 : Int)))) else none
def m62_seqs_Sane (a0 : GSeqsWindow) : Option Bool :=
  if (decide (a0.Base < 0)) then (some false) else (if (decide (4294967296 < a0.Base)) then (some false) else ((m68_seqs_digit a0.Bits 0).bind fun v3 => if v3 then (some false) else (m62_seqs_Sane_k1 a0 ())))

set_option maxRecDepth 100000 in
theorem m62_seqs_Sane_c {a0 : GSeqsWindow} {r : Bool} (h : m62_seqs_Sane a0 = some r) : CallsA Tryd.prog 62 [.agg [.i .i64 a0.Base, .i .u64 (a0.Bits.toNat : Int)]] (· = .s (.one (.b r))) := by
  unfold m62_seqs_Sane at h
  refine callsA_of Tryd.func62 rfl (nt := 23) rfl (Nat.le_of_ble_eq_true rfl) ?_
  intro w0 S0
  refine cseq ?_
  refine cregion ?_
  refine sbox rfl rfl ?_
  refine sv rfl (opv_as rfl) ?_
  refine snil ?_
  refine cseq ?_
  refine cseq ?_
  refine cjoin3 (Unit) (fun b1 => [(1, .s (.one (.lp 0 0)))]) (fun b1 => [.box [.i .i64 a0.Base, .i .u64 (a0.Bits.toNat : Int)]]) (fun b1 => m62_seqs_Sane_k1 a0 b1 = some r) (fun _ _ => inbL_of rfl) (fun _ _ => blkinb_of rfl) (fun _ _ => Nat.le_of_ble_eq_true rfl) (fun b1 h => ?_) ?_
  · unfold m62_seqs_Sane_k1 at h
    refine cseq ?_
    refine cregion ?_
    refine sv rfl (opv_fieldAddr_lp fi42_1 rfl) ?_
    refine sv rfl (opv_load1 ti22 rfl (.lp _ _ _ rfl) rfl) ?_
    refine sv rfl (opv_fieldAddr_lp fi42_0 rfl) ?_
    refine sv rfl (opv_load1 ti3 rfl (.lp _ _ _ rfl) rfl) ?_
    refine sv rfl (opv_sub rfl rfl) ?_
    obtain ⟨hz2, h⟩ := chk_eq h
    refine sv rfl (opv_shr_u64 (a := a0.Bits) rfl rfl rfl hz2) ?_
    refine sv rfl (opv_ieql rfl rfl) ?_
    refine sv rfl (opv_as rfl) ?_
    refine snil ?_
    refine cret ?_
    obtain rfl := Option.some.inj h
    refine ⟨Or.inr rfl, _, _, _, (resVs_cons (ResV.tmp _ _ rfl) resVs_nil), (pubA_id rfl), ?_⟩
    rfl
  · skip
    refine cregion ?_
    refine sv rfl (opv_fieldAddr_lp fi42_0 rfl) ?_
    refine sv rfl (opv_load1 ti3 rfl (.lp _ _ _ rfl) rfl) ?_
    refine sv rfl (opv_lss rfl rfl) ?_
    refine sv rfl (opv_mv rfl) ?_
    refine ssplit 6 rfl (fun hc => ?_) (fun hc => ?_)
    · replace h := ite_t hc h
      clear hc
      refine soff rfl rfl rfl rfl ?_
      refine soff rfl rfl rfl rfl ?_
      refine soff rfl rfl rfl rfl ?_
      refine sv rfl (opv_pick_t rfl rfl) ?_
      refine sv rfl (opv_mv rfl) ?_
      refine soff rfl rfl rfl rfl ?_
      refine soff rfl rfl rfl rfl ?_
      refine soff rfl rfl rfl rfl ?_
      refine sv rfl (opv_pick_t rfl rfl) ?_
      refine snil ?_
      refine ccond rfl (fun _ => ?_) (fun hx => Bool.noConfusion hx)
      refine cseq ?_
      refine cregion ?_
      refine sv rfl (opv_as rfl) ?_
      refine snil ?_
      refine cret ?_
      refine then_ret ?_
      obtain rfl := Option.some.inj h
      refine ⟨Or.inr rfl, _, _, _, (resVs_cons (ResV.tmp _ _ rfl) resVs_nil), (pubA_id rfl), ?_⟩
      rfl
    · replace h := ite_f hc h
      clear hc
      refine son rfl rfl rfl ?_
      refine sv rfl (opv_fieldAddr_lp fi42_0 rfl) ?_
      refine son rfl rfl rfl ?_
      refine sv rfl (opv_load1 ti3 rfl (.lp _ _ _ rfl) rfl) ?_
      refine son rfl rfl rfl ?_
      refine sv rfl (opv_gtr rfl rfl) ?_
      refine sv rfl (opv_pick_f rfl rfl) ?_
      refine sv rfl (opv_mv rfl) ?_
      refine ssplit 11 rfl (fun hc => ?_) (fun hc => ?_)
      · replace h := ite_t hc h
        clear hc
        refine soff rfl rfl rfl rfl ?_
        refine soff rfl rfl rfl rfl ?_
        refine soff rfl rfl rfl rfl ?_
        refine sv rfl (opv_pick_t rfl rfl) ?_
        refine snil ?_
        refine ccond rfl (fun _ => ?_) (fun hx => Bool.noConfusion hx)
        refine cseq ?_
        refine cregion ?_
        refine sv rfl (opv_as rfl) ?_
        refine snil ?_
        refine cret ?_
        refine then_ret ?_
        obtain rfl := Option.some.inj h
        refine ⟨Or.inr rfl, _, _, _, (resVs_cons (ResV.tmp _ _ rfl) resVs_nil), (pubA_id rfl), ?_⟩
        rfl
      · replace h := ite_f hc h
        clear hc
        refine son rfl rfl rfl ?_
        refine sv rfl (opv_fieldAddr_lp fi42_1 rfl) ?_
        refine son rfl rfl rfl ?_
        refine sv rfl (opv_load1 ti22 rfl (.lp _ _ _ rfl) rfl) ?_
        refine son rfl rfl rfl ?_
        obtain ⟨v3, hv3, h⟩ := bind_eq h
        refine scall1 rfl fn68 (opnds_cons rfl (opnds_cons rfl opnds_nil)) (pubA_id rfl) (m68_seqs_digit_c hv3) ?_
        refine sv rfl (opv_pick_f rfl rfl) ?_
        refine snil ?_
        refine ccond rfl (fun hc => ?_) (fun hc => ?_)
        · replace h := ite_t hc h
          clear hc
          refine cseq ?_
          refine cregion ?_
          refine sv rfl (opv_as rfl) ?_
          refine snil ?_
          refine cret ?_
          refine then_ret ?_
          obtain rfl := Option.some.inj h
          refine ⟨Or.inr rfl, _, _, _, (resVs_cons (ResV.tmp _ _ rfl) resVs_nil), (pubA_id rfl), ?_⟩
          rfl
        · replace h := ite_f hc h
          clear hc
          refine cskip ?_
          refine then_normal ?_
          exact ⟨(), _, h, ⟨rfl, trivial⟩, rfl⟩

def m63_seqs_saneSeq (a0 : Int) : Option Bool :=
  if (decide (0 ≤ a0)) then (some (decide (a0 ≤ 4294967295))) else (some false)

set_option maxRecDepth 100000 in
theorem m63_seqs_saneSeq_c {a0 : Int} {r : Bool} (h : m63_seqs_saneSeq a0 = some r) : CallsA Tryd.prog 63 [.one (.i .i64 a0)] (· = .s (.one (.b r))) := by
  unfold m63_seqs_saneSeq at h
  refine callsA_of Tryd.func63 rfl (nt := 9) rfl (Nat.le_of_ble_eq_true rfl) ?_
  intro w0 S0
  refine cseq ?_
  refine cregion ?_
  refine sv rfl (opv_as rfl) ?_
  refine snil ?_
  refine cseq ?_
  refine cregion ?_
  refine sv rfl (opv_mv rfl) ?_
  refine sv rfl (opv_geq rfl rfl) ?_
  refine sv rfl (opv_mv rfl) ?_
  refine ssplit 5 rfl (fun hc => ?_) (fun hc => ?_)
  · replace h := ite_t hc h
    clear hc
    refine son rfl rfl rfl ?_
    refine sv rfl (opv_mv rfl) ?_
    refine son rfl rfl rfl ?_
    refine sv rfl (opv_leq rfl rfl) ?_
    refine sv rfl (opv_pick_t rfl rfl) ?_
    refine sv rfl (opv_as rfl) ?_
    refine snil ?_
    refine cret ?_
    obtain rfl := Option.some.inj h
    refine ⟨Or.inr rfl, _, _, _, (resVs_cons (ResV.tmp _ _ rfl) resVs_nil), (pubA_id rfl), ?_⟩
    rfl
  · replace h := ite_f hc h
    clear hc
    refine soff rfl rfl rfl rfl ?_
    refine soff rfl rfl rfl rfl ?_
    refine sv rfl (opv_pick_f rfl rfl) ?_
    refine sv rfl (opv_as rfl) ?_
    refine snil ?_
    refine cret ?_
    obtain rfl := Option.some.inj h
    refine ⟨Or.inr rfl, _, _, _, (resVs_cons (ResV.tmp _ _ rfl) resVs_nil), (pubA_id rfl), ?_⟩
    rfl

def m64_seqs_Seen_k1 (a0 : GSeqsWindow) (a1 : Int) (b1 : Unit) : Option Bool :=
  if (decide (a1 < a0.Base)) then (some true) else (if (decide ((wI (a1 - a0.Base)) < 64)) then ((m68_seqs_digit a0.Bits (wI (a1 - a0.Base))).bind fun v2 => some v2) else (some false))
def m64_seqs_Seen (a0 : GSeqsWindow) (a1 : Int) : Option Bool :=
  (m62_seqs_Sane (GSeqsWindow.mk a0.Base a0.Bits)).bind fun v3 => if (!v3) then (some false) else ((m63_seqs_saneSeq a1).bind fun v4 => if (!v4) then (some false) else (m64_seqs_Seen_k1 a0 a1 ()))

set_option maxRecDepth 100000 in
theorem m64_seqs_Seen_c {a0 : GSeqsWindow} {a1 : Int} {r : Bool} (h : m64_seqs_Seen a0 a1 = some r) : CallsA Tryd.prog 64 [.agg [.i .i64 a0.Base, .i .u64 (a0.Bits.toNat : Int)], .one (.i .i64 a1)] (· = .s (.one (.b r))) := by
  unfold m64_seqs_Seen at h
  refine callsA_of Tryd.func64 rfl (nt := 31) rfl (Nat.le_of_ble_eq_true rfl) ?_
  intro w0 S0
  refine cseq ?_
  refine cregion ?_
  refine sbox rfl rfl ?_
  refine sv rfl (opv_as rfl) ?_
  refine snil ?_
  refine cseq ?_
  refine cseq ?_
  refine cjoin3 (Unit) (fun b1 => [(1, .s (.one (.i .i64 a1))), (2, .s (.one (.lp 0 0)))]) (fun b1 => [.box [.i .i64 a0.Base, .i .u64 (a0.Bits.toNat : Int)]]) (fun b1 => m64_seqs_Seen_k1 a0 a1 b1 = some r) (fun _ _ => inbL_of rfl) (fun _ _ => blkinb_of rfl) (fun _ _ => Nat.le_of_ble_eq_true rfl) (fun b1 h => ?_) ?_
  · unfold m64_seqs_Seen_k1 at h
    refine cseq ?_
    refine cseq ?_
    refine cregion ?_
    refine sv rfl (opv_mv rfl) ?_
    refine sv rfl (opv_fieldAddr_lp fi42_0 rfl) ?_
    refine sv rfl (opv_load1 ti3 rfl (.lp _ _ _ rfl) rfl) ?_
    refine sv rfl (opv_lss rfl rfl) ?_
    refine snil ?_
    refine ccond rfl (fun hc => ?_) (fun hc => ?_)
    · replace h := ite_t hc h
      clear hc
      refine cseq ?_
      refine cregion ?_
      refine sv rfl (opv_as rfl) ?_
      refine snil ?_
      refine cret ?_
      refine then_ret ?_
      obtain rfl := Option.some.inj h
      refine ⟨Or.inr rfl, _, _, _, (resVs_cons (ResV.tmp _ _ rfl) resVs_nil), (pubA_id rfl), ?_⟩
      rfl
    · replace h := ite_f hc h
      clear hc
      refine cskip ?_
      refine then_normal ?_
      refine cseq ?_
      refine cregion ?_
      refine sv rfl (opv_mv rfl) ?_
      refine sv rfl (opv_fieldAddr_lp fi42_0 rfl) ?_
      refine sv rfl (opv_load1 ti3 rfl (.lp _ _ _ rfl) rfl) ?_
      refine sv rfl (opv_sub rfl rfl) ?_
      refine sv rfl (opv_lss rfl rfl) ?_
      refine sv rfl (opv_mv rfl) ?_
      refine ssplit 22 rfl (fun hc => ?_) (fun hc => ?_)
      · replace h := ite_t hc h
        clear hc
        refine son rfl rfl rfl ?_
        refine sv rfl (opv_fieldAddr_lp fi42_1 rfl) ?_
        refine son rfl rfl rfl ?_
        refine sv rfl (opv_load1 ti22 rfl (.lp _ _ _ rfl) rfl) ?_
        refine son rfl rfl rfl ?_
        refine sv rfl (opv_mv rfl) ?_
        refine son rfl rfl rfl ?_
        refine sv rfl (opv_fieldAddr_lp fi42_0 rfl) ?_
        refine son rfl rfl rfl ?_
        refine sv rfl (opv_load1 ti3 rfl (.lp _ _ _ rfl) rfl) ?_
        refine son rfl rfl rfl ?_
        refine sv rfl (opv_sub rfl rfl) ?_
        refine son rfl rfl rfl ?_
        obtain ⟨v2, hv2, h⟩ := bind_eq h
        refine scall1 rfl fn68 (opnds_cons rfl (opnds_cons rfl opnds_nil)) (pubA_id rfl) (m68_seqs_digit_c hv2) ?_
        refine sv rfl (opv_pick_t rfl rfl) ?_
        refine sv rfl (opv_as rfl) ?_
        refine snil ?_
        refine cret ?_
        obtain rfl := Option.some.inj h
        refine ⟨Or.inr rfl, _, _, _, (resVs_cons (ResV.tmp _ _ rfl) resVs_nil), (pubA_id rfl), ?_⟩
        rfl
      · replace h := ite_f hc h
        clear hc
        refine soff rfl rfl rfl rfl ?_
        refine soff rfl rfl rfl rfl ?_
        refine soff rfl rfl rfl rfl ?_
        refine soff rfl rfl rfl rfl ?_
        refine soff rfl rfl rfl rfl ?_
        refine soff rfl rfl rfl rfl ?_
        refine soff rfl rfl rfl rfl ?_
        refine sv rfl (opv_pick_f rfl rfl) ?_
        refine sv rfl (opv_as rfl) ?_
        refine snil ?_
        refine cret ?_
        obtain rfl := Option.some.inj h
        refine ⟨Or.inr rfl, _, _, _, (resVs_cons (ResV.tmp _ _ rfl) resVs_nil), (pubA_id rfl), ?_⟩
        rfl
  · skip
    refine cregion ?_
    refine sv rfl (opv_loadN ti42 rfl (.lp _ _ _ rfl) (Nat.le_of_ble_eq_true rfl)) ?_
    obtain ⟨v3, hv3, h⟩ := bind_eq h
    refine scall1 rfl fn62 (opnds_cons rfl opnds_nil) (pubA_id rfl) (m62_seqs_Sane_c hv3) ?_
    refine sv rfl (opv_not rfl) ?_
    refine sv rfl (opv_mv rfl) ?_
    refine ssplit 8 rfl (fun hc => ?_) (fun hc => ?_)
    · replace h := ite_t hc h
      clear hc
      refine soff rfl rfl rfl rfl ?_
      refine soff rfl rfl rfl rfl ?_
      refine soff rfl rfl rfl rfl ?_
      refine sv rfl (opv_pick_t rfl rfl) ?_
      refine snil ?_
      refine ccond rfl (fun _ => ?_) (fun hx => Bool.noConfusion hx)
      refine cseq ?_
      refine cregion ?_
      refine sv rfl (opv_as rfl) ?_
      refine snil ?_
      refine cret ?_
      refine then_ret ?_
      obtain rfl := Option.some.inj h
      refine ⟨Or.inr rfl, _, _, _, (resVs_cons (ResV.tmp _ _ rfl) resVs_nil), (pubA_id rfl), ?_⟩
      rfl
    · replace h := ite_f hc h
      clear hc
      refine son rfl rfl rfl ?_
      refine sv rfl (opv_mv rfl) ?_
      refine son rfl rfl rfl ?_
      obtain ⟨v4, hv4, h⟩ := bind_eq h
      refine scall1 rfl fn63 (opnds_cons rfl opnds_nil) (pubA_id rfl) (m63_seqs_saneSeq_c hv4) ?_
      refine son rfl rfl rfl ?_
      refine sv rfl (opv_not rfl) ?_
      refine sv rfl (opv_pick_f rfl rfl) ?_
      refine snil ?_
      refine ccond rfl (fun hc => ?_) (fun hc => ?_)
      · replace h := ite_t hc h
        clear hc
        refine cseq ?_
        refine cregion ?_
        refine sv rfl (opv_as rfl) ?_
        refine snil ?_
        refine cret ?_
        refine then_ret ?_
        obtain rfl := Option.some.inj h
        refine ⟨Or.inr rfl, _, _, _, (resVs_cons (ResV.tmp _ _ rfl) resVs_nil), (pubA_id rfl), ?_⟩
        rfl
      · replace h := ite_f hc h
        clear hc
        refine cskip ?_
        refine then_normal ?_
        exact ⟨(), _, h, ⟨rfl, rfl, trivial⟩, rfl⟩

def m33_pipe_waiting_k1 (b1 : Unit) : Option Int :=
  some (-1)

def m33_pipe_waiting_s2 (a0 : GPipePipe) (a1 : Int) (s2 : Int) : Option (LR (Int) (Unit) (Int)) :=
  if (decide (s2 < (a0.Wait.length : Int))) then ((idx a0.Wait s2).bind fun u3 => if (decide (u3.Seq = a1)) then (some (.ret s2)) else (some (.cont (wI (s2 + 1))))) else (some (.brk ()))
def m33_pipe_waiting (a0 : GPipePipe) (a1 : Int) : Option Int :=
  (iter (m33_pipe_waiting_s2 a0 a1) fuel 0).bind fun x => match x with | .inl r => some r | .inr e4 => m33_pipe_waiting_k1 e4

set_option maxRecDepth 100000 in
theorem m33_pipe_waiting_c {a0 : GPipePipe} {a1 : Int} {r : Int} (h : m33_pipe_waiting a0 a1 = some r) : CallsA Tryd.prog 33 [.agg [.i .i64 a0.Win.Base, .i .u64 (a0.Win.Bits.toNat : Int), .i .i64 a0.Next, .sl a0.Wait.length (a0.Wait.flatMap eGMsgReq), .sl a0.Past.length (a0.Past.flatMap eGMsgReply)], .one (.i .i64 a1)] (· = .s (.one (.i .i64 r))) := by
  unfold m33_pipe_waiting at h
  refine callsA_of Tryd.func33 rfl (nt := 21) rfl (Nat.le_of_ble_eq_true rfl) ?_
  intro w0 S0
  refine cseq ?_
  refine cregion ?_
  refine sbox rfl rfl ?_
  refine sv rfl (opv_as rfl) ?_
  refine snil ?_
  refine cseq ?_
  refine cseq ?_
  refine cregion ?_
  refine sv rfl (opv_fieldAddr_lp fi46_2 rfl) ?_
  refine sv rfl (opv_load1 ti43 rfl (.lp _ _ _ rfl) rfl) ?_
  refine sv rfl (opv_len_sl si43 rfl) ?_
  refine sv rfl (opv_mv rfl) ?_
  refine snil ?_
  refine cjoin (Unit) (fun b1 => []) (fun b1 => [.box [.i .i64 a0.Win.Base, .i .u64 (a0.Win.Bits.toNat : Int), .i .i64 a0.Next, .sl a0.Wait.length (a0.Wait.flatMap eGMsgReq), .sl a0.Past.length (a0.Past.flatMap eGMsgReply)]]) (fun b1 => m33_pipe_waiting_k1 b1 = some r) (fun _ _ => inbL_of rfl) (fun _ _ => blkinb_of rfl) (fun _ _ => Nat.le_of_ble_eq_true rfl) (fun b1 h => ?_) ?_
  · unfold m33_pipe_waiting_k1 at h
    refine cseq ?_
    refine cregion ?_
    refine sv rfl (opv_as rfl) ?_
    refine snil ?_
    refine cret ?_
    obtain rfl := Option.some.inj h
    refine ⟨Or.inr rfl, _, _, _, (resVs_cons (ResV.tmp _ _ rfl) resVs_nil), (pubA_id rfl), ?_⟩
    rfl
  · skip
    refine cblock ?_
    obtain ⟨x2, hx2, ho2⟩ := bind_eq h
    refine awc_loop (G := Nat × (Int)) (fun g => [(1, .s (.one (.i .i64 a1))), (8, .s (.one (.sl a0.Wait.length (a0.Wait.flatMap eGMsgReq)))), (9, .s (.one (.i .i64 (a0.Wait.length : Int)))), (10, .s (.one (.i .i64 g.2)))]) (fun g => [.box [.i .i64 a0.Win.Base, .i .u64 (a0.Win.Bits.toNat : Int), .i .i64 a0.Next, .sl a0.Wait.length (a0.Wait.flatMap eGMsgReq), .sl a0.Past.length (a0.Past.flatMap eGMsgReply)]]) (fun g => iter (m33_pipe_waiting_s2 a0 a1) g.1 g.2 = some x2) (fun g => g.1) (fuel, 0) hx2 ⟨rfl, rfl, rfl, rfl, trivial⟩ [] rfl (fun _ _ => inbL_of rfl) (fun _ _ => blkinb_of rfl) (fun _ _ => Nat.le_of_ble_eq_true rfl) ?_
    clear hx2 h
    rintro ⟨n2, s2⟩ h
    obtain ⟨n2, y2, rfl, h, hk2⟩ := iter_eq h
    unfold m33_pipe_waiting_s2 at h
    refine cseq ?_
    refine cregion ?_
    refine sv rfl (opv_lss rfl rfl) ?_
    refine snil ?_
    refine cseq ?_
    refine ccond rfl (fun hc => ?_) (fun hc => ?_)
    · replace h := ite_t hc h
      clear hc
      refine cskip ?_
      refine then_normal ?_
      refine cseq ?_
      refine cblock ?_
      refine cseq ?_
      refine cregion ?_
      refine sv rfl (opv_mv rfl) ?_
      obtain ⟨u3, hu3, h⟩ := bind_eq h
      refine sv rfl (opv_ix (f := eGMsgReq) si43 (fun _ => rfl) rfl rfl rfl rfl hu3) ?_
      refine sv rfl (opv_loadNe (ys := [.i .i64 u3.Kind, .i .i64 u3.Seq, .i .i64 u3.Token, .i .i64 u3.Attempt, .b u3.RO, .sl u3.Key.length (u3.Key.flatMap eU8), .sl u3.Val.length (u3.Val.flatMap eU8), .sl u3.Rng.Lo.length (u3.Rng.Lo.flatMap eU8), .sl u3.Rng.Hi.length (u3.Rng.Hi.flatMap eU8), .b u3.Rng.Open]) ti51 rfl (.cp _) rfl rfl) ?_
      refine salloc rfl zi51 ?_
      refine sv rfl (opv_as rfl) ?_
      refine sstore sz51 rfl rfl rfl rfl (Nat.le_of_ble_eq_true rfl) ?_
      refine smem [.box [.i .i64 a0.Win.Base, .i .u64 (a0.Win.Bits.toNat : Int), .i .i64 a0.Next, .sl a0.Wait.length (a0.Wait.flatMap eGMsgReq), .sl a0.Past.length (a0.Past.flatMap eGMsgReply)], .box [.i .i64 u3.Kind, .i .i64 u3.Seq, .i .i64 u3.Token, .i .i64 u3.Attempt, .b u3.RO, .sl u3.Key.length (u3.Key.flatMap eU8), .sl u3.Val.length (u3.Val.flatMap eU8), .sl u3.Rng.Lo.length (u3.Rng.Lo.flatMap eU8), .sl u3.Rng.Hi.length (u3.Rng.Hi.flatMap eU8), .b u3.Rng.Open]] rfl ?_
      refine snil ?_
      refine cseq ?_
      refine cregion ?_
      refine sv rfl (opv_fieldAddr_lp fi51_1 rfl) ?_
      refine sv rfl (opv_load1 ti3 rfl (.lp _ _ _ rfl) rfl) ?_
      refine sv rfl (opv_mv rfl) ?_
      refine sv rfl (opv_ieql rfl rfl) ?_
      refine snil ?_
      refine ccond rfl (fun hc => ?_) (fun hc => ?_)
      · replace h := ite_t hc h
        clear hc
        refine cseq ?_
        refine cregion ?_
        refine sv rfl (opv_mv rfl) ?_
        refine sv rfl (opv_as rfl) ?_
        refine snil ?_
        refine cret ?_
        refine block_ret ?_
        refine then_ret ?_
        refine then_ret ?_
        refine block_ret ?_
        refine then_ret ?_
        obtain rfl := Option.some.inj h
        obtain rfl : Sum.inl _ = x2 := hk2
        replace ho2 : some _ = some _ := ho2
        obtain rfl := Option.some.inj ho2
        refine ⟨Or.inr rfl, _, _, _, (resVs_cons (ResV.tmp _ _ rfl) resVs_nil), (pubA_id rfl), ?_⟩
        rfl
      · replace h := ite_f hc h
        clear hc
        refine cskip ?_
        refine block_normal ?_
        refine then_normal ?_
        refine cregion ?_
        refine sv rfl (opv_add rfl rfl) ?_
        refine sv rfl (opv_mv rfl) ?_
        refine snil ?_
        obtain rfl := Option.some.inj h
        exact ⟨(n2, (wI (s2 + 1))), _, hk2, ⟨rfl, rfl, rfl, rfl, trivial⟩, rfl, Nat.lt_succ_self _⟩
    · replace h := ite_f hc h
      clear hc
      refine cexit ?_
      refine then_exit ?_
      refine then_exit ?_
      refine block_hit ?_
      refine then_normal ?_
      obtain rfl := Option.some.inj h
      obtain rfl : _ = x2 := hk2
      exact ⟨(), _, ho2, trivial, rfl⟩

def m45_pipe_saneWin_k2 (b2 : Unit) : Option Bool :=
  some true

def m45_pipe_saneWin_k4 (a0 : GPipePipe) (s3 : Int) (b4 : Unit) : Option (LR (Int) (Unit) (Bool)) :=
  (m64_seqs_Seen (GSeqsWindow.mk a0.Win.Base a0.Win.Bits) s3).bind fun v5 => (m33_pipe_waiting (GPipePipe.mk (GSeqsWindow.mk a0.Win.Base a0.Win.Bits) a0.Next a0.Wait a0.Past) s3).bind fun v6 => if (!(v5 == (decide (0 ≤ v6)))) then (some (.ret false)) else (some (.cont (wI (s3 + 1))))

def m45_pipe_saneWin_s3 (a0 : GPipePipe) (s3 : Int) : Option (LR (Int) (Unit) (Bool)) :=
  if (decide (s3 < (wI (a0.Next + 64)))) then (if (decide (s3 ≤ 4294967295)) then (m45_pipe_saneWin_k4 a0 s3 ()) else (some (.brk ()))) else (some (.brk ()))

def m45_pipe_saneWin_k1 (a0 : GPipePipe) (b1 : Unit) : Option Bool :=
  (iter (m45_pipe_saneWin_s3 a0) fuel a0.Next).bind fun x => match x with | .inl r => some r | .inr e7 => m45_pipe_saneWin_k2 e7
def m45_pipe_saneWin (a0 : GPipePipe) : Option Bool :=
  (m62_seqs_Sane (GSeqsWindow.mk a0.Win.Base a0.Win.Bits)).bind fun v8 => if (!v8) then (some false) else (if (decide (a0.Win.Base < a0.Next)) then (some false) else (if (decide ((wI (a0.Next + 8)) < a0.Win.Base)) then (some false) else (m45_pipe_saneWin_k1 a0 ())))

set_option maxRecDepth 100000 in
theorem m45_pipe_saneWin_c {a0 : GPipePipe} {r : Bool} (h : m45_pipe_saneWin a0 = some r) : CallsA Tryd.prog 45 [.agg [.i .i64 a0.Win.Base, .i .u64 (a0.Win.Bits.toNat : Int), .i .i64 a0.Next, .sl a0.Wait.length (a0.Wait.flatMap eGMsgReq), .sl a0.Past.length (a0.Past.flatMap eGMsgReply)]] (· = .s (.one (.b r))) := by
  unfold m45_pipe_saneWin at h
  refine callsA_of Tryd.func45 rfl (nt := 47) rfl (Nat.le_of_ble_eq_true rfl) ?_
  intro w0 S0
  refine cseq ?_
  refine cregion ?_
  refine sbox rfl rfl ?_
  refine sv rfl (opv_as rfl) ?_
  refine snil ?_
  refine cseq ?_
  refine cseq ?_
  refine cjoin3 (Unit) (fun b1 => [(1, .s (.one (.lp 0 0)))]) (fun b1 => [.box [.i .i64 a0.Win.Base, .i .u64 (a0.Win.Bits.toNat : Int), .i .i64 a0.Next, .sl a0.Wait.length (a0.Wait.flatMap eGMsgReq), .sl a0.Past.length (a0.Past.flatMap eGMsgReply)]]) (fun b1 => m45_pipe_saneWin_k1 a0 b1 = some r) (fun _ _ => inbL_of rfl) (fun _ _ => blkinb_of rfl) (fun _ _ => Nat.le_of_ble_eq_true rfl) (fun b1 h => ?_) ?_
  · unfold m45_pipe_saneWin_k1 at h
    refine cseq ?_
    refine cseq ?_
    refine cregion ?_
    refine sv rfl (opv_fieldAddr_lp fi46_1 rfl) ?_
    refine sv rfl (opv_load1 ti3 rfl (.lp _ _ _ rfl) rfl) ?_
    refine sv rfl (opv_as rfl) ?_
    refine snil ?_
    refine cjoin (Unit) (fun b2 => []) (fun b2 => [.box [.i .i64 a0.Win.Base, .i .u64 (a0.Win.Bits.toNat : Int), .i .i64 a0.Next, .sl a0.Wait.length (a0.Wait.flatMap eGMsgReq), .sl a0.Past.length (a0.Past.flatMap eGMsgReply)]]) (fun b2 => m45_pipe_saneWin_k2 b2 = some r) (fun _ _ => inbL_of rfl) (fun _ _ => blkinb_of rfl) (fun _ _ => Nat.le_of_ble_eq_true rfl) (fun b2 h => ?_) ?_
    · unfold m45_pipe_saneWin_k2 at h
      refine cseq ?_
      refine cregion ?_
      refine sv rfl (opv_as rfl) ?_
      refine snil ?_
      refine cret ?_
      obtain rfl := Option.some.inj h
      refine ⟨Or.inr rfl, _, _, _, (resVs_cons (ResV.tmp _ _ rfl) resVs_nil), (pubA_id rfl), ?_⟩
      rfl
    · skip
      refine cblock ?_
      obtain ⟨x3, hx3, ho3⟩ := bind_eq h
      refine awc_loop (G := Nat × (Int)) (fun g => [(1, .s (.one (.lp 0 0))), (3, .s (.one (.i .i64 g.2)))]) (fun g => [.box [.i .i64 a0.Win.Base, .i .u64 (a0.Win.Bits.toNat : Int), .i .i64 a0.Next, .sl a0.Wait.length (a0.Wait.flatMap eGMsgReq), .sl a0.Past.length (a0.Past.flatMap eGMsgReply)]]) (fun g => iter (m45_pipe_saneWin_s3 a0) g.1 g.2 = some x3) (fun g => g.1) (fuel, a0.Next) hx3 ⟨rfl, rfl, trivial⟩ [] rfl (fun _ _ => inbL_of rfl) (fun _ _ => blkinb_of rfl) (fun _ _ => Nat.le_of_ble_eq_true rfl) ?_
      clear hx3 h
      rintro ⟨n3, s3⟩ h
      obtain ⟨n3, y3, rfl, h, hk3⟩ := iter_eq h
      unfold m45_pipe_saneWin_s3 at h
      refine cseq ?_
      refine cseq ?_
      refine cjoin3 (Unit) (fun b4 => [(1, .s (.one (.lp 0 0))), (3, .s (.one (.i .i64 s3)))]) (fun b4 => [.box [.i .i64 a0.Win.Base, .i .u64 (a0.Win.Bits.toNat : Int), .i .i64 a0.Next, .sl a0.Wait.length (a0.Wait.flatMap eGMsgReq), .sl a0.Past.length (a0.Past.flatMap eGMsgReply)]]) (fun b4 => m45_pipe_saneWin_k4 a0 s3 b4 = some y3) (fun _ _ => inbL_of rfl) (fun _ _ => blkinb_of rfl) (fun _ _ => Nat.le_of_ble_eq_true rfl) (fun b4 h => ?_) ?_
      · unfold m45_pipe_saneWin_k4 at h
        refine cseq ?_
        refine cblock ?_
        refine cseq ?_
        refine cdraw mixed (by kernel_rfl) ?_
        refine dv rfl (opv_fieldAddr_lp fi46_0 rfl) ?_
        refine dv rfl (opv_loadN ti42 rfl (.lp _ _ _ rfl) (Nat.le_of_ble_eq_true rfl)) ?_
        refine dv rfl (opv_mv rfl) ?_
        obtain ⟨v5, hv5, h⟩ := bind_eq h
        refine dd rfl (opD_call fn64 (opnds_cons rfl (opnds_cons rfl opnds_nil)) rfl (m64_seqs_Seen_c hv5)) ?_
        refine dv rfl (opv_loadN ti46 rfl (.lp _ _ _ rfl) (Nat.le_of_ble_eq_true rfl)) ?_
        refine dv rfl (opv_mv rfl) ?_
        obtain ⟨v6, hv6, h⟩ := bind_eq h
        refine dd rfl (opD_call fn33 (opnds_cons rfl (opnds_cons rfl opnds_nil)) rfl (m33_pipe_waiting_c hv6)) ?_
        refine dv rfl (opv_geq rfl rfl) ?_
        refine dv rfl (opv_bneq Tryd.underlying4 rfl rfl) ?_
        refine dnil ?_
        refine then_normal ?_
        refine ccond rfl (fun hc => ?_) (fun hc => ?_)
        · replace h := ite_t hc h
          clear hc
          refine cseq ?_
          refine cregion ?_
          refine sv rfl (opv_as rfl) ?_
          refine snil ?_
          refine cret ?_
          refine block_ret ?_
          refine then_ret ?_
          refine then_ret ?_
          refine block_ret ?_
          refine then_ret ?_
          obtain rfl := Option.some.inj h
          obtain rfl : Sum.inl _ = x3 := hk3
          replace ho3 : some _ = some _ := ho3
          obtain rfl := Option.some.inj ho3
          refine ⟨Or.inr rfl, _, _, _, (resVs_cons (ResV.tmp _ _ rfl) resVs_nil), (pubA_id rfl), ?_⟩
          rfl
        · replace h := ite_f hc h
          clear hc
          refine cskip ?_
          refine block_normal ?_
          refine then_normal ?_
          refine cregion ?_
          refine sv rfl (opv_mv rfl) ?_
          refine sv rfl (opv_add rfl rfl) ?_
          refine sv rfl (opv_as rfl) ?_
          refine snil ?_
          obtain rfl := Option.some.inj h
          exact ⟨(n3, (wI (s3 + 1))), _, hk3, ⟨rfl, rfl, trivial⟩, rfl, Nat.lt_succ_self _⟩
      · skip
        refine cregion ?_
        refine sv rfl (opv_mv rfl) ?_
        refine sv rfl (opv_fieldAddr_lp fi46_1 rfl) ?_
        refine sv rfl (opv_load1 ti3 rfl (.lp _ _ _ rfl) rfl) ?_
        refine sv rfl (opv_add rfl rfl) ?_
        refine sv rfl (opv_lss rfl rfl) ?_
        refine sv rfl (opv_mv rfl) ?_
        refine ssplit 32 rfl (fun hc => ?_) (fun hc => ?_)
        · replace h := ite_t hc h
          clear hc
          refine son rfl rfl rfl ?_
          refine sv rfl (opv_mv rfl) ?_
          refine son rfl rfl rfl ?_
          refine sv rfl (opv_leq rfl rfl) ?_
          refine sv rfl (opv_pick_t rfl rfl) ?_
          refine snil ?_
          refine ccond rfl (fun hc => ?_) (fun hc => ?_)
          · replace h := ite_t hc h
            clear hc
            refine cskip ?_
            refine then_normal ?_
            exact ⟨(), _, h, ⟨rfl, rfl, trivial⟩, rfl⟩
          · replace h := ite_f hc h
            clear hc
            refine cexit ?_
            refine then_exit ?_
            refine then_exit ?_
            refine block_hit ?_
            refine then_normal ?_
            obtain rfl := Option.some.inj h
            obtain rfl : _ = x3 := hk3
            exact ⟨(), _, ho3, trivial, rfl⟩
        · replace h := ite_f hc h
          clear hc
          refine soff rfl rfl rfl rfl ?_
          refine soff rfl rfl rfl rfl ?_
          refine sv rfl (opv_pick_f rfl rfl) ?_
          refine snil ?_
          refine ccond rfl (fun hx => Bool.noConfusion hx) (fun _ => ?_)
          refine cexit ?_
          refine then_exit ?_
          refine then_exit ?_
          refine block_hit ?_
          refine then_normal ?_
          obtain rfl := Option.some.inj h
          obtain rfl : _ = x3 := hk3
          exact ⟨(), _, ho3, trivial, rfl⟩
  · skip
    refine cregion ?_
    refine sv rfl (opv_fieldAddr_lp fi46_0 rfl) ?_
    refine sv rfl (opv_loadN ti42 rfl (.lp _ _ _ rfl) (Nat.le_of_ble_eq_true rfl)) ?_
    obtain ⟨v8, hv8, h⟩ := bind_eq h
    refine scall1 rfl fn62 (opnds_cons rfl opnds_nil) (pubA_id rfl) (m62_seqs_Sane_c hv8) ?_
    refine sv rfl (opv_not rfl) ?_
    refine sv rfl (opv_mv rfl) ?_
    refine ssplit 8 rfl (fun hc => ?_) (fun hc => ?_)
    · replace h := ite_t hc h
      clear hc
      refine soff rfl rfl rfl rfl ?_
      refine soff rfl rfl rfl rfl ?_
      refine soff rfl rfl rfl rfl ?_
      refine soff rfl rfl rfl rfl ?_
      refine soff rfl rfl rfl rfl ?_
      refine soff rfl rfl rfl rfl ?_
      refine sv rfl (opv_pick_t rfl rfl) ?_
      refine sv rfl (opv_mv rfl) ?_
      refine soff rfl rfl rfl rfl ?_
      refine soff rfl rfl rfl rfl ?_
      refine soff rfl rfl rfl rfl ?_
      refine soff rfl rfl rfl rfl ?_
      refine soff rfl rfl rfl rfl ?_
      refine soff rfl rfl rfl rfl ?_
      refine soff rfl rfl rfl rfl ?_
      refine sv rfl (opv_pick_t rfl rfl) ?_
      refine snil ?_
      refine ccond rfl (fun _ => ?_) (fun hx => Bool.noConfusion hx)
      refine cseq ?_
      refine cregion ?_
      refine sv rfl (opv_as rfl) ?_
      refine snil ?_
      refine cret ?_
      refine then_ret ?_
      obtain rfl := Option.some.inj h
      refine ⟨Or.inr rfl, _, _, _, (resVs_cons (ResV.tmp _ _ rfl) resVs_nil), (pubA_id rfl), ?_⟩
      rfl
    · replace h := ite_f hc h
      clear hc
      refine son rfl rfl rfl ?_
      refine sv rfl (opv_fieldAddr_lp fi46_0 rfl) ?_
      refine son rfl rfl rfl ?_
      refine sv rfl (opv_fieldAddr_lp fi42_0 rfl) ?_
      refine son rfl rfl rfl ?_
      refine sv rfl (opv_load1 ti3 rfl (.lp _ _ _ rfl) rfl) ?_
      refine son rfl rfl rfl ?_
      refine sv rfl (opv_fieldAddr_lp fi46_1 rfl) ?_
      refine son rfl rfl rfl ?_
      refine sv rfl (opv_load1 ti3 rfl (.lp _ _ _ rfl) rfl) ?_
      refine son rfl rfl rfl ?_
      refine sv rfl (opv_lss rfl rfl) ?_
      refine sv rfl (opv_pick_f rfl rfl) ?_
      refine sv rfl (opv_mv rfl) ?_
      refine ssplit 16 rfl (fun hc => ?_) (fun hc => ?_)
      · replace h := ite_t hc h
        clear hc
        refine soff rfl rfl rfl rfl ?_
        refine soff rfl rfl rfl rfl ?_
        refine soff rfl rfl rfl rfl ?_
        refine soff rfl rfl rfl rfl ?_
        refine soff rfl rfl rfl rfl ?_
        refine soff rfl rfl rfl rfl ?_
        refine soff rfl rfl rfl rfl ?_
        refine sv rfl (opv_pick_t rfl rfl) ?_
        refine snil ?_
        refine ccond rfl (fun _ => ?_) (fun hx => Bool.noConfusion hx)
        refine cseq ?_
        refine cregion ?_
        refine sv rfl (opv_as rfl) ?_
        refine snil ?_
        refine cret ?_
        refine then_ret ?_
        obtain rfl := Option.some.inj h
        refine ⟨Or.inr rfl, _, _, _, (resVs_cons (ResV.tmp _ _ rfl) resVs_nil), (pubA_id rfl), ?_⟩
        rfl
      · replace h := ite_f hc h
        clear hc
        refine son rfl rfl rfl ?_
        refine sv rfl (opv_fieldAddr_lp fi46_0 rfl) ?_
        refine son rfl rfl rfl ?_
        refine sv rfl (opv_fieldAddr_lp fi42_0 rfl) ?_
        refine son rfl rfl rfl ?_
        refine sv rfl (opv_load1 ti3 rfl (.lp _ _ _ rfl) rfl) ?_
        refine son rfl rfl rfl ?_
        refine sv rfl (opv_fieldAddr_lp fi46_1 rfl) ?_
        refine son rfl rfl rfl ?_
        refine sv rfl (opv_load1 ti3 rfl (.lp _ _ _ rfl) rfl) ?_
        refine son rfl rfl rfl ?_
        refine sv rfl (opv_add rfl rfl) ?_
        refine son rfl rfl rfl ?_
        refine sv rfl (opv_gtr rfl rfl) ?_
        refine sv rfl (opv_pick_f rfl rfl) ?_
        refine snil ?_
        refine ccond rfl (fun hc => ?_) (fun hc => ?_)
        · replace h := ite_t hc h
          clear hc
          refine cseq ?_
          refine cregion ?_
          refine sv rfl (opv_as rfl) ?_
          refine snil ?_
          refine cret ?_
          refine then_ret ?_
          obtain rfl := Option.some.inj h
          refine ⟨Or.inr rfl, _, _, _, (resVs_cons (ResV.tmp _ _ rfl) resVs_nil), (pubA_id rfl), ?_⟩
          rfl
        · replace h := ite_f hc h
          clear hc
          refine cskip ?_
          refine then_normal ?_
          exact ⟨(), _, h, ⟨rfl, trivial⟩, rfl⟩

def m27_pipe_Sane (a0 : GPipePipe) : Option Bool :=
  if (decide (0 ≤ a0.Next)) then (if (decide (a0.Next ≤ 4294967296)) then ((m43_pipe_saneWait (GPipePipe.mk (GSeqsWindow.mk a0.Win.Base a0.Win.Bits) a0.Next a0.Wait a0.Past)).bind fun v1 => if v1 then ((m44_pipe_sanePast (GPipePipe.mk (GSeqsWindow.mk a0.Win.Base a0.Win.Bits) a0.Next a0.Wait a0.Past)).bind fun v2 => if v2 then ((m45_pipe_saneWin (GPipePipe.mk (GSeqsWindow.mk a0.Win.Base a0.Win.Bits) a0.Next a0.Wait a0.Past)).bind fun v3 => some v3) else (some false)) else (some false)) else (some false)) else (some false)

set_option maxRecDepth 100000 in
theorem m27_pipe_Sane_c {a0 : GPipePipe} {r : Bool} (h : m27_pipe_Sane a0 = some r) : CallsA Tryd.prog 27 [.agg [.i .i64 a0.Win.Base, .i .u64 (a0.Win.Bits.toNat : Int), .i .i64 a0.Next, .sl a0.Wait.length (a0.Wait.flatMap eGMsgReq), .sl a0.Past.length (a0.Past.flatMap eGMsgReply)]] (· = .s (.one (.b r))) := by
  unfold m27_pipe_Sane at h
  refine callsA_of Tryd.func27 rfl (nt := 23) rfl (Nat.le_of_ble_eq_true rfl) ?_
  intro w0 S0
  refine cseq ?_
  refine cregion ?_
  refine sbox rfl rfl ?_
  refine sv rfl (opv_as rfl) ?_
  refine snil ?_
  refine cseq ?_
  refine cregion ?_
  refine sv rfl (opv_fieldAddr_lp fi46_1 rfl) ?_
  refine sv rfl (opv_load1 ti3 rfl (.lp _ _ _ rfl) rfl) ?_
  refine sv rfl (opv_geq rfl rfl) ?_
  refine sv rfl (opv_mv rfl) ?_
  refine ssplit 6 rfl (fun hc => ?_) (fun hc => ?_)
  · replace h := ite_t hc h
    clear hc
    refine son rfl rfl rfl ?_
    refine sv rfl (opv_fieldAddr_lp fi46_1 rfl) ?_
    refine son rfl rfl rfl ?_
    refine sv rfl (opv_load1 ti3 rfl (.lp _ _ _ rfl) rfl) ?_
    refine son rfl rfl rfl ?_
    refine sv rfl (opv_leq rfl rfl) ?_
    refine sv rfl (opv_pick_t rfl rfl) ?_
    refine sv rfl (opv_mv rfl) ?_
    refine ssplit 11 rfl (fun hc => ?_) (fun hc => ?_)
    · replace h := ite_t hc h
      clear hc
      refine son rfl rfl rfl ?_
      refine sv rfl (opv_loadN ti46 rfl (.lp _ _ _ rfl) (Nat.le_of_ble_eq_true rfl)) ?_
      refine son rfl rfl rfl ?_
      obtain ⟨v1, hv1, h⟩ := bind_eq h
      refine scall1 rfl fn43 (opnds_cons rfl opnds_nil) (pubA_id rfl) (m43_pipe_saneWait_c hv1) ?_
      refine sv rfl (opv_pick_t rfl rfl) ?_
      refine sv rfl (opv_mv rfl) ?_
      refine ssplit 15 rfl (fun hc => ?_) (fun hc => ?_)
      · replace h := ite_t hc h
        clear hc
        refine son rfl rfl rfl ?_
        refine sv rfl (opv_loadN ti46 rfl (.lp _ _ _ rfl) (Nat.le_of_ble_eq_true rfl)) ?_
        refine son rfl rfl rfl ?_
        obtain ⟨v2, hv2, h⟩ := bind_eq h
        refine scall1 rfl fn44 (opnds_cons rfl opnds_nil) (pubA_id rfl) (m44_pipe_sanePast_c hv2) ?_
        refine sv rfl (opv_pick_t rfl rfl) ?_
        refine sv rfl (opv_mv rfl) ?_
        refine ssplit 19 rfl (fun hc => ?_) (fun hc => ?_)
        · replace h := ite_t hc h
          clear hc
          refine son rfl rfl rfl ?_
          refine sv rfl (opv_loadN ti46 rfl (.lp _ _ _ rfl) (Nat.le_of_ble_eq_true rfl)) ?_
          refine son rfl rfl rfl ?_
          obtain ⟨v3, hv3, h⟩ := bind_eq h
          refine scall1 rfl fn45 (opnds_cons rfl opnds_nil) (pubA_id rfl) (m45_pipe_saneWin_c hv3) ?_
          refine sv rfl (opv_pick_t rfl rfl) ?_
          refine sv rfl (opv_as rfl) ?_
          refine snil ?_
          refine cret ?_
          obtain rfl := Option.some.inj h
          refine ⟨Or.inr rfl, _, _, _, (resVs_cons (ResV.tmp _ _ rfl) resVs_nil), (pubA_id rfl), ?_⟩
          rfl
        · replace h := ite_f hc h
          clear hc
          refine soff rfl rfl rfl rfl ?_
          refine soff rfl rfl rfl rfl ?_
          refine sv rfl (opv_pick_f rfl rfl) ?_
          refine sv rfl (opv_as rfl) ?_
          refine snil ?_
          refine cret ?_
          obtain rfl := Option.some.inj h
          refine ⟨Or.inr rfl, _, _, _, (resVs_cons (ResV.tmp _ _ rfl) resVs_nil), (pubA_id rfl), ?_⟩
          rfl
      · replace h := ite_f hc h
        clear hc
        refine soff rfl rfl rfl rfl ?_
        refine soff rfl rfl rfl rfl ?_
        refine sv rfl (opv_pick_f rfl rfl) ?_
        refine sv rfl (opv_mv rfl) ?_
        refine soff rfl rfl rfl rfl ?_
        refine soff rfl rfl rfl rfl ?_
        refine sv rfl (opv_pick_f rfl rfl) ?_
        refine sv rfl (opv_as rfl) ?_
        refine snil ?_
        refine cret ?_
        obtain rfl := Option.some.inj h
        refine ⟨Or.inr rfl, _, _, _, (resVs_cons (ResV.tmp _ _ rfl) resVs_nil), (pubA_id rfl), ?_⟩
        rfl
    · replace h := ite_f hc h
      clear hc
      refine soff rfl rfl rfl rfl ?_
      refine soff rfl rfl rfl rfl ?_
      refine sv rfl (opv_pick_f rfl rfl) ?_
      refine sv rfl (opv_mv rfl) ?_
      refine soff rfl rfl rfl rfl ?_
      refine soff rfl rfl rfl rfl ?_
      refine sv rfl (opv_pick_f rfl rfl) ?_
      refine sv rfl (opv_mv rfl) ?_
      refine soff rfl rfl rfl rfl ?_
      refine soff rfl rfl rfl rfl ?_
      refine sv rfl (opv_pick_f rfl rfl) ?_
      refine sv rfl (opv_as rfl) ?_
      refine snil ?_
      refine cret ?_
      obtain rfl := Option.some.inj h
      refine ⟨Or.inr rfl, _, _, _, (resVs_cons (ResV.tmp _ _ rfl) resVs_nil), (pubA_id rfl), ?_⟩
      rfl
  · replace h := ite_f hc h
    clear hc
    refine soff rfl rfl rfl rfl ?_
    refine soff rfl rfl rfl rfl ?_
    refine soff rfl rfl rfl rfl ?_
    refine sv rfl (opv_pick_f rfl rfl) ?_
    refine sv rfl (opv_mv rfl) ?_
    refine soff rfl rfl rfl rfl ?_
    refine soff rfl rfl rfl rfl ?_
    refine sv rfl (opv_pick_f rfl rfl) ?_
    refine sv rfl (opv_mv rfl) ?_
    refine soff rfl rfl rfl rfl ?_
    refine soff rfl rfl rfl rfl ?_
    refine sv rfl (opv_pick_f rfl rfl) ?_
    refine sv rfl (opv_mv rfl) ?_
    refine soff rfl rfl rfl rfl ?_
    refine soff rfl rfl rfl rfl ?_
    refine sv rfl (opv_pick_f rfl rfl) ?_
    refine sv rfl (opv_as rfl) ?_
    refine snil ?_
    refine cret ?_
    obtain rfl := Option.some.inj h
    refine ⟨Or.inr rfl, _, _, _, (resVs_cons (ResV.tmp _ _ rfl) resVs_nil), (pubA_id rfl), ?_⟩
    rfl

def m65_seqs_settle_k1 (b1 : Int × (BitVec 64)) : Option GSeqsWindow :=
  some (GSeqsWindow.mk b1.1 b1.2)

def m65_seqs_settle_s2 (s2 : Int × (BitVec 64)) : Option (LB (Int × (BitVec 64)) (Int × (BitVec 64))) :=
  (m68_seqs_digit s2.2 0).bind fun v3 => if v3 then (some (.cont ((wI (s2.1 + 1)), (s2.2 >>> (1 : Int).toNat)))) else (some (.brk (s2.1, s2.2)))
def m65_seqs_settle (a0 : GSeqsWindow) : Option GSeqsWindow :=
  (iterB m65_seqs_settle_s2 fuel (a0.Base, a0.Bits)).bind fun e4 => m65_seqs_settle_k1 e4

set_option maxRecDepth 100000 in
theorem m65_seqs_settle_c {a0 : GSeqsWindow} {r : GSeqsWindow} (h : m65_seqs_settle a0 = some r) : CallsA Tryd.prog 65 [.agg [.i .i64 a0.Base, .i .u64 (a0.Bits.toNat : Int)]] (· = .s (.agg [.i .i64 r.Base, .i .u64 (r.Bits.toNat : Int)])) := by
  unfold m65_seqs_settle at h
  refine callsA_of Tryd.func65 rfl (nt := 15) rfl (Nat.le_of_ble_eq_true rfl) ?_
  intro w0 S0
  refine cseq ?_
  refine cregion ?_
  refine sbox rfl rfl ?_
  refine salloc rfl zi42 ?_
  refine snil ?_
  refine cseq ?_
  refine cjoin (Int × (BitVec 64)) (fun b1 => [(1, .s (.one (.lp 0 0))), (2, .s (.one (.lp 1 0)))]) (fun b1 => [.box [.i .i64 b1.1, .i .u64 (b1.2.toNat : Int)], .box [.i .i64 0, .i .u64 ((0#64).toNat : Int)]]) (fun b1 => m65_seqs_settle_k1 b1 = some r) (fun _ _ => inbL_of rfl) (fun _ _ => blkinb_of rfl) (fun _ _ => Nat.le_of_ble_eq_true rfl) (fun b1 h => ?_) ?_
  · unfold m65_seqs_settle_k1 at h
    refine cseq ?_
    refine cregion ?_
    refine sv rfl (opv_loadN ti42 rfl (.lp _ _ _ rfl) (Nat.le_of_ble_eq_true rfl)) ?_
    refine sstore sz42 rfl rfl rfl rfl (Nat.le_of_ble_eq_true rfl) ?_
    refine smem [.box [.i .i64 b1.1, .i .u64 (b1.2.toNat : Int)], .box [.i .i64 b1.1, .i .u64 (b1.2.toNat : Int)]] rfl ?_
    refine snil ?_
    refine cret ?_
    obtain rfl := Option.some.inj h
    refine ⟨Or.inr rfl, _, _, _, (resVs_cons (ResV.agg _ _ _ _ _ ti42 rfl (.lp _ _ _ rfl) (Nat.le_of_ble_eq_true rfl)) resVs_nil), (pubA_id rfl), ?_⟩
    rfl
  · skip
    refine cblock ?_
    obtain ⟨x2, hx2, ho2⟩ := bind_eq h
    refine awc_loop (G := Nat × (Int × (BitVec 64))) (fun g => [(1, .s (.one (.lp 0 0))), (2, .s (.one (.lp 1 0)))]) (fun g => [.box [.i .i64 g.2.1, .i .u64 (g.2.2.toNat : Int)], .box [.i .i64 0, .i .u64 ((0#64).toNat : Int)]]) (fun g => iterB m65_seqs_settle_s2 g.1 g.2 = some x2) (fun g => g.1) (fuel, (a0.Base, a0.Bits)) hx2 ⟨rfl, rfl, trivial⟩ [] rfl (fun _ _ => inbL_of rfl) (fun _ _ => blkinb_of rfl) (fun _ _ => Nat.le_of_ble_eq_true rfl) ?_
    clear hx2 h
    rintro ⟨n2, s2⟩ h
    obtain ⟨n2, y2, rfl, h, hk2⟩ := iterB_eq h
    unfold m65_seqs_settle_s2 at h
    refine cseq ?_
    refine cseq ?_
    refine cregion ?_
    refine sv rfl (opv_fieldAddr_lp fi42_1 rfl) ?_
    refine sv rfl (opv_load1 ti22 rfl (.lp _ _ _ rfl) rfl) ?_
    obtain ⟨v3, hv3, h⟩ := bind_eq h
    refine scall1 rfl fn68 (opnds_cons rfl (opnds_cons rfl opnds_nil)) (pubA_id rfl) (m68_seqs_digit_c hv3) ?_
    refine snil ?_
    refine ccond rfl (fun hc => ?_) (fun hc => ?_)
    · replace h := ite_t hc h
      clear hc
      refine cskip ?_
      refine then_normal ?_
      refine cblock ?_
      refine cseq ?_
      refine cregion ?_
      refine sv rfl (opv_fieldAddr_lp fi42_0 rfl) ?_
      refine sv rfl (opv_load1 ti3 rfl (.lp _ _ _ rfl) rfl) ?_
      refine sv rfl (opv_add rfl rfl) ?_
      refine sv rfl (opv_fieldAddr_lp fi42_0 rfl) ?_
      refine sstore sz3 rfl rfl rfl rfl (Nat.le_of_ble_eq_true rfl) ?_
      refine smem [.box [.i .i64 (wI (s2.1 + 1)), .i .u64 (s2.2.toNat : Int)], .box [.i .i64 0, .i .u64 ((0#64).toNat : Int)]] rfl ?_
      refine snil ?_
      refine cregion ?_
      refine sv rfl (opv_fieldAddr_lp fi42_1 rfl) ?_
      refine sv rfl (opv_load1 ti22 rfl (.lp _ _ _ rfl) rfl) ?_
      refine sv rfl (opv_shr_u64 (a := s2.2) rfl rfl rfl (by decide)) ?_
      refine sv rfl (opv_fieldAddr_lp fi42_1 rfl) ?_
      refine sstore sz22 rfl rfl rfl rfl (Nat.le_of_ble_eq_true rfl) ?_
      refine smem [.box [.i .i64 (wI (s2.1 + 1)), .i .u64 ((s2.2 >>> (1 : Int).toNat).toNat : Int)], .box [.i .i64 0, .i .u64 ((0#64).toNat : Int)]] rfl ?_
      refine snil0 ?_
      refine block_normal ?_
      refine then_normal ?_
      obtain rfl := Option.some.inj h
      exact ⟨(n2, ((wI (s2.1 + 1)), (s2.2 >>> (1 : Int).toNat))), _, hk2, ⟨rfl, rfl, trivial⟩, rfl, Nat.lt_succ_self _⟩
    · replace h := ite_f hc h
      clear hc
      refine cexit ?_
      refine then_exit ?_
      refine then_exit ?_
      refine block_hit ?_
      refine then_normal ?_
      obtain rfl := Option.some.inj h
      obtain rfl : _ = x2 := hk2
      exact ⟨(s2.1, s2.2), _, ho2, ⟨rfl, rfl, trivial⟩, rfl⟩

def m34_seqs_Accept (a0 : GSeqsWindow) (a1 : Int) : Option (GSeqsWindow × Int) :=
  (m62_seqs_Sane a0).bind fun v1 => if (!v1) then (some ((GSeqsWindow.mk 0 (0#64)), 1)) else ((m63_seqs_saneSeq a1).bind fun v2 => if (!v2) then (some ((GSeqsWindow.mk 0 (0#64)), 1)) else ((m64_seqs_Seen a0 a1).bind fun v3 => if v3 then (some ((GSeqsWindow.mk 0 (0#64)), 7)) else (if (decide (64 ≤ (wI (a1 - a0.Base)))) then (some ((GSeqsWindow.mk 0 (0#64)), 8)) else (if 0 ≤ (wI (a1 - a0.Base)) then ((m65_seqs_settle (GSeqsWindow.mk a0.Base (a0.Bits ||| ((1#64) <<< (wI (a1 - a0.Base)).toNat)))).bind fun v5 => some (v5, 0)) else none))))

set_option maxRecDepth 100000 in
theorem m34_seqs_Accept_c {a0 : GSeqsWindow} {a1 : Int} {r : GSeqsWindow × Int} (h : m34_seqs_Accept a0 a1 = some r) : CallsA Tryd.prog 34 [.agg [.i .i64 a0.Base, .i .u64 (a0.Bits.toNat : Int)], .one (.i .i64 a1)] (· = .tup [.agg [.i .i64 r.1.Base, .i .u64 (r.1.Bits.toNat : Int)], .one (.i .i64 r.2)]) := by
  unfold m34_seqs_Accept at h
  refine callsA_of Tryd.func34 rfl (nt := 40) rfl (Nat.le_of_ble_eq_true rfl) ?_
  intro w0 S0
  refine cseq ?_
  refine cregion ?_
  refine sbox rfl rfl ?_
  refine salloc rfl zi42 ?_
  refine sv rfl (opv_as rfl) ?_
  refine snil ?_
  refine cseq ?_
  refine cblock ?_
  refine cseq ?_
  refine cregion ?_
  refine sv rfl (opv_loadN ti42 rfl (.lp _ _ _ rfl) (Nat.le_of_ble_eq_true rfl)) ?_
  obtain ⟨v1, hv1, h⟩ := bind_eq h
  refine scall1 rfl fn62 (opnds_cons rfl opnds_nil) (pubA_id rfl) (m62_seqs_Sane_c hv1) ?_
  refine sv rfl (opv_not rfl) ?_
  refine sv rfl (opv_mv rfl) ?_
  refine ssplit 10 rfl (fun hc => ?_) (fun hc => ?_)
  · replace h := ite_t hc h
    clear hc
    refine soff rfl rfl rfl rfl ?_
    refine soff rfl rfl rfl rfl ?_
    refine soff rfl rfl rfl rfl ?_
    refine sv rfl (opv_pick_t rfl rfl) ?_
    refine sv rfl (opv_as rfl) ?_
    refine snil ?_
    refine ccond rfl (fun _ => ?_) (fun hx => Bool.noConfusion hx)
    refine cseq ?_
    refine cregion ?_
    refine sv rfl (opv_build zi42 pi42 parts_nil (.nil _)) ?_
    refine sstore sz42 rfl rfl rfl rfl (Nat.le_of_ble_eq_true rfl) ?_
    refine smem [.box [.i .i64 a0.Base, .i .u64 (a0.Bits.toNat : Int)], .box [.i .i64 0, .i .u64 ((0#64).toNat : Int)]] rfl ?_
    refine sv rfl (opv_as rfl) ?_
    refine snil ?_
    refine cret ?_
    refine block_ret ?_
    refine then_ret ?_
    obtain rfl := Option.some.inj h
    refine ⟨Or.inr rfl, _, _, _, (resVs_cons (ResV.agg _ _ _ _ _ ti42 rfl (.lp _ _ _ rfl) (Nat.le_of_ble_eq_true rfl)) (resVs_cons (ResV.tmp _ _ rfl) resVs_nil)), (pubA_id rfl), ?_⟩
    rfl
  · replace h := ite_f hc h
    clear hc
    refine son rfl rfl rfl ?_
    refine sv rfl (opv_mv rfl) ?_
    refine son rfl rfl rfl ?_
    obtain ⟨v2, hv2, h⟩ := bind_eq h
    refine scall1 rfl fn63 (opnds_cons rfl opnds_nil) (pubA_id rfl) (m63_seqs_saneSeq_c hv2) ?_
    refine son rfl rfl rfl ?_
    refine sv rfl (opv_not rfl) ?_
    refine sv rfl (opv_pick_f rfl rfl) ?_
    refine sv rfl (opv_as rfl) ?_
    refine snil ?_
    refine ccond rfl (fun hc => ?_) (fun hc => ?_)
    · replace h := ite_t hc h
      clear hc
      refine cseq ?_
      refine cregion ?_
      refine sv rfl (opv_build zi42 pi42 parts_nil (.nil _)) ?_
      refine sstore sz42 rfl rfl rfl rfl (Nat.le_of_ble_eq_true rfl) ?_
      refine smem [.box [.i .i64 a0.Base, .i .u64 (a0.Bits.toNat : Int)], .box [.i .i64 0, .i .u64 ((0#64).toNat : Int)]] rfl ?_
      refine sv rfl (opv_as rfl) ?_
      refine snil ?_
      refine cret ?_
      refine block_ret ?_
      refine then_ret ?_
      obtain rfl := Option.some.inj h
      refine ⟨Or.inr rfl, _, _, _, (resVs_cons (ResV.agg _ _ _ _ _ ti42 rfl (.lp _ _ _ rfl) (Nat.le_of_ble_eq_true rfl)) (resVs_cons (ResV.tmp _ _ rfl) resVs_nil)), (pubA_id rfl), ?_⟩
      rfl
    · replace h := ite_f hc h
      clear hc
      refine cseq ?_
      refine cregion ?_
      refine sv rfl (opv_loadN ti42 rfl (.lp _ _ _ rfl) (Nat.le_of_ble_eq_true rfl)) ?_
      refine sv rfl (opv_mv rfl) ?_
      obtain ⟨v3, hv3, h⟩ := bind_eq h
      refine scall1 rfl fn64 (opnds_cons rfl (opnds_cons rfl opnds_nil)) (pubA_id rfl) (m64_seqs_Seen_c hv3) ?_
      refine sv rfl (opv_as rfl) ?_
      refine snil ?_
      refine ccond rfl (fun hc => ?_) (fun hc => ?_)
      · replace h := ite_t hc h
        clear hc
        refine cseq ?_
        refine cregion ?_
        refine sv rfl (opv_build zi42 pi42 parts_nil (.nil _)) ?_
        refine sstore sz42 rfl rfl rfl rfl (Nat.le_of_ble_eq_true rfl) ?_
        refine smem [.box [.i .i64 a0.Base, .i .u64 (a0.Bits.toNat : Int)], .box [.i .i64 0, .i .u64 ((0#64).toNat : Int)]] rfl ?_
        refine sv rfl (opv_as rfl) ?_
        refine snil ?_
        refine cret ?_
        refine block_ret ?_
        refine then_ret ?_
        obtain rfl := Option.some.inj h
        refine ⟨Or.inr rfl, _, _, _, (resVs_cons (ResV.agg _ _ _ _ _ ti42 rfl (.lp _ _ _ rfl) (Nat.le_of_ble_eq_true rfl)) (resVs_cons (ResV.tmp _ _ rfl) resVs_nil)), (pubA_id rfl), ?_⟩
        rfl
      · replace h := ite_f hc h
        clear hc
        refine cseq ?_
        refine cregion ?_
        refine sv rfl (opv_mv rfl) ?_
        refine sv rfl (opv_fieldAddr_lp fi42_0 rfl) ?_
        refine sv rfl (opv_load1 ti3 rfl (.lp _ _ _ rfl) rfl) ?_
        refine sv rfl (opv_sub rfl rfl) ?_
        refine sv rfl (opv_geq rfl rfl) ?_
        refine sv rfl (opv_as rfl) ?_
        refine snil ?_
        refine ccond rfl (fun hc => ?_) (fun hc => ?_)
        · replace h := ite_t hc h
          clear hc
          refine cseq ?_
          refine cregion ?_
          refine sv rfl (opv_build zi42 pi42 parts_nil (.nil _)) ?_
          refine sstore sz42 rfl rfl rfl rfl (Nat.le_of_ble_eq_true rfl) ?_
          refine smem [.box [.i .i64 a0.Base, .i .u64 (a0.Bits.toNat : Int)], .box [.i .i64 0, .i .u64 ((0#64).toNat : Int)]] rfl ?_
          refine sv rfl (opv_as rfl) ?_
          refine snil ?_
          refine cret ?_
          refine block_ret ?_
          refine then_ret ?_
          obtain rfl := Option.some.inj h
          refine ⟨Or.inr rfl, _, _, _, (resVs_cons (ResV.agg _ _ _ _ _ ti42 rfl (.lp _ _ _ rfl) (Nat.le_of_ble_eq_true rfl)) (resVs_cons (ResV.tmp _ _ rfl) resVs_nil)), (pubA_id rfl), ?_⟩
          rfl
        · replace h := ite_f hc h
          clear hc
          refine cskip ?_
          refine block_normal ?_
          refine then_normal ?_
          refine cseq ?_
          obtain ⟨hz4, h⟩ := chk_eq h
          obtain ⟨v5, hv5, h⟩ := bind_eq h
          refine cdraw_e [12] [0, 1, 0, 4, 0, 0, 32, 112, 240, 508, 1023, 2047, 4095, 8191] [[.box [.i .i64 a0.Base, .i .u64 (a0.Bits.toNat : Int)], .box [.i .i64 0, .i .u64 ((0#64).toNat : Int)]], [.box [.i .i64 a0.Base, .i .u64 (a0.Bits.toNat : Int)], .box [.i .i64 v5.Base, .i .u64 (v5.Bits.toNat : Int)]]] (by kernel_rfl) mixed (by kernel_rfl) (by decide) rfl rfl rfl rfl ?_
          refine ev (sees_at 0 rfl rfl) rfl rfl (opv_fieldAddr_lp fi42_0 rfl) ?_
          refine ev (sees_at 0 rfl rfl) rfl rfl (opv_load1 ti3 rfl (.lp _ _ _ rfl) rfl) ?_
          refine ev (sees_at 0 rfl rfl) rfl rfl (opv_fieldAddr_lp fi42_1 rfl) ?_
          refine ev (sees_at 0 rfl rfl) rfl rfl (opv_load1 ti22 rfl (.lp _ _ _ rfl) rfl) ?_
          refine ev (sees_at 0 rfl rfl) rfl rfl (opv_mv rfl) ?_
          refine ev (sees_at 0 rfl rfl) rfl rfl (opv_fieldAddr_lp fi42_0 rfl) ?_
          refine ev (sees_at 0 rfl rfl) rfl rfl (opv_load1 ti3 rfl (.lp _ _ _ rfl) rfl) ?_
          refine ev (sees_at 0 rfl rfl) rfl rfl (opv_sub rfl rfl) ?_
          refine ev (sees_at 0 rfl rfl) rfl rfl (opv_shl_u64 (a := 1#64) rfl rfl rfl hz4) ?_
          refine ev (sees_at 0 rfl rfl) rfl rfl (opv_or_u64 (a := a0.Bits) (b := ((1#64) <<< (wI (a1 - a0.Base)).toNat)) rfl rfl rfl rfl) ?_
          refine ev (sees_at 0 rfl rfl) rfl rfl (opv_build zi42 pi42 (parts_cons rfl (parts_cons rfl parts_nil)) (.cons _ _ _ _ _ _ _ rfl rfl (Nat.le_of_ble_eq_true rfl) (.cons _ _ _ _ _ _ _ rfl rfl (Nat.le_of_ble_eq_true rfl) (.nil _)))) ?_
          refine ed (sees_at 0 rfl rfl) rfl rfl (opD_call fn65 (opnds_cons rfl opnds_nil) rfl (m65_seqs_settle_c hv5)) ?_
          refine ee0 0 rfl rfl rfl rfl (fun ζ => ?_) ?_
          · refine sstore sz42 rfl rfl rfl rfl (Nat.le_of_ble_eq_true rfl) ?_
            refine smem [.box [.i .i64 a0.Base, .i .u64 (a0.Bits.toNat : Int)], .box [.i .i64 v5.Base, .i .u64 (v5.Bits.toNat : Int)]] rfl ?_
            exact eend
          refine ev (sees_at 1 rfl rfl) rfl rfl (opv_as rfl) ?_
          refine enil ?_
          refine then_normal ?_
          refine cret ?_
          obtain rfl := Option.some.inj h
          refine ⟨Or.inr rfl, _, _, _, (resVs_cons (ResV.agg _ _ _ _ _ ti42 rfl (.lp _ _ _ rfl) (Nat.le_of_ble_eq_true rfl)) (resVs_cons (ResV.tmp _ _ rfl) resVs_nil)), (pubA_id rfl), ?_⟩
          rfl

def m69_slices_Growo_k1 (a0 : Int) (b1 : Unit) : Option (List GMsgReq) :=
  if (decide (0 < (wI (a0 - (wI (0 - 0)))))) then (if 0 < (wI (a0 - (wI (0 - 0)))) ∧ (wI (a0 - (wI (0 - 0)))) * ((144 : Nat) : Int) ≤ 281474976710656 then (if (0 : Int) ≤ 0 ∧ 0 ≤ ((List.replicate (wI (a0 - (wI (0 - 0)))).toNat (GMsgReq.mk 0 0 0 0 false ([] : List UInt8) ([] : List UInt8) (GApiRange.mk ([] : List UInt8) ([] : List UInt8) false))).length : Int) then (some ((List.replicate (wI (a0 - (wI (0 - 0)))).toNat (GMsgReq.mk 0 0 0 0 false ([] : List UInt8) ([] : List UInt8) (GApiRange.mk ([] : List UInt8) ([] : List UInt8) false))).take (0 : Int).toNat)) else none) else none) else (some ([] : List GMsgReq))
def m69_slices_Growo (a0 : Int) : Option (List GMsgReq) :=
  if (decide (a0 < 0)) then none else (m69_slices_Growo_k1 a0 ())

set_option maxRecDepth 100000 in
theorem m69_slices_Growo_c {a0 : Int} {r : (List GMsgReq)} (h : m69_slices_Growo a0 = some r) : CallsB Tryd.prog 69 [] [.one (.raw (.slice none 0 0)), .one (.i .i64 a0)] (fun y m' => y = .s (.one (.ls 0 r.length)) ∧ m' = [.arr 51 10 0 (r.flatMap eGMsgReq)]) := by
  unfold m69_slices_Growo at h
  refine callsB_of Tryd.func69 rfl (nt := 27) rfl (Nat.le_of_ble_eq_true rfl) ?_
  intro w0 S0 X0 H0
  refine cseq ?_
  refine cregion ?_
  refine sv rfl (opv_as rfl) ?_
  refine snil ?_
  refine cseq ?_
  refine cseq ?_
  refine cregion ?_
  refine sv rfl (opv_mv rfl) ?_
  refine sv rfl (opv_lss rfl rfl) ?_
  refine snil ?_
  refine cjoin (Unit) (fun b1 => [(0, .s (.one (.raw (.slice none 0 0)))), (1, .s (.one (.i .i64 a0)))]) (fun b1 => []) (fun b1 => m69_slices_Growo_k1 a0 b1 = some r) (fun _ _ => inbL_of rfl) (fun _ _ => blkinb_of rfl) (fun _ _ => Nat.le_of_ble_eq_true rfl) (fun b1 h => ?_) ?_
  · unfold m69_slices_Growo_k1 at h
    refine cseq ?_
    refine cseq ?_
    refine cregion ?_
    refine sv rfl (opv_mv rfl) ?_
    refine sv rfl (opv_mv rfl) ?_
    refine sv rfl (opv_cap_nil si43 rfl) ?_
    refine sv rfl (opv_mv rfl) ?_
    refine sv rfl (opv_len_nil si43 rfl) ?_
    refine sv rfl (opv_sub rfl rfl) ?_
    refine sv rfl (opv_sub rfl rfl) ?_
    refine sv rfl (opv_as rfl) ?_
    refine snil ?_
    refine cseq ?_
    refine cregion ?_
    refine sv rfl (opv_mv rfl) ?_
    refine sv rfl (opv_gtr rfl rfl) ?_
    refine snil ?_
    refine ccond rfl (fun hc => ?_) (fun hc => ?_)
    · replace h := ite_t hc h
      clear hc
      refine cregion ?_
      refine sv rfl (opv_mv rfl) ?_
      refine sv rfl (opv_mv rfl) ?_
      refine sv rfl (opv_cap_nil si43 rfl) ?_
      refine sv rfl (opv_slice_nil si43 rfl rfl) ?_
      refine sv rfl (opv_mv rfl) ?_
      obtain ⟨hm2, h⟩ := chk_eq h
      refine sappzc (f := eGMsgReq) (z := (GMsgReq.mk 0 0 0 0 false ([] : List UInt8) ([] : List UInt8) (GApiRange.mk ([] : List UInt8) ([] : List UInt8) false))) rfl Tryd.underlying43 ei51 Tryd.underlying3 (fun _ => rfl) rfl rfl rfl hm2 (by decide) ?_
      refine sv rfl (opv_mv rfl) ?_
      refine sv rfl (opv_len_nil si43 rfl) ?_
      obtain ⟨hs3, h⟩ := chk_eq h
      refine strunc (f := eGMsgReq) rfl si43 (fun _ => rfl) rfl rfl rfl rfl rfl hs3 ?_
      refine sv rfl (opv_as rfl) ?_
      refine snil ?_
      refine cseq ?_
      refine cregion ?_
      refine sv rfl (opv_mv rfl) ?_
      refine sv rfl (opv_as rfl) ?_
      refine snil ?_
      refine cret ?_
      obtain rfl := Option.some.inj h
      exact ⟨Or.inr rfl, _, [1], [.one (.ls 0 ((List.replicate (wI (a0 - (wI (0 - 0)))).toNat (GMsgReq.mk 0 0 0 0 false ([] : List UInt8) ([] : List UInt8) (GApiRange.mk ([] : List UInt8) ([] : List UInt8) false))).take (0 : Int).toNat).length)], [.arr 51 10 0 (((List.replicate (wI (a0 - (wI (0 - 0)))).toNat (GMsgReq.mk 0 0 0 0 false ([] : List UInt8) ([] : List UInt8) (GApiRange.mk ([] : List UInt8) ([] : List UInt8) false))).take (0 : Int).toNat).flatMap eGMsgReq)], (resVs_cons (ResV.tmp _ _ rfl) resVs_nil), rfl, rfl, ⟨by decide, rfl⟩, rfl, rfl, ⟨rfl, rfl⟩⟩
    · replace h := ite_f hc h
      clear hc
      refine cskip ?_
      refine then_normal ?_
      refine cseq ?_
      refine cregion ?_
      refine sv rfl (opv_mv rfl) ?_
      refine sv rfl (opv_as rfl) ?_
      refine snil ?_
      refine sadopt_c 51 10 4 (by decide) rfl ?_
      refine cret ?_
      obtain rfl := Option.some.inj h
      exact ⟨Or.inr rfl, _, [0], [.one (.ls 0 ([] : List GMsgReq).length)], [.arr 51 10 0 (([] : List GMsgReq).flatMap eGMsgReq)], (resVs_cons (ResV.tmp _ _ rfl) resVs_nil), rfl, rfl, ⟨by decide, rfl⟩, rfl, rfl, ⟨rfl, rfl⟩⟩
  · skip
    refine ccond rfl (fun hc => ?_) (fun hc => ?_)
    · replace h := ite_t hc h
      clear hc
      cases h
    · replace h := ite_f hc h
      clear hc
      refine cskip ?_
      refine then_normal ?_
      exact ⟨(), _, h, ⟨rfl, rfl, trivial⟩, rfl⟩

def m66_slices_Concat_k3 (b3 : (List GMsgReq)) : Option (List GMsgReq) :=
  some b3

def m66_slices_Concat_s4 (a0 : List (List GMsgReq)) (s4 : Int × (List GMsgReq)) : Option (LB (Int × (List GMsgReq)) ((List GMsgReq))) :=
  if (decide (s4.1 < (a0.length : Int))) then ((idx a0 s4.1).bind fun u5 => if (s4.2.length + u5.length) * 144 ≤ 140737488355328 then (some (.cont ((wI (s4.1 + 1)), (s4.2 ++ u5)))) else none) else (some (.brk s4.2))

def m66_slices_Concat_k1 (a0 : List (List GMsgReq)) (b1 : Int) : Option (List GMsgReq) :=
  (m69_slices_Growo b1).bind fun v2 => (iterB (m66_slices_Concat_s4 a0) fuel (0, v2)).bind fun e7 => m66_slices_Concat_k3 e7

def m66_slices_Concat_s8 (a0 : List (List GMsgReq)) (s8 : Int × Int) : Option (LB (Int × Int) (Int)) :=
  if (decide (s8.2 < (a0.length : Int))) then ((idx a0 s8.2).bind fun u9 => if (decide ((wI (s8.1 + (u9.length : Int))) < 0)) then none else (some (.cont ((wI (s8.1 + (u9.length : Int))), (wI (s8.2 + 1)))))) else (some (.brk s8.1))
def m66_slices_Concat (a0 : List (List GMsgReq)) : Option (List GMsgReq) :=
  (iterB (m66_slices_Concat_s8 a0) fuel (0, 0)).bind fun e10 => m66_slices_Concat_k1 a0 e10

set_option maxRecDepth 100000 in
theorem m66_slices_Concat_c {a0 : List (List GMsgReq)} {r : (List GMsgReq)} (h : m66_slices_Concat a0 = some r) : CallsA Tryd.prog 66 [.one (.sl a0.length (a0.flatMap (eL eGMsgReq)))] (· = .s (.one (.sl r.length (r.flatMap eGMsgReq)))) := by
  unfold m66_slices_Concat at h
  refine callsA_of Tryd.func66 rfl (nt := 36) rfl (Nat.le_of_ble_eq_true rfl) ?_
  intro w0 S0
  refine cseq ?_
  refine cregion ?_
  refine sv rfl (opv_as rfl) ?_
  refine snil ?_
  refine cseq ?_
  refine cregion ?_
  refine sv rfl (opv_as rfl) ?_
  refine snil ?_
  refine cseq ?_
  refine cseq ?_
  refine cregion ?_
  refine sv rfl (opv_mv rfl) ?_
  refine sv rfl (opv_len_sl si114 rfl) ?_
  refine sv rfl (opv_mv rfl) ?_
  refine snil ?_
  refine cjoin (Int) (fun b1 => [(0, .s (.one (.sl a0.length (a0.flatMap (eL eGMsgReq))))), (3, .s (.one (.i .i64 b1)))]) (fun b1 => []) (fun b1 => m66_slices_Concat_k1 a0 b1 = some r) (fun _ _ => inbL_of rfl) (fun _ _ => blkinb_of rfl) (fun _ _ => Nat.le_of_ble_eq_true rfl) (fun b1 h => ?_) ?_
  · unfold m66_slices_Concat_k1 at h
    refine cseq ?_
    refine cregion ?_
    refine sv rfl (opv_mv rfl) ?_
    obtain ⟨v2, hv2, h⟩ := bind_eq h
    refine scallB (x' := .s (.one (.ls 0 v2.length))) (M' := [.arr 51 10 0 (v2.flatMap eGMsgReq)]) [] rfl fn69 (.func _) (opnds_cons rfl (opnds_cons rfl opnds_nil)) (m69_slices_Growo_c hv2) rfl rfl (by decide) rfl rfl rfl ?_
    refine sv rfl (opv_as rfl) ?_
    refine snil ?_
    refine cseq ?_
    refine cseq ?_
    refine cregion ?_
    refine sv rfl (opv_mv rfl) ?_
    refine sv rfl (opv_len_sl si114 rfl) ?_
    refine sv rfl (opv_mv rfl) ?_
    refine snil ?_
    refine cjoin ((List GMsgReq)) (fun b3 => [(6, .s (.one (.ls 0 b3.length)))]) (fun b3 => [.arr 51 10 0 (b3.flatMap eGMsgReq)]) (fun b3 => m66_slices_Concat_k3 b3 = some r) (fun _ _ => inbL_of rfl) (fun _ _ => blkinb_of rfl) (fun _ _ => Nat.le_of_ble_eq_true rfl) (fun b3 h => ?_) ?_
    · unfold m66_slices_Concat_k3 at h
      refine cseq ?_
      refine cregion ?_
      refine sv rfl (opv_mv rfl) ?_
      refine sv rfl (opv_as rfl) ?_
      refine snil ?_
      refine cret ?_
      obtain rfl := Option.some.inj h
      refine ⟨Or.inr rfl, _, _, _, (resVs_cons (ResV.tmp _ _ rfl) resVs_nil), (by (repeat' first | exact PubA.nil _ | apply PubA.cons | apply PubV.one | apply PubV.agg | exact PubL.nil | exact PubL.ls _ _ _ _ _ _ rfl (flat_len (f := eGMsgReq) (fun _ => rfl) _).symm | exact PubL.id _ rfl | exact PubLs.nil _ | apply PubLs.cons)), ?_⟩
      rfl
    · skip
      refine cblock ?_
      obtain ⟨x4, hx4, ho4⟩ := bind_eq h
      refine awc_loop (G := Nat × (Int × (List GMsgReq))) (fun g => [(6, .s (.one (.ls 0 g.2.2.length))), (25, .s (.one (.sl a0.length (a0.flatMap (eL eGMsgReq))))), (26, .s (.one (.i .i64 (a0.length : Int)))), (27, .s (.one (.i .i64 g.2.1)))]) (fun g => [.arr 51 10 0 (g.2.2.flatMap eGMsgReq)]) (fun g => iterB (m66_slices_Concat_s4 a0) g.1 g.2 = some x4) (fun g => g.1) (fuel, (0, v2)) hx4 ⟨rfl, rfl, rfl, rfl, trivial⟩ [] rfl (fun _ _ => inbL_of rfl) (fun _ _ => blkinb_of rfl) (fun _ _ => Nat.le_of_ble_eq_true rfl) ?_
      clear hx4 h
      rintro ⟨n4, s4⟩ h
      obtain ⟨n4, y4, rfl, h, hk4⟩ := iterB_eq h
      unfold m66_slices_Concat_s4 at h
      refine cseq ?_
      refine cregion ?_
      refine sv rfl (opv_lss rfl rfl) ?_
      refine snil ?_
      refine cseq ?_
      refine ccond rfl (fun hc => ?_) (fun hc => ?_)
      · replace h := ite_t hc h
        clear hc
        refine cskip ?_
        refine then_normal ?_
        refine cseq ?_
        refine cblock ?_
        refine cseq ?_
        refine cregion ?_
        obtain ⟨u5, hu5, h⟩ := bind_eq h
        refine sv rfl (opv_ix (f := (eL eGMsgReq)) si114 (fun _ => rfl) rfl rfl rfl rfl hu5) ?_
        refine sv rfl (opv_load1 ti43 rfl (.cp _) rfl) ?_
        refine sv rfl (opv_as rfl) ?_
        refine snil ?_
        refine cregion ?_
        refine sv rfl (opv_mv rfl) ?_
        refine sv rfl (opv_mv rfl) ?_
        obtain ⟨hb6, h⟩ := chk_eq h
        refine sapp (f := eGMsgReq) (xs := s4.2) (us := u5) rfl Tryd.underlying43 ei51 ni43 (fun _ => rfl) rfl rfl (.one _ _ _ _ (.id _ rfl)) rfl rfl rfl (.sl _ _ _ (flat_len (f := eGMsgReq) (fun _ => rfl) _)) rfl rfl hb6 (by decide) ?_
        refine sv rfl (opv_as rfl) ?_
        refine snil0 ?_
        refine block_normal ?_
        refine then_normal ?_
        refine cregion ?_
        refine sv rfl (opv_add rfl rfl) ?_
        refine sv rfl (opv_mv rfl) ?_
        refine snil ?_
        obtain rfl := Option.some.inj h
        exact ⟨(n4, ((wI (s4.1 + 1)), (s4.2 ++ u5))), _, hk4, ⟨rfl, rfl, rfl, rfl, trivial⟩, rfl, Nat.lt_succ_self _⟩
      · replace h := ite_f hc h
        clear hc
        refine cexit ?_
        refine then_exit ?_
        refine then_exit ?_
        refine block_hit ?_
        refine then_normal ?_
        obtain rfl := Option.some.inj h
        obtain rfl : _ = x4 := hk4
        exact ⟨s4.2, _, ho4, ⟨rfl, trivial⟩, rfl⟩
  · skip
    refine cblock ?_
    obtain ⟨x8, hx8, ho8⟩ := bind_eq h
    refine awc_loop (G := Nat × (Int × Int)) (fun g => [(0, .s (.one (.sl a0.length (a0.flatMap (eL eGMsgReq))))), (3, .s (.one (.i .i64 g.2.1))), (9, .s (.one (.sl a0.length (a0.flatMap (eL eGMsgReq))))), (10, .s (.one (.i .i64 (a0.length : Int)))), (11, .s (.one (.i .i64 g.2.2)))]) (fun g => []) (fun g => iterB (m66_slices_Concat_s8 a0) g.1 g.2 = some x8) (fun g => g.1) (fuel, (0, 0)) hx8 ⟨rfl, rfl, rfl, rfl, rfl, trivial⟩ [] rfl (fun _ _ => inbL_of rfl) (fun _ _ => blkinb_of rfl) (fun _ _ => Nat.le_of_ble_eq_true rfl) ?_
    clear hx8 h
    rintro ⟨n8, s8⟩ h
    obtain ⟨n8, y8, rfl, h, hk8⟩ := iterB_eq h
    unfold m66_slices_Concat_s8 at h
    refine cseq ?_
    refine cregion ?_
    refine sv rfl (opv_lss rfl rfl) ?_
    refine snil ?_
    refine cseq ?_
    refine ccond rfl (fun hc => ?_) (fun hc => ?_)
    · replace h := ite_t hc h
      clear hc
      refine cskip ?_
      refine then_normal ?_
      refine cseq ?_
      refine cblock ?_
      refine cseq ?_
      refine cregion ?_
      obtain ⟨u9, hu9, h⟩ := bind_eq h
      refine sv rfl (opv_ix (f := (eL eGMsgReq)) si114 (fun _ => rfl) rfl rfl rfl rfl hu9) ?_
      refine sv rfl (opv_load1 ti43 rfl (.cp _) rfl) ?_
      refine sv rfl (opv_as rfl) ?_
      refine snil ?_
      refine cseq ?_
      refine cregion ?_
      refine sv rfl (opv_mv rfl) ?_
      refine sv rfl (opv_mv rfl) ?_
      refine sv rfl (opv_len_sl si43 rfl) ?_
      refine sv rfl (opv_add rfl rfl) ?_
      refine sv rfl (opv_as rfl) ?_
      refine snil ?_
      refine cseq ?_
      refine cregion ?_
      refine sv rfl (opv_mv rfl) ?_
      refine sv rfl (opv_lss rfl rfl) ?_
      refine snil ?_
      refine ccond rfl (fun hc => ?_) (fun hc => ?_)
      · replace h := ite_t hc h
        clear hc
        cases h
      · replace h := ite_f hc h
        clear hc
        refine cskip ?_
        refine block_normal ?_
        refine then_normal ?_
        refine cregion ?_
        refine sv rfl (opv_add rfl rfl) ?_
        refine sv rfl (opv_mv rfl) ?_
        refine snil ?_
        obtain rfl := Option.some.inj h
        exact ⟨(n8, ((wI (s8.1 + (u9.length : Int))), (wI (s8.2 + 1)))), _, hk8, ⟨rfl, rfl, rfl, rfl, rfl, trivial⟩, rfl, Nat.lt_succ_self _⟩
    · replace h := ite_f hc h
      clear hc
      refine cexit ?_
      refine then_exit ?_
      refine then_exit ?_
      refine block_hit ?_
      refine then_normal ?_
      obtain rfl := Option.some.inj h
      obtain rfl : _ = x8 := hk8
      exact ⟨s8.1, _, ho8, ⟨rfl, rfl, trivial⟩, rfl⟩

def m35_pipe_inOrder_k1 (a0 : List GMsgReq) (a1 : GMsgReq) (b1 : Int) : Option (List GMsgReq) :=
  (cut a0 0 b1).bind fun c2 => (cut a0 b1 (a0.length : Int)).bind fun c3 => (m66_slices_Concat ([c2, ([(GMsgReq.mk a1.Kind a1.Seq a1.Token a1.Attempt a1.RO a1.Key a1.Val (GApiRange.mk a1.Rng.Lo a1.Rng.Hi a1.Rng.Open))] : List GMsgReq), c3] : List (List GMsgReq))).bind fun v4 => some v4

def m35_pipe_inOrder_s5 (a0 : List GMsgReq) (a1 : GMsgReq) (s5 : Int) : Option (LB (Int) (Int)) :=
  if (decide (s5 < (a0.length : Int))) then ((idx a0 s5).bind fun u6 => if (decide (u6.Seq < a1.Seq)) then (some (.cont (wI (s5 + 1)))) else (some (.brk s5))) else (some (.brk s5))
def m35_pipe_inOrder (a0 : List GMsgReq) (a1 : GMsgReq) : Option (List GMsgReq) :=
  (iterB (m35_pipe_inOrder_s5 a0 a1) fuel 0).bind fun e7 => m35_pipe_inOrder_k1 a0 a1 e7

set_option maxRecDepth 100000 in
theorem m35_pipe_inOrder_c {a0 : List GMsgReq} {a1 : GMsgReq} {r : (List GMsgReq)} (h : m35_pipe_inOrder a0 a1 = some r) : CallsA Tryd.prog 35 [.one (.sl a0.length (a0.flatMap eGMsgReq)), .agg [.i .i64 a1.Kind, .i .i64 a1.Seq, .i .i64 a1.Token, .i .i64 a1.Attempt, .b a1.RO, .sl a1.Key.length (a1.Key.flatMap eU8), .sl a1.Val.length (a1.Val.flatMap eU8), .sl a1.Rng.Lo.length (a1.Rng.Lo.flatMap eU8), .sl a1.Rng.Hi.length (a1.Rng.Hi.flatMap eU8), .b a1.Rng.Open]] (· = .s (.one (.sl r.length (r.flatMap eGMsgReq)))) := by
  unfold m35_pipe_inOrder at h
  refine callsA_of Tryd.func35 rfl (nt := 32) rfl (Nat.le_of_ble_eq_true rfl) ?_
  intro w0 S0
  refine cseq ?_
  refine cregion ?_
  refine sbox rfl rfl ?_
  refine sv rfl (opv_as rfl) ?_
  refine snil ?_
  refine cseq ?_
  refine cregion ?_
  refine sv rfl (opv_as rfl) ?_
  refine snil ?_
  refine cseq ?_
  refine cjoin (Int) (fun b1 => [(0, .s (.one (.sl a0.length (a0.flatMap eGMsgReq)))), (3, .s (.one (.lp 0 0))), (5, .s (.one (.i .i64 b1)))]) (fun b1 => [.box [.i .i64 a1.Kind, .i .i64 a1.Seq, .i .i64 a1.Token, .i .i64 a1.Attempt, .b a1.RO, .sl a1.Key.length (a1.Key.flatMap eU8), .sl a1.Val.length (a1.Val.flatMap eU8), .sl a1.Rng.Lo.length (a1.Rng.Lo.flatMap eU8), .sl a1.Rng.Hi.length (a1.Rng.Hi.flatMap eU8), .b a1.Rng.Open]]) (fun b1 => m35_pipe_inOrder_k1 a0 a1 b1 = some r) (fun _ _ => inbL_of rfl) (fun _ _ => blkinb_of rfl) (fun _ _ => Nat.le_of_ble_eq_true rfl) (fun b1 h => ?_) ?_
  · unfold m35_pipe_inOrder_k1 at h
    refine cseq ?_
    refine cdraw mixed (by kernel_rfl) ?_
    refine dv rfl (opv_mv rfl) ?_
    refine dv rfl (opv_mv rfl) ?_
    obtain ⟨c2, hc2, h⟩ := bind_eq h
    refine dv rfl (opv_cut (f := eGMsgReq) (lo := 0) (hi := b1) si43 (fun _ => rfl) rfl rfl rfl bound_none (bound_some rfl (Int.le_trans (cut_eq hc2).1.1 (cut_eq hc2).1.2.1)) hc2) ?_
    refine dv rfl (opv_loadN ti51 rfl (.lp _ _ _ rfl) (Nat.le_of_ble_eq_true rfl)) ?_
    refine dd rfl (opD_bld (out := ([(GMsgReq.mk a1.Kind a1.Seq a1.Token a1.Attempt a1.RO a1.Key a1.Val (GApiRange.mk a1.Rng.Lo a1.Rng.Hi a1.Rng.Open))] : List GMsgReq).flatMap eGMsgReq) Tryd.underlying43 ei51 (parts_cons rfl parts_nil) (.cons _ _ _ _ _ _ _ rfl rfl (Nat.le_of_ble_eq_true rfl) (.nil _)) rfl (by decide)) ?_
    refine dv rfl (opv_mv rfl) ?_
    refine dv rfl (opv_mv rfl) ?_
    obtain ⟨c3, hc3, h⟩ := bind_eq h
    refine dv rfl (opv_cut (f := eGMsgReq) (lo := b1) (hi := (a0.length : Int)) si43 (fun _ => rfl) rfl rfl rfl (bound_some rfl (cut_eq hc3).1.1) (by exact rfl) hc3) ?_
    refine dd rfl (opD_bld (out := ([c2, ([(GMsgReq.mk a1.Kind a1.Seq a1.Token a1.Attempt a1.RO a1.Key a1.Val (GApiRange.mk a1.Rng.Lo a1.Rng.Hi a1.Rng.Open))] : List GMsgReq), c3] : List (List GMsgReq)).flatMap (eL eGMsgReq)) Tryd.underlying114 ei43 (parts_cons rfl (parts_cons rfl (parts_cons rfl parts_nil))) (.cons _ _ _ _ _ _ _ rfl rfl (Nat.le_of_ble_eq_true rfl) (.cons _ _ _ _ _ _ _ rfl rfl (Nat.le_of_ble_eq_true rfl) (.cons _ _ _ _ _ _ _ rfl rfl (Nat.le_of_ble_eq_true rfl) (.nil _)))) rfl (by decide)) ?_
    obtain ⟨v4, hv4, h⟩ := bind_eq h
    refine dd rfl (opD_call fn66 (opnds_cons rfl opnds_nil) rfl (m66_slices_Concat_c hv4)) ?_
    refine dv rfl (opv_as rfl) ?_
    refine dnil ?_
    refine then_normal ?_
    refine cret ?_
    obtain rfl := Option.some.inj h
    refine ⟨Or.inr rfl, _, _, _, (resVs_cons (ResV.tmp _ _ rfl) resVs_nil), (pubA_id rfl), ?_⟩
    rfl
  · skip
    refine cblock ?_
    obtain ⟨x5, hx5, ho5⟩ := bind_eq h
    refine awc_loop (G := Nat × (Int)) (fun g => [(0, .s (.one (.sl a0.length (a0.flatMap eGMsgReq)))), (3, .s (.one (.lp 0 0))), (5, .s (.one (.i .i64 g.2)))]) (fun g => [.box [.i .i64 a1.Kind, .i .i64 a1.Seq, .i .i64 a1.Token, .i .i64 a1.Attempt, .b a1.RO, .sl a1.Key.length (a1.Key.flatMap eU8), .sl a1.Val.length (a1.Val.flatMap eU8), .sl a1.Rng.Lo.length (a1.Rng.Lo.flatMap eU8), .sl a1.Rng.Hi.length (a1.Rng.Hi.flatMap eU8), .b a1.Rng.Open]]) (fun g => iterB (m35_pipe_inOrder_s5 a0 a1) g.1 g.2 = some x5) (fun g => g.1) (fuel, 0) hx5 ⟨rfl, rfl, rfl, trivial⟩ [] rfl (fun _ _ => inbL_of rfl) (fun _ _ => blkinb_of rfl) (fun _ _ => Nat.le_of_ble_eq_true rfl) ?_
    clear hx5 h
    rintro ⟨n5, s5⟩ h
    obtain ⟨n5, y5, rfl, h, hk5⟩ := iterB_eq h
    unfold m35_pipe_inOrder_s5 at h
    refine cseq ?_
    refine cseq ?_
    refine cdraw mixed (by kernel_rfl) ?_
    refine dv rfl (opv_mv rfl) ?_
    refine dv rfl (opv_mv rfl) ?_
    refine dv rfl (opv_len_sl si43 rfl) ?_
    refine dv rfl (opv_lss rfl rfl) ?_
    refine dv rfl (opv_mv rfl) ?_
    refine dsplit 10 rfl (fun hc => ?_) (fun hc => ?_)
    · replace h := ite_t hc h
      clear hc
      refine dvg rfl rfl rfl (opv_mv rfl) ?_
      refine dvg rfl rfl rfl (opv_mv rfl) ?_
      obtain ⟨u6, hu6, h⟩ := bind_eq h
      refine dvg rfl rfl rfl (opv_ix (f := eGMsgReq) si43 (fun _ => rfl) rfl rfl rfl rfl hu6) ?_
      refine dvg rfl rfl rfl (opv_fieldAddr_cp fi51_1 rfl) ?_
      refine dvg rfl rfl rfl (opv_load1 ti3 rfl (.cp _) rfl) ?_
      refine dvg rfl rfl rfl (opv_fieldAddr_lp fi51_1 rfl) ?_
      refine dvg rfl rfl rfl (opv_load1 ti3 rfl (.lp _ _ _ rfl) rfl) ?_
      refine dvg rfl rfl rfl (opv_lss rfl rfl) ?_
      refine dv rfl (opv_pick_t rfl rfl) ?_
      refine dnil ?_
      refine then_normal ?_
      refine ccond rfl (fun hc => ?_) (fun hc => ?_)
      · replace h := ite_t hc h
        clear hc
        refine cskip ?_
        refine then_normal ?_
        refine cblock ?_
        refine cregion ?_
        refine sv rfl (opv_mv rfl) ?_
        refine sv rfl (opv_add rfl rfl) ?_
        refine sv rfl (opv_as rfl) ?_
        refine snil0 ?_
        refine block_normal ?_
        refine then_normal ?_
        obtain rfl := Option.some.inj h
        exact ⟨(n5, (wI (s5 + 1))), _, hk5, ⟨rfl, rfl, rfl, trivial⟩, rfl, Nat.lt_succ_self _⟩
      · replace h := ite_f hc h
        clear hc
        refine cexit ?_
        refine then_exit ?_
        refine then_exit ?_
        refine block_hit ?_
        refine then_normal ?_
        obtain rfl := Option.some.inj h
        obtain rfl : _ = x5 := hk5
        exact ⟨s5, _, ho5, ⟨rfl, rfl, rfl, trivial⟩, rfl⟩
    · replace h := ite_f hc h
      clear hc
      refine doff rfl rfl rfl rfl ?_
      refine doff rfl rfl rfl rfl ?_
      refine doff rfl rfl rfl rfl ?_
      refine doff rfl rfl rfl rfl ?_
      refine doff rfl rfl rfl rfl ?_
      refine doff rfl rfl rfl rfl ?_
      refine doff rfl rfl rfl rfl ?_
      refine doff rfl rfl rfl rfl ?_
      refine dv rfl (opv_pick_f rfl rfl) ?_
      refine dnil ?_
      refine then_normal ?_
      refine ccond rfl (fun hx => Bool.noConfusion hx) (fun _ => ?_)
      refine cexit ?_
      refine then_exit ?_
      refine then_exit ?_
      refine block_hit ?_
      refine then_normal ?_
      obtain rfl := Option.some.inj h
      obtain rfl : _ = x5 := hk5
      exact ⟨s5, _, ho5, ⟨rfl, rfl, rfl, trivial⟩, rfl⟩

def m13_pipe_Offer_k2 (a0 : GPipePipe) (a1 : GMsgReq) (b2 : Unit) : Option (GPipePipe × GMsgReply × Bool × Int) :=
  if (decide (a1.Seq < a0.Next)) then (some ((GPipePipe.mk (GSeqsWindow.mk 0 (0#64)) 0 ([] : List GMsgReq) ([] : List GMsgReply)), (GMsgReply.mk 0 0 0 0 false ([] : List UInt8) ([] : List GApiKV)), false, 7)) else ((m33_pipe_waiting (GPipePipe.mk (GSeqsWindow.mk a0.Win.Base a0.Win.Bits) a0.Next a0.Wait a0.Past) a1.Seq).bind fun v3 => if (decide (0 ≤ v3)) then (some ((GPipePipe.mk (GSeqsWindow.mk a0.Win.Base a0.Win.Bits) a0.Next a0.Wait a0.Past), (GMsgReply.mk 0 0 0 0 false ([] : List UInt8) ([] : List GApiKV)), false, 0)) else (if (decide ((wI (a0.Next + 8)) ≤ a1.Seq)) then (some ((GPipePipe.mk (GSeqsWindow.mk 0 (0#64)) 0 ([] : List GMsgReq) ([] : List GMsgReply)), (GMsgReply.mk 0 0 0 0 false ([] : List UInt8) ([] : List GApiKV)), false, 8)) else ((m34_seqs_Accept (GSeqsWindow.mk a0.Win.Base a0.Win.Bits) a1.Seq).bind fun v4 => if (!decide (v4.2 = 0)) then (some ((GPipePipe.mk (GSeqsWindow.mk 0 (0#64)) 0 ([] : List GMsgReq) ([] : List GMsgReply)), (GMsgReply.mk 0 0 0 0 false ([] : List UInt8) ([] : List GApiKV)), false, v4.2)) else ((m35_pipe_inOrder a0.Wait (GMsgReq.mk a1.Kind a1.Seq a1.Token a1.Attempt a1.RO a1.Key a1.Val (GApiRange.mk a1.Rng.Lo a1.Rng.Hi a1.Rng.Open))).bind fun v5 => some ((GPipePipe.mk v4.1 a0.Next v5 a0.Past), (GMsgReply.mk 0 0 0 0 false ([] : List UInt8) ([] : List GApiKV)), false, 0)))))

def m13_pipe_Offer_s6 (a0 : GPipePipe) (a1 : GMsgReq) (s6 : Int) : Option (LR (Int) (Unit) (GPipePipe × GMsgReply × Bool × Int)) :=
  if (decide (s6 < (a0.Past.length : Int))) then ((idx a0.Past s6).bind fun u7 => if (decide (u7.Seq = a1.Seq)) then (some (.ret ((GPipePipe.mk (GSeqsWindow.mk a0.Win.Base a0.Win.Bits) a0.Next a0.Wait a0.Past), u7, true, 0))) else (some (.cont (wI (s6 + 1))))) else (some (.brk ()))

def m13_pipe_Offer_k1 (a0 : GPipePipe) (a1 : GMsgReq) (b1 : Unit) : Option (GPipePipe × GMsgReply × Bool × Int) :=
  (iter (m13_pipe_Offer_s6 a0 a1) fuel 0).bind fun x => match x with | .inl r => some r | .inr e8 => m13_pipe_Offer_k2 a0 a1 e8
def m13_pipe_Offer (a0 : GPipePipe) (a1 : GMsgReq) : Option (GPipePipe × GMsgReply × Bool × Int) :=
  (m27_pipe_Sane (GPipePipe.mk (GSeqsWindow.mk a0.Win.Base a0.Win.Bits) a0.Next a0.Wait a0.Past)).bind fun v9 => if (!v9) then (some ((GPipePipe.mk (GSeqsWindow.mk 0 (0#64)) 0 ([] : List GMsgReq) ([] : List GMsgReply)), (GMsgReply.mk 0 0 0 0 false ([] : List UInt8) ([] : List GApiKV)), false, 1)) else ((m32_msg_SaneReq (GMsgReq.mk a1.Kind a1.Seq a1.Token a1.Attempt a1.RO a1.Key a1.Val (GApiRange.mk a1.Rng.Lo a1.Rng.Hi a1.Rng.Open))).bind fun v10 => if (!v10) then (some ((GPipePipe.mk (GSeqsWindow.mk 0 (0#64)) 0 ([] : List GMsgReq) ([] : List GMsgReply)), (GMsgReply.mk 0 0 0 0 false ([] : List UInt8) ([] : List GApiKV)), false, 1)) else (m13_pipe_Offer_k1 a0 a1 ()))

set_option maxRecDepth 100000 in
theorem m13_pipe_Offer_c {a0 : GPipePipe} {a1 : GMsgReq} {r : GPipePipe × GMsgReply × Bool × Int} (h : m13_pipe_Offer a0 a1 = some r) : CallsA Tryd.prog 13 [.agg [.i .i64 a0.Win.Base, .i .u64 (a0.Win.Bits.toNat : Int), .i .i64 a0.Next, .sl a0.Wait.length (a0.Wait.flatMap eGMsgReq), .sl a0.Past.length (a0.Past.flatMap eGMsgReply)], .agg [.i .i64 a1.Kind, .i .i64 a1.Seq, .i .i64 a1.Token, .i .i64 a1.Attempt, .b a1.RO, .sl a1.Key.length (a1.Key.flatMap eU8), .sl a1.Val.length (a1.Val.flatMap eU8), .sl a1.Rng.Lo.length (a1.Rng.Lo.flatMap eU8), .sl a1.Rng.Hi.length (a1.Rng.Hi.flatMap eU8), .b a1.Rng.Open]] (· = .tup [.agg [.i .i64 r.1.Win.Base, .i .u64 (r.1.Win.Bits.toNat : Int), .i .i64 r.1.Next, .sl r.1.Wait.length (r.1.Wait.flatMap eGMsgReq), .sl r.1.Past.length (r.1.Past.flatMap eGMsgReply)], .agg [.i .i64 r.2.1.Kind, .i .i64 r.2.1.Seq, .i .i64 r.2.1.Code, .i .i64 r.2.1.N, .b r.2.1.Found, .sl r.2.1.Val.length (r.2.1.Val.flatMap eU8), .sl r.2.1.List.length (r.2.1.List.flatMap eGApiKV)], .one (.b r.2.2.1), .one (.i .i64 r.2.2.2)]) := by
  unfold m13_pipe_Offer at h
  refine callsA_of Tryd.func13 rfl (nt := 84) rfl (Nat.le_of_ble_eq_true rfl) ?_
  intro w0 S0
  refine cseq ?_
  refine cregion ?_
  refine sbox rfl rfl ?_
  refine sbox rfl rfl ?_
  refine salloc rfl zi46 ?_
  refine salloc rfl zi48 ?_
  refine sv rfl (opv_as rfl) ?_
  refine sv rfl (opv_as rfl) ?_
  refine snil ?_
  refine cseq ?_
  refine cseq ?_
  refine cjoin3 (Unit) (fun b1 => [(2, .s (.one (.lp 0 0))), (3, .s (.one (.lp 1 0))), (4, .s (.one (.lp 2 0))), (5, .s (.one (.lp 3 0)))]) (fun b1 => [.box [.i .i64 a0.Win.Base, .i .u64 (a0.Win.Bits.toNat : Int), .i .i64 a0.Next, .sl a0.Wait.length (a0.Wait.flatMap eGMsgReq), .sl a0.Past.length (a0.Past.flatMap eGMsgReply)], .box [.i .i64 a1.Kind, .i .i64 a1.Seq, .i .i64 a1.Token, .i .i64 a1.Attempt, .b a1.RO, .sl a1.Key.length (a1.Key.flatMap eU8), .sl a1.Val.length (a1.Val.flatMap eU8), .sl a1.Rng.Lo.length (a1.Rng.Lo.flatMap eU8), .sl a1.Rng.Hi.length (a1.Rng.Hi.flatMap eU8), .b a1.Rng.Open], .box [.i .i64 0, .i .u64 ((0#64).toNat : Int), .i .i64 0, .raw (.slice none 0 0), .raw (.slice none 0 0)], .box [.i .i64 0, .i .i64 0, .i .i64 0, .i .i64 0, .b false, .raw (.slice none 0 0), .raw (.slice none 0 0)]]) (fun b1 => m13_pipe_Offer_k1 a0 a1 b1 = some r) (fun _ _ => inbL_of rfl) (fun _ _ => blkinb_of rfl) (fun _ _ => Nat.le_of_ble_eq_true rfl) (fun b1 h => ?_) ?_
  · unfold m13_pipe_Offer_k1 at h
    refine cseq ?_
    refine cseq ?_
    refine cregion ?_
    refine sv rfl (opv_fieldAddr_lp fi46_3 rfl) ?_
    refine sv rfl (opv_load1 ti44 rfl (.lp _ _ _ rfl) rfl) ?_
    refine sv rfl (opv_len_sl si44 rfl) ?_
    refine sv rfl (opv_mv rfl) ?_
    refine snil ?_
    refine cjoin (Unit) (fun b2 => [(2, .s (.one (.lp 0 0))), (3, .s (.one (.lp 1 0))), (4, .s (.one (.lp 2 0))), (5, .s (.one (.lp 3 0)))]) (fun b2 => [.box [.i .i64 a0.Win.Base, .i .u64 (a0.Win.Bits.toNat : Int), .i .i64 a0.Next, .sl a0.Wait.length (a0.Wait.flatMap eGMsgReq), .sl a0.Past.length (a0.Past.flatMap eGMsgReply)], .box [.i .i64 a1.Kind, .i .i64 a1.Seq, .i .i64 a1.Token, .i .i64 a1.Attempt, .b a1.RO, .sl a1.Key.length (a1.Key.flatMap eU8), .sl a1.Val.length (a1.Val.flatMap eU8), .sl a1.Rng.Lo.length (a1.Rng.Lo.flatMap eU8), .sl a1.Rng.Hi.length (a1.Rng.Hi.flatMap eU8), .b a1.Rng.Open], .box [.i .i64 0, .i .u64 ((0#64).toNat : Int), .i .i64 0, .raw (.slice none 0 0), .raw (.slice none 0 0)], .box [.i .i64 0, .i .i64 0, .i .i64 0, .i .i64 0, .b false, .raw (.slice none 0 0), .raw (.slice none 0 0)]]) (fun b2 => m13_pipe_Offer_k2 a0 a1 b2 = some r) (fun _ _ => inbL_of rfl) (fun _ _ => blkinb_of rfl) (fun _ _ => Nat.le_of_ble_eq_true rfl) (fun b2 h => ?_) ?_
    · unfold m13_pipe_Offer_k2 at h
      refine cseq ?_
      refine cblock ?_
      refine cseq ?_
      refine cregion ?_
      refine sv rfl (opv_fieldAddr_lp fi51_1 rfl) ?_
      refine sv rfl (opv_load1 ti3 rfl (.lp _ _ _ rfl) rfl) ?_
      refine sv rfl (opv_fieldAddr_lp fi46_1 rfl) ?_
      refine sv rfl (opv_load1 ti3 rfl (.lp _ _ _ rfl) rfl) ?_
      refine sv rfl (opv_lss rfl rfl) ?_
      refine sv rfl (opv_as rfl) ?_
      refine snil ?_
      refine ccond rfl (fun hc => ?_) (fun hc => ?_)
      · replace h := ite_t hc h
        clear hc
        refine cseq ?_
        refine cregion ?_
        refine sv rfl (opv_build zi46 pi46 parts_nil (.nil _)) ?_
        refine sv rfl (opv_build zi48 pi48 parts_nil (.nil _)) ?_
        refine sstore sz46 rfl rfl rfl rfl (Nat.le_of_ble_eq_true rfl) ?_
        refine smem [.box [.i .i64 a0.Win.Base, .i .u64 (a0.Win.Bits.toNat : Int), .i .i64 a0.Next, .sl a0.Wait.length (a0.Wait.flatMap eGMsgReq), .sl a0.Past.length (a0.Past.flatMap eGMsgReply)], .box [.i .i64 a1.Kind, .i .i64 a1.Seq, .i .i64 a1.Token, .i .i64 a1.Attempt, .b a1.RO, .sl a1.Key.length (a1.Key.flatMap eU8), .sl a1.Val.length (a1.Val.flatMap eU8), .sl a1.Rng.Lo.length (a1.Rng.Lo.flatMap eU8), .sl a1.Rng.Hi.length (a1.Rng.Hi.flatMap eU8), .b a1.Rng.Open], .box [.i .i64 0, .i .u64 ((0#64).toNat : Int), .i .i64 0, .raw (.slice none 0 0), .raw (.slice none 0 0)], .box [.i .i64 0, .i .i64 0, .i .i64 0, .i .i64 0, .b false, .raw (.slice none 0 0), .raw (.slice none 0 0)]] rfl ?_
        refine sstore sz48 rfl rfl rfl rfl (Nat.le_of_ble_eq_true rfl) ?_
        refine smem [.box [.i .i64 a0.Win.Base, .i .u64 (a0.Win.Bits.toNat : Int), .i .i64 a0.Next, .sl a0.Wait.length (a0.Wait.flatMap eGMsgReq), .sl a0.Past.length (a0.Past.flatMap eGMsgReply)], .box [.i .i64 a1.Kind, .i .i64 a1.Seq, .i .i64 a1.Token, .i .i64 a1.Attempt, .b a1.RO, .sl a1.Key.length (a1.Key.flatMap eU8), .sl a1.Val.length (a1.Val.flatMap eU8), .sl a1.Rng.Lo.length (a1.Rng.Lo.flatMap eU8), .sl a1.Rng.Hi.length (a1.Rng.Hi.flatMap eU8), .b a1.Rng.Open], .box [.i .i64 0, .i .u64 ((0#64).toNat : Int), .i .i64 0, .raw (.slice none 0 0), .raw (.slice none 0 0)], .box [.i .i64 0, .i .i64 0, .i .i64 0, .i .i64 0, .b false, .raw (.slice none 0 0), .raw (.slice none 0 0)]] rfl ?_
        refine sv rfl (opv_as rfl) ?_
        refine sv rfl (opv_as rfl) ?_
        refine snil ?_
        refine cret ?_
        refine block_ret ?_
        refine then_ret ?_
        obtain rfl := Option.some.inj h
        refine ⟨Or.inr rfl, _, _, _, (resVs_cons (ResV.agg _ _ _ _ _ ti46 rfl (.lp _ _ _ rfl) (Nat.le_of_ble_eq_true rfl)) (resVs_cons (ResV.agg _ _ _ _ _ ti48 rfl (.lp _ _ _ rfl) (Nat.le_of_ble_eq_true rfl)) (resVs_cons (ResV.tmp _ _ rfl) (resVs_cons (ResV.tmp _ _ rfl) resVs_nil)))), (pubC rfl), ?_⟩
        rfl
      · replace h := ite_f hc h
        clear hc
        refine cseq ?_
        refine cregion ?_
        refine sv rfl (opv_loadN ti46 rfl (.lp _ _ _ rfl) (Nat.le_of_ble_eq_true rfl)) ?_
        refine sv rfl (opv_fieldAddr_lp fi51_1 rfl) ?_
        refine sv rfl (opv_load1 ti3 rfl (.lp _ _ _ rfl) rfl) ?_
        obtain ⟨v3, hv3, h⟩ := bind_eq h
        refine scall1 rfl fn33 (opnds_cons rfl (opnds_cons rfl opnds_nil)) (pubA_id rfl) (m33_pipe_waiting_c hv3) ?_
        refine sv rfl (opv_geq rfl rfl) ?_
        refine sv rfl (opv_as rfl) ?_
        refine snil ?_
        refine ccond rfl (fun hc => ?_) (fun hc => ?_)
        · replace h := ite_t hc h
          clear hc
          refine cseq ?_
          refine cregion ?_
          refine sv rfl (opv_loadN ti46 rfl (.lp _ _ _ rfl) (Nat.le_of_ble_eq_true rfl)) ?_
          refine sv rfl (opv_build zi48 pi48 parts_nil (.nil _)) ?_
          refine sstore sz46 rfl rfl rfl rfl (Nat.le_of_ble_eq_true rfl) ?_
          refine smem [.box [.i .i64 a0.Win.Base, .i .u64 (a0.Win.Bits.toNat : Int), .i .i64 a0.Next, .sl a0.Wait.length (a0.Wait.flatMap eGMsgReq), .sl a0.Past.length (a0.Past.flatMap eGMsgReply)], .box [.i .i64 a1.Kind, .i .i64 a1.Seq, .i .i64 a1.Token, .i .i64 a1.Attempt, .b a1.RO, .sl a1.Key.length (a1.Key.flatMap eU8), .sl a1.Val.length (a1.Val.flatMap eU8), .sl a1.Rng.Lo.length (a1.Rng.Lo.flatMap eU8), .sl a1.Rng.Hi.length (a1.Rng.Hi.flatMap eU8), .b a1.Rng.Open], .box [.i .i64 a0.Win.Base, .i .u64 (a0.Win.Bits.toNat : Int), .i .i64 a0.Next, .sl a0.Wait.length (a0.Wait.flatMap eGMsgReq), .sl a0.Past.length (a0.Past.flatMap eGMsgReply)], .box [.i .i64 0, .i .i64 0, .i .i64 0, .i .i64 0, .b false, .raw (.slice none 0 0), .raw (.slice none 0 0)]] rfl ?_
          refine sstore sz48 rfl rfl rfl rfl (Nat.le_of_ble_eq_true rfl) ?_
          refine smem [.box [.i .i64 a0.Win.Base, .i .u64 (a0.Win.Bits.toNat : Int), .i .i64 a0.Next, .sl a0.Wait.length (a0.Wait.flatMap eGMsgReq), .sl a0.Past.length (a0.Past.flatMap eGMsgReply)], .box [.i .i64 a1.Kind, .i .i64 a1.Seq, .i .i64 a1.Token, .i .i64 a1.Attempt, .b a1.RO, .sl a1.Key.length (a1.Key.flatMap eU8), .sl a1.Val.length (a1.Val.flatMap eU8), .sl a1.Rng.Lo.length (a1.Rng.Lo.flatMap eU8), .sl a1.Rng.Hi.length (a1.Rng.Hi.flatMap eU8), .b a1.Rng.Open], .box [.i .i64 a0.Win.Base, .i .u64 (a0.Win.Bits.toNat : Int), .i .i64 a0.Next, .sl a0.Wait.length (a0.Wait.flatMap eGMsgReq), .sl a0.Past.length (a0.Past.flatMap eGMsgReply)], .box [.i .i64 0, .i .i64 0, .i .i64 0, .i .i64 0, .b false, .raw (.slice none 0 0), .raw (.slice none 0 0)]] rfl ?_
          refine sv rfl (opv_as rfl) ?_
          refine sv rfl (opv_as rfl) ?_
          refine snil ?_
          refine cret ?_
          refine block_ret ?_
          refine then_ret ?_
          obtain rfl := Option.some.inj h
          refine ⟨Or.inr rfl, _, _, _, (resVs_cons (ResV.agg _ _ _ _ _ ti46 rfl (.lp _ _ _ rfl) (Nat.le_of_ble_eq_true rfl)) (resVs_cons (ResV.agg _ _ _ _ _ ti48 rfl (.lp _ _ _ rfl) (Nat.le_of_ble_eq_true rfl)) (resVs_cons (ResV.tmp _ _ rfl) (resVs_cons (ResV.tmp _ _ rfl) resVs_nil)))), (pubC rfl), ?_⟩
          rfl
        · replace h := ite_f hc h
          clear hc
          refine cseq ?_
          refine cregion ?_
          refine sv rfl (opv_fieldAddr_lp fi51_1 rfl) ?_
          refine sv rfl (opv_load1 ti3 rfl (.lp _ _ _ rfl) rfl) ?_
          refine sv rfl (opv_fieldAddr_lp fi46_1 rfl) ?_
          refine sv rfl (opv_load1 ti3 rfl (.lp _ _ _ rfl) rfl) ?_
          refine sv rfl (opv_add rfl rfl) ?_
          refine sv rfl (opv_geq rfl rfl) ?_
          refine sv rfl (opv_as rfl) ?_
          refine snil ?_
          refine ccond rfl (fun hc => ?_) (fun hc => ?_)
          · replace h := ite_t hc h
            clear hc
            refine cseq ?_
            refine cregion ?_
            refine sv rfl (opv_build zi46 pi46 parts_nil (.nil _)) ?_
            refine sv rfl (opv_build zi48 pi48 parts_nil (.nil _)) ?_
            refine sstore sz46 rfl rfl rfl rfl (Nat.le_of_ble_eq_true rfl) ?_
            refine smem [.box [.i .i64 a0.Win.Base, .i .u64 (a0.Win.Bits.toNat : Int), .i .i64 a0.Next, .sl a0.Wait.length (a0.Wait.flatMap eGMsgReq), .sl a0.Past.length (a0.Past.flatMap eGMsgReply)], .box [.i .i64 a1.Kind, .i .i64 a1.Seq, .i .i64 a1.Token, .i .i64 a1.Attempt, .b a1.RO, .sl a1.Key.length (a1.Key.flatMap eU8), .sl a1.Val.length (a1.Val.flatMap eU8), .sl a1.Rng.Lo.length (a1.Rng.Lo.flatMap eU8), .sl a1.Rng.Hi.length (a1.Rng.Hi.flatMap eU8), .b a1.Rng.Open], .box [.i .i64 0, .i .u64 ((0#64).toNat : Int), .i .i64 0, .raw (.slice none 0 0), .raw (.slice none 0 0)], .box [.i .i64 0, .i .i64 0, .i .i64 0, .i .i64 0, .b false, .raw (.slice none 0 0), .raw (.slice none 0 0)]] rfl ?_
            refine sstore sz48 rfl rfl rfl rfl (Nat.le_of_ble_eq_true rfl) ?_
            refine smem [.box [.i .i64 a0.Win.Base, .i .u64 (a0.Win.Bits.toNat : Int), .i .i64 a0.Next, .sl a0.Wait.length (a0.Wait.flatMap eGMsgReq), .sl a0.Past.length (a0.Past.flatMap eGMsgReply)], .box [.i .i64 a1.Kind, .i .i64 a1.Seq, .i .i64 a1.Token, .i .i64 a1.Attempt, .b a1.RO, .sl a1.Key.length (a1.Key.flatMap eU8), .sl a1.Val.length (a1.Val.flatMap eU8), .sl a1.Rng.Lo.length (a1.Rng.Lo.flatMap eU8), .sl a1.Rng.Hi.length (a1.Rng.Hi.flatMap eU8), .b a1.Rng.Open], .box [.i .i64 0, .i .u64 ((0#64).toNat : Int), .i .i64 0, .raw (.slice none 0 0), .raw (.slice none 0 0)], .box [.i .i64 0, .i .i64 0, .i .i64 0, .i .i64 0, .b false, .raw (.slice none 0 0), .raw (.slice none 0 0)]] rfl ?_
            refine sv rfl (opv_as rfl) ?_
            refine sv rfl (opv_as rfl) ?_
            refine snil ?_
            refine cret ?_
            refine block_ret ?_
            refine then_ret ?_
            obtain rfl := Option.some.inj h
            refine ⟨Or.inr rfl, _, _, _, (resVs_cons (ResV.agg _ _ _ _ _ ti46 rfl (.lp _ _ _ rfl) (Nat.le_of_ble_eq_true rfl)) (resVs_cons (ResV.agg _ _ _ _ _ ti48 rfl (.lp _ _ _ rfl) (Nat.le_of_ble_eq_true rfl)) (resVs_cons (ResV.tmp _ _ rfl) (resVs_cons (ResV.tmp _ _ rfl) resVs_nil)))), (pubC rfl), ?_⟩
            rfl
          · replace h := ite_f hc h
            clear hc
            refine cskip ?_
            refine block_normal ?_
            refine then_normal ?_
            refine cseq ?_
            refine cregion ?_
            refine sv rfl (opv_fieldAddr_lp fi46_0 rfl) ?_
            refine sv rfl (opv_loadN ti42 rfl (.lp _ _ _ rfl) (Nat.le_of_ble_eq_true rfl)) ?_
            refine sv rfl (opv_fieldAddr_lp fi51_1 rfl) ?_
            refine sv rfl (opv_load1 ti3 rfl (.lp _ _ _ rfl) rfl) ?_
            obtain ⟨v4, hv4, h⟩ := bind_eq h
            refine scall1 rfl fn34 (opnds_cons rfl (opnds_cons rfl opnds_nil)) (pubA_id rfl) (m34_seqs_Accept_c hv4) ?_
            refine sv rfl (opv_mvt rfl) ?_
            refine sv rfl (opv_extract rfl rfl) ?_
            refine sv rfl (opv_extract rfl rfl) ?_
            refine salloc rfl zi42 ?_
            refine sstore sz42 rfl rfl rfl rfl (Nat.le_of_ble_eq_true rfl) ?_
            refine smem [.box [.i .i64 a0.Win.Base, .i .u64 (a0.Win.Bits.toNat : Int), .i .i64 a0.Next, .sl a0.Wait.length (a0.Wait.flatMap eGMsgReq), .sl a0.Past.length (a0.Past.flatMap eGMsgReply)], .box [.i .i64 a1.Kind, .i .i64 a1.Seq, .i .i64 a1.Token, .i .i64 a1.Attempt, .b a1.RO, .sl a1.Key.length (a1.Key.flatMap eU8), .sl a1.Val.length (a1.Val.flatMap eU8), .sl a1.Rng.Lo.length (a1.Rng.Lo.flatMap eU8), .sl a1.Rng.Hi.length (a1.Rng.Hi.flatMap eU8), .b a1.Rng.Open], .box [.i .i64 0, .i .u64 ((0#64).toNat : Int), .i .i64 0, .raw (.slice none 0 0), .raw (.slice none 0 0)], .box [.i .i64 0, .i .i64 0, .i .i64 0, .i .i64 0, .b false, .raw (.slice none 0 0), .raw (.slice none 0 0)], .box [.i .i64 v4.1.Base, .i .u64 (v4.1.Bits.toNat : Int)]] rfl ?_
            refine sv rfl (opv_as rfl) ?_
            refine snil ?_
            refine cseq ?_
            refine cseq ?_
            refine cregion ?_
            refine sv rfl (opv_mv rfl) ?_
            refine sv rfl (opv_ineq rfl rfl) ?_
            refine snil ?_
            refine ccond rfl (fun hc => ?_) (fun hc => ?_)
            · replace h := ite_t hc h
              clear hc
              refine cseq ?_
              refine cregion ?_
              refine sv rfl (opv_build zi46 pi46 parts_nil (.nil _)) ?_
              refine sv rfl (opv_build zi48 pi48 parts_nil (.nil _)) ?_
              refine sv rfl (opv_mv rfl) ?_
              refine sstore sz46 rfl rfl rfl rfl (Nat.le_of_ble_eq_true rfl) ?_
              refine smem [.box [.i .i64 a0.Win.Base, .i .u64 (a0.Win.Bits.toNat : Int), .i .i64 a0.Next, .sl a0.Wait.length (a0.Wait.flatMap eGMsgReq), .sl a0.Past.length (a0.Past.flatMap eGMsgReply)], .box [.i .i64 a1.Kind, .i .i64 a1.Seq, .i .i64 a1.Token, .i .i64 a1.Attempt, .b a1.RO, .sl a1.Key.length (a1.Key.flatMap eU8), .sl a1.Val.length (a1.Val.flatMap eU8), .sl a1.Rng.Lo.length (a1.Rng.Lo.flatMap eU8), .sl a1.Rng.Hi.length (a1.Rng.Hi.flatMap eU8), .b a1.Rng.Open], .box [.i .i64 0, .i .u64 ((0#64).toNat : Int), .i .i64 0, .raw (.slice none 0 0), .raw (.slice none 0 0)], .box [.i .i64 0, .i .i64 0, .i .i64 0, .i .i64 0, .b false, .raw (.slice none 0 0), .raw (.slice none 0 0)], .box [.i .i64 v4.1.Base, .i .u64 (v4.1.Bits.toNat : Int)]] rfl ?_
              refine sstore sz48 rfl rfl rfl rfl (Nat.le_of_ble_eq_true rfl) ?_
              refine smem [.box [.i .i64 a0.Win.Base, .i .u64 (a0.Win.Bits.toNat : Int), .i .i64 a0.Next, .sl a0.Wait.length (a0.Wait.flatMap eGMsgReq), .sl a0.Past.length (a0.Past.flatMap eGMsgReply)], .box [.i .i64 a1.Kind, .i .i64 a1.Seq, .i .i64 a1.Token, .i .i64 a1.Attempt, .b a1.RO, .sl a1.Key.length (a1.Key.flatMap eU8), .sl a1.Val.length (a1.Val.flatMap eU8), .sl a1.Rng.Lo.length (a1.Rng.Lo.flatMap eU8), .sl a1.Rng.Hi.length (a1.Rng.Hi.flatMap eU8), .b a1.Rng.Open], .box [.i .i64 0, .i .u64 ((0#64).toNat : Int), .i .i64 0, .raw (.slice none 0 0), .raw (.slice none 0 0)], .box [.i .i64 0, .i .i64 0, .i .i64 0, .i .i64 0, .b false, .raw (.slice none 0 0), .raw (.slice none 0 0)], .box [.i .i64 v4.1.Base, .i .u64 (v4.1.Bits.toNat : Int)]] rfl ?_
              refine sv rfl (opv_as rfl) ?_
              refine sv rfl (opv_as rfl) ?_
              refine snil ?_
              refine cret ?_
              refine then_ret ?_
              obtain rfl := Option.some.inj h
              refine ⟨Or.inr rfl, _, _, _, (resVs_cons (ResV.agg _ _ _ _ _ ti46 rfl (.lp _ _ _ rfl) (Nat.le_of_ble_eq_true rfl)) (resVs_cons (ResV.agg _ _ _ _ _ ti48 rfl (.lp _ _ _ rfl) (Nat.le_of_ble_eq_true rfl)) (resVs_cons (ResV.tmp _ _ rfl) (resVs_cons (ResV.tmp _ _ rfl) resVs_nil)))), (pubC rfl), ?_⟩
              rfl
            · replace h := ite_f hc h
              clear hc
              refine cskip ?_
              refine then_normal ?_
              refine cseq ?_
              refine cregion ?_
              refine sv rfl (opv_loadN ti42 rfl (.lp _ _ _ rfl) (Nat.le_of_ble_eq_true rfl)) ?_
              refine sv rfl (opv_fieldAddr_lp fi46_0 rfl) ?_
              refine sstore sz42 rfl rfl rfl rfl (Nat.le_of_ble_eq_true rfl) ?_
              refine smem [.box [.i .i64 v4.1.Base, .i .u64 (v4.1.Bits.toNat : Int), .i .i64 a0.Next, .sl a0.Wait.length (a0.Wait.flatMap eGMsgReq), .sl a0.Past.length (a0.Past.flatMap eGMsgReply)], .box [.i .i64 a1.Kind, .i .i64 a1.Seq, .i .i64 a1.Token, .i .i64 a1.Attempt, .b a1.RO, .sl a1.Key.length (a1.Key.flatMap eU8), .sl a1.Val.length (a1.Val.flatMap eU8), .sl a1.Rng.Lo.length (a1.Rng.Lo.flatMap eU8), .sl a1.Rng.Hi.length (a1.Rng.Hi.flatMap eU8), .b a1.Rng.Open], .box [.i .i64 0, .i .u64 ((0#64).toNat : Int), .i .i64 0, .raw (.slice none 0 0), .raw (.slice none 0 0)], .box [.i .i64 0, .i .i64 0, .i .i64 0, .i .i64 0, .b false, .raw (.slice none 0 0), .raw (.slice none 0 0)], .box [.i .i64 v4.1.Base, .i .u64 (v4.1.Bits.toNat : Int)]] rfl ?_
              refine snil ?_
              refine cseq ?_
              refine cregion ?_
              refine sv rfl (opv_fieldAddr_lp fi46_2 rfl) ?_
              refine sv rfl (opv_load1 ti43 rfl (.lp _ _ _ rfl) rfl) ?_
              refine sv rfl (opv_loadN ti51 rfl (.lp _ _ _ rfl) (Nat.le_of_ble_eq_true rfl)) ?_
              obtain ⟨v5, hv5, h⟩ := bind_eq h
              refine scall1 rfl fn35 (opnds_cons rfl (opnds_cons rfl opnds_nil)) (pubA_id rfl) (m35_pipe_inOrder_c hv5) ?_
              refine sv rfl (opv_fieldAddr_lp fi46_2 rfl) ?_
              refine sstore sz43 rfl rfl rfl rfl (Nat.le_of_ble_eq_true rfl) ?_
              refine smem [.box [.i .i64 v4.1.Base, .i .u64 (v4.1.Bits.toNat : Int), .i .i64 a0.Next, .sl v5.length (v5.flatMap eGMsgReq), .sl a0.Past.length (a0.Past.flatMap eGMsgReply)], .box [.i .i64 a1.Kind, .i .i64 a1.Seq, .i .i64 a1.Token, .i .i64 a1.Attempt, .b a1.RO, .sl a1.Key.length (a1.Key.flatMap eU8), .sl a1.Val.length (a1.Val.flatMap eU8), .sl a1.Rng.Lo.length (a1.Rng.Lo.flatMap eU8), .sl a1.Rng.Hi.length (a1.Rng.Hi.flatMap eU8), .b a1.Rng.Open], .box [.i .i64 0, .i .u64 ((0#64).toNat : Int), .i .i64 0, .raw (.slice none 0 0), .raw (.slice none 0 0)], .box [.i .i64 0, .i .i64 0, .i .i64 0, .i .i64 0, .b false, .raw (.slice none 0 0), .raw (.slice none 0 0)], .box [.i .i64 v4.1.Base, .i .u64 (v4.1.Bits.toNat : Int)]] rfl ?_
              refine snil ?_
              refine cseq ?_
              refine cregion ?_
              refine sv rfl (opv_loadN ti46 rfl (.lp _ _ _ rfl) (Nat.le_of_ble_eq_true rfl)) ?_
              refine sv rfl (opv_build zi48 pi48 parts_nil (.nil _)) ?_
              refine sstore sz46 rfl rfl rfl rfl (Nat.le_of_ble_eq_true rfl) ?_
              refine smem [.box [.i .i64 v4.1.Base, .i .u64 (v4.1.Bits.toNat : Int), .i .i64 a0.Next, .sl v5.length (v5.flatMap eGMsgReq), .sl a0.Past.length (a0.Past.flatMap eGMsgReply)], .box [.i .i64 a1.Kind, .i .i64 a1.Seq, .i .i64 a1.Token, .i .i64 a1.Attempt, .b a1.RO, .sl a1.Key.length (a1.Key.flatMap eU8), .sl a1.Val.length (a1.Val.flatMap eU8), .sl a1.Rng.Lo.length (a1.Rng.Lo.flatMap eU8), .sl a1.Rng.Hi.length (a1.Rng.Hi.flatMap eU8), .b a1.Rng.Open], .box [.i .i64 v4.1.Base, .i .u64 (v4.1.Bits.toNat : Int), .i .i64 a0.Next, .sl v5.length (v5.flatMap eGMsgReq), .sl a0.Past.length (a0.Past.flatMap eGMsgReply)], .box [.i .i64 0, .i .i64 0, .i .i64 0, .i .i64 0, .b false, .raw (.slice none 0 0), .raw (.slice none 0 0)], .box [.i .i64 v4.1.Base, .i .u64 (v4.1.Bits.toNat : Int)]] rfl ?_
              refine sstore sz48 rfl rfl rfl rfl (Nat.le_of_ble_eq_true rfl) ?_
              refine smem [.box [.i .i64 v4.1.Base, .i .u64 (v4.1.Bits.toNat : Int), .i .i64 a0.Next, .sl v5.length (v5.flatMap eGMsgReq), .sl a0.Past.length (a0.Past.flatMap eGMsgReply)], .box [.i .i64 a1.Kind, .i .i64 a1.Seq, .i .i64 a1.Token, .i .i64 a1.Attempt, .b a1.RO, .sl a1.Key.length (a1.Key.flatMap eU8), .sl a1.Val.length (a1.Val.flatMap eU8), .sl a1.Rng.Lo.length (a1.Rng.Lo.flatMap eU8), .sl a1.Rng.Hi.length (a1.Rng.Hi.flatMap eU8), .b a1.Rng.Open], .box [.i .i64 v4.1.Base, .i .u64 (v4.1.Bits.toNat : Int), .i .i64 a0.Next, .sl v5.length (v5.flatMap eGMsgReq), .sl a0.Past.length (a0.Past.flatMap eGMsgReply)], .box [.i .i64 0, .i .i64 0, .i .i64 0, .i .i64 0, .b false, .raw (.slice none 0 0), .raw (.slice none 0 0)], .box [.i .i64 v4.1.Base, .i .u64 (v4.1.Bits.toNat : Int)]] rfl ?_
              refine sv rfl (opv_as rfl) ?_
              refine sv rfl (opv_as rfl) ?_
              refine snil ?_
              refine cret ?_
              obtain rfl := Option.some.inj h
              refine ⟨Or.inr rfl, _, _, _, (resVs_cons (ResV.agg _ _ _ _ _ ti46 rfl (.lp _ _ _ rfl) (Nat.le_of_ble_eq_true rfl)) (resVs_cons (ResV.agg _ _ _ _ _ ti48 rfl (.lp _ _ _ rfl) (Nat.le_of_ble_eq_true rfl)) (resVs_cons (ResV.tmp _ _ rfl) (resVs_cons (ResV.tmp _ _ rfl) resVs_nil)))), (pubC rfl), ?_⟩
              rfl
    · skip
      refine cblock ?_
      obtain ⟨x6, hx6, ho6⟩ := bind_eq h
      refine awc_loop (G := Nat × (Int)) (fun g => [(2, .s (.one (.lp 0 0))), (3, .s (.one (.lp 1 0))), (4, .s (.one (.lp 2 0))), (5, .s (.one (.lp 3 0))), (23, .s (.one (.sl a0.Past.length (a0.Past.flatMap eGMsgReply)))), (24, .s (.one (.i .i64 (a0.Past.length : Int)))), (25, .s (.one (.i .i64 g.2)))]) (fun g => [.box [.i .i64 a0.Win.Base, .i .u64 (a0.Win.Bits.toNat : Int), .i .i64 a0.Next, .sl a0.Wait.length (a0.Wait.flatMap eGMsgReq), .sl a0.Past.length (a0.Past.flatMap eGMsgReply)], .box [.i .i64 a1.Kind, .i .i64 a1.Seq, .i .i64 a1.Token, .i .i64 a1.Attempt, .b a1.RO, .sl a1.Key.length (a1.Key.flatMap eU8), .sl a1.Val.length (a1.Val.flatMap eU8), .sl a1.Rng.Lo.length (a1.Rng.Lo.flatMap eU8), .sl a1.Rng.Hi.length (a1.Rng.Hi.flatMap eU8), .b a1.Rng.Open], .box [.i .i64 0, .i .u64 ((0#64).toNat : Int), .i .i64 0, .raw (.slice none 0 0), .raw (.slice none 0 0)], .box [.i .i64 0, .i .i64 0, .i .i64 0, .i .i64 0, .b false, .raw (.slice none 0 0), .raw (.slice none 0 0)]]) (fun g => iter (m13_pipe_Offer_s6 a0 a1) g.1 g.2 = some x6) (fun g => g.1) (fuel, 0) hx6 ⟨rfl, rfl, rfl, rfl, rfl, rfl, rfl, trivial⟩ [] rfl (fun _ _ => inbL_of rfl) (fun _ _ => blkinb_of rfl) (fun _ _ => Nat.le_of_ble_eq_true rfl) ?_
      clear hx6 h
      rintro ⟨n6, s6⟩ h
      obtain ⟨n6, y6, rfl, h, hk6⟩ := iter_eq h
      unfold m13_pipe_Offer_s6 at h
      refine cseq ?_
      refine cregion ?_
      refine sv rfl (opv_lss rfl rfl) ?_
      refine snil ?_
      refine cseq ?_
      refine ccond rfl (fun hc => ?_) (fun hc => ?_)
      · replace h := ite_t hc h
        clear hc
        refine cskip ?_
        refine then_normal ?_
        refine cseq ?_
        refine cblock ?_
        refine cseq ?_
        refine cregion ?_
        obtain ⟨u7, hu7, h⟩ := bind_eq h
        refine sv rfl (opv_ix (f := eGMsgReply) si44 (fun _ => rfl) rfl rfl rfl rfl hu7) ?_
        refine sv rfl (opv_loadNe (ys := [.i .i64 u7.Kind, .i .i64 u7.Seq, .i .i64 u7.Code, .i .i64 u7.N, .b u7.Found, .sl u7.Val.length (u7.Val.flatMap eU8), .sl u7.List.length (u7.List.flatMap eGApiKV)]) ti48 rfl (.cp _) rfl rfl) ?_
        refine salloc rfl zi48 ?_
        refine sstore sz48 rfl rfl rfl rfl (Nat.le_of_ble_eq_true rfl) ?_
        refine smem [.box [.i .i64 a0.Win.Base, .i .u64 (a0.Win.Bits.toNat : Int), .i .i64 a0.Next, .sl a0.Wait.length (a0.Wait.flatMap eGMsgReq), .sl a0.Past.length (a0.Past.flatMap eGMsgReply)], .box [.i .i64 a1.Kind, .i .i64 a1.Seq, .i .i64 a1.Token, .i .i64 a1.Attempt, .b a1.RO, .sl a1.Key.length (a1.Key.flatMap eU8), .sl a1.Val.length (a1.Val.flatMap eU8), .sl a1.Rng.Lo.length (a1.Rng.Lo.flatMap eU8), .sl a1.Rng.Hi.length (a1.Rng.Hi.flatMap eU8), .b a1.Rng.Open], .box [.i .i64 0, .i .u64 ((0#64).toNat : Int), .i .i64 0, .raw (.slice none 0 0), .raw (.slice none 0 0)], .box [.i .i64 0, .i .i64 0, .i .i64 0, .i .i64 0, .b false, .raw (.slice none 0 0), .raw (.slice none 0 0)], .box [.i .i64 u7.Kind, .i .i64 u7.Seq, .i .i64 u7.Code, .i .i64 u7.N, .b u7.Found, .sl u7.Val.length (u7.Val.flatMap eU8), .sl u7.List.length (u7.List.flatMap eGApiKV)]] rfl ?_
        refine snil ?_
        refine cseq ?_
        refine cregion ?_
        refine sv rfl (opv_fieldAddr_lp fi48_1 rfl) ?_
        refine sv rfl (opv_load1 ti3 rfl (.lp _ _ _ rfl) rfl) ?_
        refine sv rfl (opv_fieldAddr_lp fi51_1 rfl) ?_
        refine sv rfl (opv_load1 ti3 rfl (.lp _ _ _ rfl) rfl) ?_
        refine sv rfl (opv_ieql rfl rfl) ?_
        refine snil ?_
        refine ccond rfl (fun hc => ?_) (fun hc => ?_)
        · replace h := ite_t hc h
          clear hc
          refine cseq ?_
          refine cdraw_e [2, 3] [0, 0, 1, 7, 15, 31] [[.box [.i .i64 a0.Win.Base, .i .u64 (a0.Win.Bits.toNat : Int), .i .i64 a0.Next, .sl a0.Wait.length (a0.Wait.flatMap eGMsgReq), .sl a0.Past.length (a0.Past.flatMap eGMsgReply)], .box [.i .i64 a1.Kind, .i .i64 a1.Seq, .i .i64 a1.Token, .i .i64 a1.Attempt, .b a1.RO, .sl a1.Key.length (a1.Key.flatMap eU8), .sl a1.Val.length (a1.Val.flatMap eU8), .sl a1.Rng.Lo.length (a1.Rng.Lo.flatMap eU8), .sl a1.Rng.Hi.length (a1.Rng.Hi.flatMap eU8), .b a1.Rng.Open], .box [.i .i64 0, .i .u64 ((0#64).toNat : Int), .i .i64 0, .raw (.slice none 0 0), .raw (.slice none 0 0)], .box [.i .i64 0, .i .i64 0, .i .i64 0, .i .i64 0, .b false, .raw (.slice none 0 0), .raw (.slice none 0 0)], .box [.i .i64 u7.Kind, .i .i64 u7.Seq, .i .i64 u7.Code, .i .i64 u7.N, .b u7.Found, .sl u7.Val.length (u7.Val.flatMap eU8), .sl u7.List.length (u7.List.flatMap eGApiKV)]], [.box [.i .i64 a0.Win.Base, .i .u64 (a0.Win.Bits.toNat : Int), .i .i64 a0.Next, .sl a0.Wait.length (a0.Wait.flatMap eGMsgReq), .sl a0.Past.length (a0.Past.flatMap eGMsgReply)], .box [.i .i64 a1.Kind, .i .i64 a1.Seq, .i .i64 a1.Token, .i .i64 a1.Attempt, .b a1.RO, .sl a1.Key.length (a1.Key.flatMap eU8), .sl a1.Val.length (a1.Val.flatMap eU8), .sl a1.Rng.Lo.length (a1.Rng.Lo.flatMap eU8), .sl a1.Rng.Hi.length (a1.Rng.Hi.flatMap eU8), .b a1.Rng.Open], .box [.i .i64 a0.Win.Base, .i .u64 (a0.Win.Bits.toNat : Int), .i .i64 a0.Next, .sl a0.Wait.length (a0.Wait.flatMap eGMsgReq), .sl a0.Past.length (a0.Past.flatMap eGMsgReply)], .box [.i .i64 0, .i .i64 0, .i .i64 0, .i .i64 0, .b false, .raw (.slice none 0 0), .raw (.slice none 0 0)], .box [.i .i64 u7.Kind, .i .i64 u7.Seq, .i .i64 u7.Code, .i .i64 u7.N, .b u7.Found, .sl u7.Val.length (u7.Val.flatMap eU8), .sl u7.List.length (u7.List.flatMap eGApiKV)]], [.box [.i .i64 a0.Win.Base, .i .u64 (a0.Win.Bits.toNat : Int), .i .i64 a0.Next, .sl a0.Wait.length (a0.Wait.flatMap eGMsgReq), .sl a0.Past.length (a0.Past.flatMap eGMsgReply)], .box [.i .i64 a1.Kind, .i .i64 a1.Seq, .i .i64 a1.Token, .i .i64 a1.Attempt, .b a1.RO, .sl a1.Key.length (a1.Key.flatMap eU8), .sl a1.Val.length (a1.Val.flatMap eU8), .sl a1.Rng.Lo.length (a1.Rng.Lo.flatMap eU8), .sl a1.Rng.Hi.length (a1.Rng.Hi.flatMap eU8), .b a1.Rng.Open], .box [.i .i64 a0.Win.Base, .i .u64 (a0.Win.Bits.toNat : Int), .i .i64 a0.Next, .sl a0.Wait.length (a0.Wait.flatMap eGMsgReq), .sl a0.Past.length (a0.Past.flatMap eGMsgReply)], .box [.i .i64 u7.Kind, .i .i64 u7.Seq, .i .i64 u7.Code, .i .i64 u7.N, .b u7.Found, .sl u7.Val.length (u7.Val.flatMap eU8), .sl u7.List.length (u7.List.flatMap eGApiKV)], .box [.i .i64 u7.Kind, .i .i64 u7.Seq, .i .i64 u7.Code, .i .i64 u7.N, .b u7.Found, .sl u7.Val.length (u7.Val.flatMap eU8), .sl u7.List.length (u7.List.flatMap eGApiKV)]]] (by kernel_rfl) mixed (by kernel_rfl) (by decide) rfl rfl rfl rfl ?_
          refine ev (sees_at 0 rfl rfl) rfl rfl (opv_loadN ti46 rfl (.lp _ _ _ rfl) (Nat.le_of_ble_eq_true rfl)) ?_
          refine ev (sees_all (md := [.box [.i .i64 a0.Win.Base, .i .u64 (a0.Win.Bits.toNat : Int), .i .i64 a0.Next, .sl a0.Wait.length (a0.Wait.flatMap eGMsgReq), .sl a0.Past.length (a0.Past.flatMap eGMsgReply)], .box [.i .i64 a1.Kind, .i .i64 a1.Seq, .i .i64 a1.Token, .i .i64 a1.Attempt, .b a1.RO, .sl a1.Key.length (a1.Key.flatMap eU8), .sl a1.Val.length (a1.Val.flatMap eU8), .sl a1.Rng.Lo.length (a1.Rng.Lo.flatMap eU8), .sl a1.Rng.Hi.length (a1.Rng.Hi.flatMap eU8), .b a1.Rng.Open], .dead, .dead, .box [.i .i64 u7.Kind, .i .i64 u7.Seq, .i .i64 u7.Code, .i .i64 u7.N, .b u7.Found, .sl u7.Val.length (u7.Val.flatMap eU8), .sl u7.List.length (u7.List.flatMap eGApiKV)]]) ⟨⟨rfl, ⟨rfl, ⟨trivial, ⟨trivial, ⟨rfl, trivial⟩⟩⟩⟩⟩, ⟨⟨rfl, ⟨rfl, ⟨trivial, ⟨trivial, ⟨rfl, trivial⟩⟩⟩⟩⟩, ⟨⟨rfl, ⟨rfl, ⟨trivial, ⟨trivial, ⟨rfl, trivial⟩⟩⟩⟩⟩, trivial⟩⟩⟩) rfl rfl (opv_loadN ti48 rfl (.lp _ _ _ rfl) (Nat.le_of_ble_eq_true rfl)) ?_
          refine ee0 0 rfl rfl rfl rfl (fun ζ => ?_) ?_
          · refine sstore sz46 rfl rfl rfl rfl (Nat.le_of_ble_eq_true rfl) ?_
            refine smem [.box [.i .i64 a0.Win.Base, .i .u64 (a0.Win.Bits.toNat : Int), .i .i64 a0.Next, .sl a0.Wait.length (a0.Wait.flatMap eGMsgReq), .sl a0.Past.length (a0.Past.flatMap eGMsgReply)], .box [.i .i64 a1.Kind, .i .i64 a1.Seq, .i .i64 a1.Token, .i .i64 a1.Attempt, .b a1.RO, .sl a1.Key.length (a1.Key.flatMap eU8), .sl a1.Val.length (a1.Val.flatMap eU8), .sl a1.Rng.Lo.length (a1.Rng.Lo.flatMap eU8), .sl a1.Rng.Hi.length (a1.Rng.Hi.flatMap eU8), .b a1.Rng.Open], .box [.i .i64 a0.Win.Base, .i .u64 (a0.Win.Bits.toNat : Int), .i .i64 a0.Next, .sl a0.Wait.length (a0.Wait.flatMap eGMsgReq), .sl a0.Past.length (a0.Past.flatMap eGMsgReply)], .box [.i .i64 0, .i .i64 0, .i .i64 0, .i .i64 0, .b false, .raw (.slice none 0 0), .raw (.slice none 0 0)], .box [.i .i64 u7.Kind, .i .i64 u7.Seq, .i .i64 u7.Code, .i .i64 u7.N, .b u7.Found, .sl u7.Val.length (u7.Val.flatMap eU8), .sl u7.List.length (u7.List.flatMap eGApiKV)]] rfl ?_
            exact eend
          refine ee0 1 rfl rfl rfl rfl (fun ζ => ?_) ?_
          · refine sstore sz48 rfl rfl rfl rfl (Nat.le_of_ble_eq_true rfl) ?_
            refine smem [.box [.i .i64 a0.Win.Base, .i .u64 (a0.Win.Bits.toNat : Int), .i .i64 a0.Next, .sl a0.Wait.length (a0.Wait.flatMap eGMsgReq), .sl a0.Past.length (a0.Past.flatMap eGMsgReply)], .box [.i .i64 a1.Kind, .i .i64 a1.Seq, .i .i64 a1.Token, .i .i64 a1.Attempt, .b a1.RO, .sl a1.Key.length (a1.Key.flatMap eU8), .sl a1.Val.length (a1.Val.flatMap eU8), .sl a1.Rng.Lo.length (a1.Rng.Lo.flatMap eU8), .sl a1.Rng.Hi.length (a1.Rng.Hi.flatMap eU8), .b a1.Rng.Open], .box [.i .i64 a0.Win.Base, .i .u64 (a0.Win.Bits.toNat : Int), .i .i64 a0.Next, .sl a0.Wait.length (a0.Wait.flatMap eGMsgReq), .sl a0.Past.length (a0.Past.flatMap eGMsgReply)], .box [.i .i64 u7.Kind, .i .i64 u7.Seq, .i .i64 u7.Code, .i .i64 u7.N, .b u7.Found, .sl u7.Val.length (u7.Val.flatMap eU8), .sl u7.List.length (u7.List.flatMap eGApiKV)], .box [.i .i64 u7.Kind, .i .i64 u7.Seq, .i .i64 u7.Code, .i .i64 u7.N, .b u7.Found, .sl u7.Val.length (u7.Val.flatMap eU8), .sl u7.List.length (u7.List.flatMap eGApiKV)]] rfl ?_
            exact eend
          refine ev (sees_at 2 rfl rfl) rfl rfl (opv_as rfl) ?_
          refine ev (sees_at 2 rfl rfl) rfl rfl (opv_as rfl) ?_
          refine enil ?_
          refine then_normal ?_
          refine cret ?_
          refine block_ret ?_
          refine then_ret ?_
          refine then_ret ?_
          refine block_ret ?_
          refine then_ret ?_
          obtain rfl := Option.some.inj h
          obtain rfl : Sum.inl _ = x6 := hk6
          replace ho6 : some _ = some _ := ho6
          obtain rfl := Option.some.inj ho6
          refine ⟨Or.inr rfl, _, _, _, (resVs_cons (ResV.agg _ _ _ _ _ ti46 rfl (.lp _ _ _ rfl) (Nat.le_of_ble_eq_true rfl)) (resVs_cons (ResV.agg _ _ _ _ _ ti48 rfl (.lp _ _ _ rfl) (Nat.le_of_ble_eq_true rfl)) (resVs_cons (ResV.tmp _ _ rfl) (resVs_cons (ResV.tmp _ _ rfl) resVs_nil)))), (pubA_id rfl), ?_⟩
          rfl
        · replace h := ite_f hc h
          clear hc
          refine cskip ?_
          refine block_normal ?_
          refine then_normal ?_
          refine cregion ?_
          refine sv rfl (opv_add rfl rfl) ?_
          refine sv rfl (opv_mv rfl) ?_
          refine snil ?_
          obtain rfl := Option.some.inj h
          exact ⟨(n6, (wI (s6 + 1))), _, hk6, ⟨rfl, rfl, rfl, rfl, rfl, rfl, rfl, trivial⟩, rfl, Nat.lt_succ_self _⟩
      · replace h := ite_f hc h
        clear hc
        refine cexit ?_
        refine then_exit ?_
        refine then_exit ?_
        refine block_hit ?_
        refine then_normal ?_
        obtain rfl := Option.some.inj h
        obtain rfl : _ = x6 := hk6
        exact ⟨(), _, ho6, ⟨rfl, rfl, rfl, rfl, trivial⟩, rfl⟩
  · skip
    refine cregion ?_
    refine sv rfl (opv_loadN ti46 rfl (.lp _ _ _ rfl) (Nat.le_of_ble_eq_true rfl)) ?_
    obtain ⟨v9, hv9, h⟩ := bind_eq h
    refine scall1 rfl fn27 (opnds_cons rfl opnds_nil) (pubA_id rfl) (m27_pipe_Sane_c hv9) ?_
    refine sv rfl (opv_not rfl) ?_
    refine sv rfl (opv_mv rfl) ?_
    refine ssplit 15 rfl (fun hc => ?_) (fun hc => ?_)
    · replace h := ite_t hc h
      clear hc
      refine soff rfl rfl rfl rfl ?_
      refine soff rfl rfl rfl rfl ?_
      refine soff rfl rfl rfl rfl ?_
      refine sv rfl (opv_pick_t rfl rfl) ?_
      refine snil ?_
      refine ccond rfl (fun _ => ?_) (fun hx => Bool.noConfusion hx)
      refine cseq ?_
      refine cregion ?_
      refine sv rfl (opv_build zi46 pi46 parts_nil (.nil _)) ?_
      refine sv rfl (opv_build zi48 pi48 parts_nil (.nil _)) ?_
      refine sstore sz46 rfl rfl rfl rfl (Nat.le_of_ble_eq_true rfl) ?_
      refine smem [.box [.i .i64 a0.Win.Base, .i .u64 (a0.Win.Bits.toNat : Int), .i .i64 a0.Next, .sl a0.Wait.length (a0.Wait.flatMap eGMsgReq), .sl a0.Past.length (a0.Past.flatMap eGMsgReply)], .box [.i .i64 a1.Kind, .i .i64 a1.Seq, .i .i64 a1.Token, .i .i64 a1.Attempt, .b a1.RO, .sl a1.Key.length (a1.Key.flatMap eU8), .sl a1.Val.length (a1.Val.flatMap eU8), .sl a1.Rng.Lo.length (a1.Rng.Lo.flatMap eU8), .sl a1.Rng.Hi.length (a1.Rng.Hi.flatMap eU8), .b a1.Rng.Open], .box [.i .i64 0, .i .u64 ((0#64).toNat : Int), .i .i64 0, .raw (.slice none 0 0), .raw (.slice none 0 0)], .box [.i .i64 0, .i .i64 0, .i .i64 0, .i .i64 0, .b false, .raw (.slice none 0 0), .raw (.slice none 0 0)]] rfl ?_
      refine sstore sz48 rfl rfl rfl rfl (Nat.le_of_ble_eq_true rfl) ?_
      refine smem [.box [.i .i64 a0.Win.Base, .i .u64 (a0.Win.Bits.toNat : Int), .i .i64 a0.Next, .sl a0.Wait.length (a0.Wait.flatMap eGMsgReq), .sl a0.Past.length (a0.Past.flatMap eGMsgReply)], .box [.i .i64 a1.Kind, .i .i64 a1.Seq, .i .i64 a1.Token, .i .i64 a1.Attempt, .b a1.RO, .sl a1.Key.length (a1.Key.flatMap eU8), .sl a1.Val.length (a1.Val.flatMap eU8), .sl a1.Rng.Lo.length (a1.Rng.Lo.flatMap eU8), .sl a1.Rng.Hi.length (a1.Rng.Hi.flatMap eU8), .b a1.Rng.Open], .box [.i .i64 0, .i .u64 ((0#64).toNat : Int), .i .i64 0, .raw (.slice none 0 0), .raw (.slice none 0 0)], .box [.i .i64 0, .i .i64 0, .i .i64 0, .i .i64 0, .b false, .raw (.slice none 0 0), .raw (.slice none 0 0)]] rfl ?_
      refine sv rfl (opv_as rfl) ?_
      refine sv rfl (opv_as rfl) ?_
      refine snil ?_
      refine cret ?_
      refine then_ret ?_
      obtain rfl := Option.some.inj h
      refine ⟨Or.inr rfl, _, _, _, (resVs_cons (ResV.agg _ _ _ _ _ ti46 rfl (.lp _ _ _ rfl) (Nat.le_of_ble_eq_true rfl)) (resVs_cons (ResV.agg _ _ _ _ _ ti48 rfl (.lp _ _ _ rfl) (Nat.le_of_ble_eq_true rfl)) (resVs_cons (ResV.tmp _ _ rfl) (resVs_cons (ResV.tmp _ _ rfl) resVs_nil)))), (pubC rfl), ?_⟩
      rfl
    · replace h := ite_f hc h
      clear hc
      refine son rfl rfl rfl ?_
      refine sv rfl (opv_loadN ti51 rfl (.lp _ _ _ rfl) (Nat.le_of_ble_eq_true rfl)) ?_
      refine son rfl rfl rfl ?_
      obtain ⟨v10, hv10, h⟩ := bind_eq h
      refine scall1 rfl fn32 (opnds_cons rfl opnds_nil) (pubA_id rfl) (m32_msg_SaneReq_c hv10) ?_
      refine son rfl rfl rfl ?_
      refine sv rfl (opv_not rfl) ?_
      refine sv rfl (opv_pick_f rfl rfl) ?_
      refine snil ?_
      refine ccond rfl (fun hc => ?_) (fun hc => ?_)
      · replace h := ite_t hc h
        clear hc
        refine cseq ?_
        refine cregion ?_
        refine sv rfl (opv_build zi46 pi46 parts_nil (.nil _)) ?_
        refine sv rfl (opv_build zi48 pi48 parts_nil (.nil _)) ?_
        refine sstore sz46 rfl rfl rfl rfl (Nat.le_of_ble_eq_true rfl) ?_
        refine smem [.box [.i .i64 a0.Win.Base, .i .u64 (a0.Win.Bits.toNat : Int), .i .i64 a0.Next, .sl a0.Wait.length (a0.Wait.flatMap eGMsgReq), .sl a0.Past.length (a0.Past.flatMap eGMsgReply)], .box [.i .i64 a1.Kind, .i .i64 a1.Seq, .i .i64 a1.Token, .i .i64 a1.Attempt, .b a1.RO, .sl a1.Key.length (a1.Key.flatMap eU8), .sl a1.Val.length (a1.Val.flatMap eU8), .sl a1.Rng.Lo.length (a1.Rng.Lo.flatMap eU8), .sl a1.Rng.Hi.length (a1.Rng.Hi.flatMap eU8), .b a1.Rng.Open], .box [.i .i64 0, .i .u64 ((0#64).toNat : Int), .i .i64 0, .raw (.slice none 0 0), .raw (.slice none 0 0)], .box [.i .i64 0, .i .i64 0, .i .i64 0, .i .i64 0, .b false, .raw (.slice none 0 0), .raw (.slice none 0 0)]] rfl ?_
        refine sstore sz48 rfl rfl rfl rfl (Nat.le_of_ble_eq_true rfl) ?_
        refine smem [.box [.i .i64 a0.Win.Base, .i .u64 (a0.Win.Bits.toNat : Int), .i .i64 a0.Next, .sl a0.Wait.length (a0.Wait.flatMap eGMsgReq), .sl a0.Past.length (a0.Past.flatMap eGMsgReply)], .box [.i .i64 a1.Kind, .i .i64 a1.Seq, .i .i64 a1.Token, .i .i64 a1.Attempt, .b a1.RO, .sl a1.Key.length (a1.Key.flatMap eU8), .sl a1.Val.length (a1.Val.flatMap eU8), .sl a1.Rng.Lo.length (a1.Rng.Lo.flatMap eU8), .sl a1.Rng.Hi.length (a1.Rng.Hi.flatMap eU8), .b a1.Rng.Open], .box [.i .i64 0, .i .u64 ((0#64).toNat : Int), .i .i64 0, .raw (.slice none 0 0), .raw (.slice none 0 0)], .box [.i .i64 0, .i .i64 0, .i .i64 0, .i .i64 0, .b false, .raw (.slice none 0 0), .raw (.slice none 0 0)]] rfl ?_
        refine sv rfl (opv_as rfl) ?_
        refine sv rfl (opv_as rfl) ?_
        refine snil ?_
        refine cret ?_
        refine then_ret ?_
        obtain rfl := Option.some.inj h
        refine ⟨Or.inr rfl, _, _, _, (resVs_cons (ResV.agg _ _ _ _ _ ti46 rfl (.lp _ _ _ rfl) (Nat.le_of_ble_eq_true rfl)) (resVs_cons (ResV.agg _ _ _ _ _ ti48 rfl (.lp _ _ _ rfl) (Nat.le_of_ble_eq_true rfl)) (resVs_cons (ResV.tmp _ _ rfl) (resVs_cons (ResV.tmp _ _ rfl) resVs_nil)))), (pubC rfl), ?_⟩
        rfl
      · replace h := ite_f hc h
        clear hc
        refine cskip ?_
        refine then_normal ?_
        exact ⟨(), _, h, ⟨rfl, rfl, rfl, rfl, trivial⟩, rfl⟩

def m19_pipe_Ready_k2 (a0 : GPipePipe) (v1 : Int) (b2 : Unit) : Option (GMsgReq × Bool) :=
  (idx a0.Wait v1).bind fun u3 => some ((GMsgReq.mk u3.Kind u3.Seq u3.Token u3.Attempt u3.RO u3.Key u3.Val (GApiRange.mk u3.Rng.Lo u3.Rng.Hi u3.Rng.Open)), true)
def m19_pipe_Ready (a0 : GPipePipe) : Option (GMsgReq × Bool) :=
  (m33_pipe_waiting (GPipePipe.mk (GSeqsWindow.mk a0.Win.Base a0.Win.Bits) a0.Next a0.Wait a0.Past) a0.Next).bind fun v1 => if (decide (v1 < 0)) then (some ((GMsgReq.mk 0 0 0 0 false ([] : List UInt8) ([] : List UInt8) (GApiRange.mk ([] : List UInt8) ([] : List UInt8) false)), false)) else ((m27_pipe_Sane (GPipePipe.mk (GSeqsWindow.mk a0.Win.Base a0.Win.Bits) a0.Next a0.Wait a0.Past)).bind fun v4 => if (!v4) then (some ((GMsgReq.mk 0 0 0 0 false ([] : List UInt8) ([] : List UInt8) (GApiRange.mk ([] : List UInt8) ([] : List UInt8) false)), false)) else (m19_pipe_Ready_k2 a0 v1 ()))

set_option maxRecDepth 100000 in
theorem m19_pipe_Ready_c {a0 : GPipePipe} {r : GMsgReq × Bool} (h : m19_pipe_Ready a0 = some r) : CallsA Tryd.prog 19 [.agg [.i .i64 a0.Win.Base, .i .u64 (a0.Win.Bits.toNat : Int), .i .i64 a0.Next, .sl a0.Wait.length (a0.Wait.flatMap eGMsgReq), .sl a0.Past.length (a0.Past.flatMap eGMsgReply)]] (· = .tup [.agg [.i .i64 r.1.Kind, .i .i64 r.1.Seq, .i .i64 r.1.Token, .i .i64 r.1.Attempt, .b r.1.RO, .sl r.1.Key.length (r.1.Key.flatMap eU8), .sl r.1.Val.length (r.1.Val.flatMap eU8), .sl r.1.Rng.Lo.length (r.1.Rng.Lo.flatMap eU8), .sl r.1.Rng.Hi.length (r.1.Rng.Hi.flatMap eU8), .b r.1.Rng.Open], .one (.b r.2)]) := by
  unfold m19_pipe_Ready at h
  refine callsA_of Tryd.func19 rfl (nt := 22) rfl (Nat.le_of_ble_eq_true rfl) ?_
  intro w0 S0
  refine cseq ?_
  refine cregion ?_
  refine sbox rfl rfl ?_
  refine salloc rfl zi51 ?_
  refine sv rfl (opv_as rfl) ?_
  refine snil ?_
  refine cseq ?_
  refine cregion ?_
  refine sv rfl (opv_loadN ti46 rfl (.lp _ _ _ rfl) (Nat.le_of_ble_eq_true rfl)) ?_
  refine sv rfl (opv_fieldAddr_lp fi46_1 rfl) ?_
  refine sv rfl (opv_load1 ti3 rfl (.lp _ _ _ rfl) rfl) ?_
  obtain ⟨v1, hv1, h⟩ := bind_eq h
  refine scall1 rfl fn33 (opnds_cons rfl (opnds_cons rfl opnds_nil)) (pubA_id rfl) (m33_pipe_waiting_c hv1) ?_
  refine sv rfl (opv_as rfl) ?_
  refine snil ?_
  refine cseq ?_
  refine cseq ?_
  refine cjoin3 (Unit) (fun b2 => [(1, .s (.one (.lp 0 0))), (2, .s (.one (.lp 1 0))), (4, .s (.one (.i .i64 v1)))]) (fun b2 => [.box [.i .i64 a0.Win.Base, .i .u64 (a0.Win.Bits.toNat : Int), .i .i64 a0.Next, .sl a0.Wait.length (a0.Wait.flatMap eGMsgReq), .sl a0.Past.length (a0.Past.flatMap eGMsgReply)], .box [.i .i64 0, .i .i64 0, .i .i64 0, .i .i64 0, .b false, .raw (.slice none 0 0), .raw (.slice none 0 0), .raw (.slice none 0 0), .raw (.slice none 0 0), .b false]]) (fun b2 => m19_pipe_Ready_k2 a0 v1 b2 = some r) (fun _ _ => inbL_of rfl) (fun _ _ => blkinb_of rfl) (fun _ _ => Nat.le_of_ble_eq_true rfl) (fun b2 h => ?_) ?_
  · unfold m19_pipe_Ready_k2 at h
    refine cseq ?_
    refine cregion ?_
    refine sv rfl (opv_fieldAddr_lp fi46_2 rfl) ?_
    refine sv rfl (opv_load1 ti43 rfl (.lp _ _ _ rfl) rfl) ?_
    refine sv rfl (opv_mv rfl) ?_
    obtain ⟨u3, hu3, h⟩ := bind_eq h
    refine sv rfl (opv_ix (f := eGMsgReq) si43 (fun _ => rfl) rfl rfl rfl rfl hu3) ?_
    refine sv rfl (opv_loadNe (ys := [.i .i64 u3.Kind, .i .i64 u3.Seq, .i .i64 u3.Token, .i .i64 u3.Attempt, .b u3.RO, .sl u3.Key.length (u3.Key.flatMap eU8), .sl u3.Val.length (u3.Val.flatMap eU8), .sl u3.Rng.Lo.length (u3.Rng.Lo.flatMap eU8), .sl u3.Rng.Hi.length (u3.Rng.Hi.flatMap eU8), .b u3.Rng.Open]) ti51 rfl (.cp _) rfl rfl) ?_
    refine sstore sz51 rfl rfl rfl rfl (Nat.le_of_ble_eq_true rfl) ?_
    refine smem [.box [.i .i64 a0.Win.Base, .i .u64 (a0.Win.Bits.toNat : Int), .i .i64 a0.Next, .sl a0.Wait.length (a0.Wait.flatMap eGMsgReq), .sl a0.Past.length (a0.Past.flatMap eGMsgReply)], .box [.i .i64 u3.Kind, .i .i64 u3.Seq, .i .i64 u3.Token, .i .i64 u3.Attempt, .b u3.RO, .sl u3.Key.length (u3.Key.flatMap eU8), .sl u3.Val.length (u3.Val.flatMap eU8), .sl u3.Rng.Lo.length (u3.Rng.Lo.flatMap eU8), .sl u3.Rng.Hi.length (u3.Rng.Hi.flatMap eU8), .b u3.Rng.Open]] rfl ?_
    refine sv rfl (opv_as rfl) ?_
    refine snil ?_
    refine cret ?_
    obtain rfl := Option.some.inj h
    refine ⟨Or.inr rfl, _, _, _, (resVs_cons (ResV.agg _ _ _ _ _ ti51 rfl (.lp _ _ _ rfl) (Nat.le_of_ble_eq_true rfl)) (resVs_cons (ResV.tmp _ _ rfl) resVs_nil)), (pubA_id rfl), ?_⟩
    rfl
  · skip
    refine cregion ?_
    refine sv rfl (opv_mv rfl) ?_
    refine sv rfl (opv_lss rfl rfl) ?_
    refine sv rfl (opv_mv rfl) ?_
    refine ssplit 11 rfl (fun hc => ?_) (fun hc => ?_)
    · replace h := ite_t hc h
      clear hc
      refine soff rfl rfl rfl rfl ?_
      refine soff rfl rfl rfl rfl ?_
      refine soff rfl rfl rfl rfl ?_
      refine sv rfl (opv_pick_t rfl rfl) ?_
      refine snil ?_
      refine ccond rfl (fun _ => ?_) (fun hx => Bool.noConfusion hx)
      refine cseq ?_
      refine cregion ?_
      refine sv rfl (opv_build zi51 pi51 parts_nil (.nil _)) ?_
      refine sstore sz51 rfl rfl rfl rfl (Nat.le_of_ble_eq_true rfl) ?_
      refine smem [.box [.i .i64 a0.Win.Base, .i .u64 (a0.Win.Bits.toNat : Int), .i .i64 a0.Next, .sl a0.Wait.length (a0.Wait.flatMap eGMsgReq), .sl a0.Past.length (a0.Past.flatMap eGMsgReply)], .box [.i .i64 0, .i .i64 0, .i .i64 0, .i .i64 0, .b false, .raw (.slice none 0 0), .raw (.slice none 0 0), .raw (.slice none 0 0), .raw (.slice none 0 0), .b false]] rfl ?_
      refine sv rfl (opv_as rfl) ?_
      refine snil ?_
      refine cret ?_
      refine then_ret ?_
      obtain rfl := Option.some.inj h
      refine ⟨Or.inr rfl, _, _, _, (resVs_cons (ResV.agg _ _ _ _ _ ti51 rfl (.lp _ _ _ rfl) (Nat.le_of_ble_eq_true rfl)) (resVs_cons (ResV.tmp _ _ rfl) resVs_nil)), (pubC rfl), ?_⟩
      rfl
    · replace h := ite_f hc h
      clear hc
      refine son rfl rfl rfl ?_
      refine sv rfl (opv_loadN ti46 rfl (.lp _ _ _ rfl) (Nat.le_of_ble_eq_true rfl)) ?_
      refine son rfl rfl rfl ?_
      obtain ⟨v4, hv4, h⟩ := bind_eq h
      refine scall1 rfl fn27 (opnds_cons rfl opnds_nil) (pubA_id rfl) (m27_pipe_Sane_c hv4) ?_
      refine son rfl rfl rfl ?_
      refine sv rfl (opv_not rfl) ?_
      refine sv rfl (opv_pick_f rfl rfl) ?_
      refine snil ?_
      refine ccond rfl (fun hc => ?_) (fun hc => ?_)
      · replace h := ite_t hc h
        clear hc
        refine cseq ?_
        refine cregion ?_
        refine sv rfl (opv_build zi51 pi51 parts_nil (.nil _)) ?_
        refine sstore sz51 rfl rfl rfl rfl (Nat.le_of_ble_eq_true rfl) ?_
        refine smem [.box [.i .i64 a0.Win.Base, .i .u64 (a0.Win.Bits.toNat : Int), .i .i64 a0.Next, .sl a0.Wait.length (a0.Wait.flatMap eGMsgReq), .sl a0.Past.length (a0.Past.flatMap eGMsgReply)], .box [.i .i64 0, .i .i64 0, .i .i64 0, .i .i64 0, .b false, .raw (.slice none 0 0), .raw (.slice none 0 0), .raw (.slice none 0 0), .raw (.slice none 0 0), .b false]] rfl ?_
        refine sv rfl (opv_as rfl) ?_
        refine snil ?_
        refine cret ?_
        refine then_ret ?_
        obtain rfl := Option.some.inj h
        refine ⟨Or.inr rfl, _, _, _, (resVs_cons (ResV.agg _ _ _ _ _ ti51 rfl (.lp _ _ _ rfl) (Nat.le_of_ble_eq_true rfl)) (resVs_cons (ResV.tmp _ _ rfl) resVs_nil)), (pubC rfl), ?_⟩
        rfl
      · replace h := ite_f hc h
        clear hc
        refine cskip ?_
        refine then_normal ?_
        exact ⟨(), _, h, ⟨rfl, rfl, rfl, trivial⟩, rfl⟩

def m39_slices_Clone (a0 : List GMsgReq) : Option (List GMsgReq) :=
  if (([] : List GMsgReq).length + a0.length) * 144 ≤ 140737488355328 then (some (([] : List GMsgReq) ++ a0)) else none

set_option maxRecDepth 100000 in
theorem m39_slices_Clone_c {a0 : List GMsgReq} {r : (List GMsgReq)} (h : m39_slices_Clone a0 = some r) : CallsA Tryd.prog 39 [.one (.sl a0.length (a0.flatMap eGMsgReq))] (· = .s (.one (.sl r.length (r.flatMap eGMsgReq)))) := by
  unfold m39_slices_Clone at h
  refine callsA_of Tryd.func39 rfl (nt := 8) rfl (Nat.le_of_ble_eq_true rfl) ?_
  intro w0 S0
  refine cseq ?_
  refine cregion ?_
  refine sv rfl (opv_as rfl) ?_
  refine snil ?_
  refine cseq ?_
  refine cseq ?_
  refine cregion ?_
  refine sv rfl (opv_mv rfl) ?_
  refine snilq rfl Tryd.underlying43 rfl (fun nq hnq => ?_)
  cases nq
  · skip
    refine snil ?_
    refine ccond rfl (fun hx => Bool.noConfusion hx) (fun _ => ?_)
    refine cskip ?_
    refine then_normal ?_
    refine cseq ?_
    refine cregion ?_
    refine sbuild0 rfl Tryd.underlying43 ei51 ?_
    refine sv rfl (opv_mv rfl) ?_
    obtain ⟨hb1, h⟩ := chk_eq h
    refine sapp (f := eGMsgReq) (xs := ([] : List GMsgReq)) (us := a0) rfl Tryd.underlying43 ei51 ni43 (fun _ => rfl) rfl rfl (.one _ _ _ _ (.id _ rfl)) rfl rfl rfl (.sl _ _ _ (flat_len (f := eGMsgReq) (fun _ => rfl) _)) rfl rfl hb1 (by decide) ?_
    refine sv rfl (opv_as rfl) ?_
    refine snil ?_
    refine cret ?_
    obtain rfl := Option.some.inj h
    refine ⟨Or.inr rfl, _, _, _, (resVs_cons (ResV.tmp _ _ rfl) resVs_nil), (by (repeat' first | exact PubA.nil _ | apply PubA.cons | apply PubV.one | apply PubV.agg | exact PubL.nil | exact PubL.ls _ _ _ _ _ _ rfl (flat_len (f := eGMsgReq) (fun _ => rfl) _).symm | exact PubL.id _ rfl | exact PubLs.nil _ | apply PubLs.cons)), ?_⟩
    rfl
  · obtain rfl := List.eq_nil_of_length_eq_zero (hnq rfl)
    replace h : (some ([] : List GMsgReq)) = some r := by first | exact h | (rw [if_pos (by decide)] at h; exact h)
    refine snil ?_
    refine ccond rfl (fun _ => ?_) (fun hx => Bool.noConfusion hx)
    refine cseq ?_
    refine cregion ?_
    refine sv rfl (opv_as rfl) ?_
    refine snil ?_
    refine cret ?_
    refine then_ret ?_
    obtain rfl := Option.some.inj h
    refine ⟨Or.inr rfl, _, _, _, (resVs_cons (ResV.tmp _ _ rfl) resVs_nil), (pubC rfl), ?_⟩
    rfl

def m40_pipe_passed (a0 : List GMsgReply) (a1 : GMsgReply) : Option (List GMsgReply) :=
  if (0 : Int) ≤ (wI ((a0.length : Int) + 1)) ∧ (wI ((a0.length : Int) + 1)) ≤ (wI ((a0.length : Int) + 1)) ∧ ((88 : Nat) : Int) * (wI ((a0.length : Int) + 1)) ≤ 281474976710656 then ((idx (a0.take (List.replicate (wI ((a0.length : Int) + 1)).toNat (GMsgReply.mk 0 0 0 0 false ([] : List UInt8) ([] : List GApiKV))).length ++ (List.replicate (wI ((a0.length : Int) + 1)).toNat (GMsgReply.mk 0 0 0 0 false ([] : List UInt8) ([] : List GApiKV))).drop a0.length) (wI ((wI ((a0.length : Int) + 1)) - 1))).bind fun u2 => if (decide ((wI ((a0.length : Int) + 1)) ≤ 8)) then ((cut ((a0.take (List.replicate (wI ((a0.length : Int) + 1)).toNat (GMsgReply.mk 0 0 0 0 false ([] : List UInt8) ([] : List GApiKV))).length ++ (List.replicate (wI ((a0.length : Int) + 1)).toNat (GMsgReply.mk 0 0 0 0 false ([] : List UInt8) ([] : List GApiKV))).drop a0.length).set ((wI ((wI ((a0.length : Int) + 1)) - 1)).toNat) a1) 0 (wI ((a0.length : Int) + 1))).bind fun c3 => if (wI ((a0.length : Int) + 1)) ≤ (wI ((a0.length : Int) + 1)) ∧ (wI ((a0.length : Int) + 1)) ≤ (((a0.take (List.replicate (wI ((a0.length : Int) + 1)).toNat (GMsgReply.mk 0 0 0 0 false ([] : List UInt8) ([] : List GApiKV))).length ++ (List.replicate (wI ((a0.length : Int) + 1)).toNat (GMsgReply.mk 0 0 0 0 false ([] : List UInt8) ([] : List GApiKV))).drop a0.length).set ((wI ((wI ((a0.length : Int) + 1)) - 1)).toNat) a1).length : Int) then (some c3) else none) else (if 0 ≤ (1 : Int) ∧ (1 : Int) ≤ (((a0.take (List.replicate (wI ((a0.length : Int) + 1)).toNat (GMsgReply.mk 0 0 0 0 false ([] : List UInt8) ([] : List GApiKV))).length ++ (List.replicate (wI ((a0.length : Int) + 1)).toNat (GMsgReply.mk 0 0 0 0 false ([] : List UInt8) ([] : List GApiKV))).drop a0.length).set ((wI ((wI ((a0.length : Int) + 1)) - 1)).toNat) a1).length : Int) ∧ 0 < ((a0.take (List.replicate (wI ((a0.length : Int) + 1)).toNat (GMsgReply.mk 0 0 0 0 false ([] : List UInt8) ([] : List GApiKV))).length ++ (List.replicate (wI ((a0.length : Int) + 1)).toNat (GMsgReply.mk 0 0 0 0 false ([] : List UInt8) ([] : List GApiKV))).drop a0.length).set ((wI ((wI ((a0.length : Int) + 1)) - 1)).toNat) a1).length then ((cut (((a0.take (List.replicate (wI ((a0.length : Int) + 1)).toNat (GMsgReply.mk 0 0 0 0 false ([] : List UInt8) ([] : List GApiKV))).length ++ (List.replicate (wI ((a0.length : Int) + 1)).toNat (GMsgReply.mk 0 0 0 0 false ([] : List UInt8) ([] : List GApiKV))).drop a0.length).set ((wI ((wI ((a0.length : Int) + 1)) - 1)).toNat) a1).drop (1 : Int).toNat ++ ((a0.take (List.replicate (wI ((a0.length : Int) + 1)).toNat (GMsgReply.mk 0 0 0 0 false ([] : List UInt8) ([] : List GApiKV))).length ++ (List.replicate (wI ((a0.length : Int) + 1)).toNat (GMsgReply.mk 0 0 0 0 false ([] : List UInt8) ([] : List GApiKV))).drop a0.length).set ((wI ((wI ((a0.length : Int) + 1)) - 1)).toNat) a1).drop (((a0.take (List.replicate (wI ((a0.length : Int) + 1)).toNat (GMsgReply.mk 0 0 0 0 false ([] : List UInt8) ([] : List GApiKV))).length ++ (List.replicate (wI ((a0.length : Int) + 1)).toNat (GMsgReply.mk 0 0 0 0 false ([] : List UInt8) ([] : List GApiKV))).drop a0.length).set ((wI ((wI ((a0.length : Int) + 1)) - 1)).toNat) a1).length - (1 : Int).toNat)) 0 (wI ((wI ((a0.length : Int) + 1)) - 1))).bind fun c6 => if (wI ((wI ((a0.length : Int) + 1)) - 1)) ≤ (wI ((wI ((a0.length : Int) + 1)) - 1)) ∧ (wI ((wI ((a0.length : Int) + 1)) - 1)) ≤ ((((a0.take (List.replicate (wI ((a0.length : Int) + 1)).toNat (GMsgReply.mk 0 0 0 0 false ([] : List UInt8) ([] : List GApiKV))).length ++ (List.replicate (wI ((a0.length : Int) + 1)).toNat (GMsgReply.mk 0 0 0 0 false ([] : List UInt8) ([] : List GApiKV))).drop a0.length).set ((wI ((wI ((a0.length : Int) + 1)) - 1)).toNat) a1).drop (1 : Int).toNat ++ ((a0.take (List.replicate (wI ((a0.length : Int) + 1)).toNat (GMsgReply.mk 0 0 0 0 false ([] : List UInt8) ([] : List GApiKV))).length ++ (List.replicate (wI ((a0.length : Int) + 1)).toNat (GMsgReply.mk 0 0 0 0 false ([] : List UInt8) ([] : List GApiKV))).drop a0.length).set ((wI ((wI ((a0.length : Int) + 1)) - 1)).toNat) a1).drop (((a0.take (List.replicate (wI ((a0.length : Int) + 1)).toNat (GMsgReply.mk 0 0 0 0 false ([] : List UInt8) ([] : List GApiKV))).length ++ (List.replicate (wI ((a0.length : Int) + 1)).toNat (GMsgReply.mk 0 0 0 0 false ([] : List UInt8) ([] : List GApiKV))).drop a0.length).set ((wI ((wI ((a0.length : Int) + 1)) - 1)).toNat) a1).length - (1 : Int).toNat)).length : Int) then (some c6) else none) else none)) else none

set_option maxRecDepth 100000 in
theorem m40_pipe_passed_c {a0 : List GMsgReply} {a1 : GMsgReply} {r : (List GMsgReply)} (h : m40_pipe_passed a0 a1 = some r) : CallsA Tryd.prog 40 [.one (.sl a0.length (a0.flatMap eGMsgReply)), .agg [.i .i64 a1.Kind, .i .i64 a1.Seq, .i .i64 a1.Code, .i .i64 a1.N, .b a1.Found, .sl a1.Val.length (a1.Val.flatMap eU8), .sl a1.List.length (a1.List.flatMap eGApiKV)]] (· = .s (.one (.sl r.length (r.flatMap eGMsgReply)))) := by
  unfold m40_pipe_passed at h
  refine callsA_of Tryd.func40 rfl (nt := 36) rfl (Nat.le_of_ble_eq_true rfl) ?_
  intro w0 S0
  refine cseq ?_
  refine cregion ?_
  refine sbox rfl rfl ?_
  refine sv rfl (opv_as rfl) ?_
  refine snil ?_
  refine cseq ?_
  refine cregion ?_
  refine sv rfl (opv_mv rfl) ?_
  refine sv rfl (opv_len_sl si44 rfl) ?_
  refine sv rfl (opv_add rfl rfl) ?_
  refine sv rfl (opv_as rfl) ?_
  refine snil ?_
  refine cseq ?_
  refine cregion ?_
  refine sv rfl (opv_mv rfl) ?_
  obtain ⟨hm1, h⟩ := chk_eq h
  refine smkc (f := eGMsgReply) (z := (GMsgReply.mk 0 0 0 0 false ([] : List UInt8) ([] : List GApiKV))) rfl Tryd.underlying44 ei48 (fun _ => rfl) rfl rfl rfl hm1 (by decide) ?_
  refine sv rfl (opv_as rfl) ?_
  refine snil ?_
  refine cseq ?_
  refine cregion ?_
  refine sv rfl (opv_mv rfl) ?_
  refine sv rfl (opv_mv rfl) ?_
  refine scopy (f := eGMsgReply) (xs := (List.replicate (wI ((a0.length : Int) + 1)).toNat (GMsgReply.mk 0 0 0 0 false ([] : List UInt8) ([] : List GApiKV)))) (us := a0) rfl Tryd.underlying44 (by kernel_rfl) (fun _ => rfl) rfl rfl rfl rfl rfl rfl rfl ?_
  refine stell 11 (y := .s (.one (.ls 1 (List.replicate (wI ((a0.length : Int) + 1)).toNat (GMsgReply.mk 0 0 0 0 false ([] : List UInt8) ([] : List GApiKV))).length))) (.s (.one (.ls 1 (a0.take (List.replicate (wI ((a0.length : Int) + 1)).toNat (GMsgReply.mk 0 0 0 0 false ([] : List UInt8) ([] : List GApiKV))).length ++ (List.replicate (wI ((a0.length : Int) + 1)).toNat (GMsgReply.mk 0 0 0 0 false ([] : List UInt8) ([] : List GApiKV))).drop a0.length).length))) rfl (congrArg (fun n => AV.s (.one (.ls 1 n))) (copy_len _ _)) ?_
  refine stell 6 (y := .s (.one (.ls 1 (List.replicate (wI ((a0.length : Int) + 1)).toNat (GMsgReply.mk 0 0 0 0 false ([] : List UInt8) ([] : List GApiKV))).length))) (.s (.one (.ls 1 (a0.take (List.replicate (wI ((a0.length : Int) + 1)).toNat (GMsgReply.mk 0 0 0 0 false ([] : List UInt8) ([] : List GApiKV))).length ++ (List.replicate (wI ((a0.length : Int) + 1)).toNat (GMsgReply.mk 0 0 0 0 false ([] : List UInt8) ([] : List GApiKV))).drop a0.length).length))) rfl (congrArg (fun n => AV.s (.one (.ls 1 n))) (copy_len _ _)) ?_
  refine stell 12 (y := .s (.one (.ls 1 (List.replicate (wI ((a0.length : Int) + 1)).toNat (GMsgReply.mk 0 0 0 0 false ([] : List UInt8) ([] : List GApiKV))).length))) (.s (.one (.ls 1 (a0.take (List.replicate (wI ((a0.length : Int) + 1)).toNat (GMsgReply.mk 0 0 0 0 false ([] : List UInt8) ([] : List GApiKV))).length ++ (List.replicate (wI ((a0.length : Int) + 1)).toNat (GMsgReply.mk 0 0 0 0 false ([] : List UInt8) ([] : List GApiKV))).drop a0.length).length))) rfl (congrArg (fun n => AV.s (.one (.ls 1 n))) (copy_len _ _)) ?_
  refine snil ?_
  refine cseq ?_
  refine cregion ?_
  refine sv rfl (opv_mv rfl) ?_
  refine sv rfl (opv_mv rfl) ?_
  refine sv rfl (opv_sub rfl rfl) ?_
  refine sv rfl (opv_loadN ti48 rfl (.lp _ _ _ rfl) (Nat.le_of_ble_eq_true rfl)) ?_
  obtain ⟨u2, hu2, h⟩ := bind_eq h
  refine sv rfl (opv_ixo (f := eGMsgReply) si44 (fun _ => rfl) rfl rfl rfl rfl rfl hu2) ?_
  refine sseto (f := eGMsgReply) (u' := a1) (sz := 7) 0 sz48 (fun _ => rfl) rfl rfl rfl rfl rfl rfl rfl (List.all_eq_true.1 rfl) (idx_eq hu2).2 (Nat.le_of_ble_eq_true rfl) rfl ?_
  refine stell 11 (y := .s (.one (.ls 1 (a0.take (List.replicate (wI ((a0.length : Int) + 1)).toNat (GMsgReply.mk 0 0 0 0 false ([] : List UInt8) ([] : List GApiKV))).length ++ (List.replicate (wI ((a0.length : Int) + 1)).toNat (GMsgReply.mk 0 0 0 0 false ([] : List UInt8) ([] : List GApiKV))).drop a0.length).length))) (.s (.one (.ls 1 ((a0.take (List.replicate (wI ((a0.length : Int) + 1)).toNat (GMsgReply.mk 0 0 0 0 false ([] : List UInt8) ([] : List GApiKV))).length ++ (List.replicate (wI ((a0.length : Int) + 1)).toNat (GMsgReply.mk 0 0 0 0 false ([] : List UInt8) ([] : List GApiKV))).drop a0.length).set ((wI ((wI ((a0.length : Int) + 1)) - 1)).toNat) a1).length))) rfl (congrArg (fun n => AV.s (.one (.ls 1 n))) List.length_set.symm) ?_
  refine stell 6 (y := .s (.one (.ls 1 (a0.take (List.replicate (wI ((a0.length : Int) + 1)).toNat (GMsgReply.mk 0 0 0 0 false ([] : List UInt8) ([] : List GApiKV))).length ++ (List.replicate (wI ((a0.length : Int) + 1)).toNat (GMsgReply.mk 0 0 0 0 false ([] : List UInt8) ([] : List GApiKV))).drop a0.length).length))) (.s (.one (.ls 1 ((a0.take (List.replicate (wI ((a0.length : Int) + 1)).toNat (GMsgReply.mk 0 0 0 0 false ([] : List UInt8) ([] : List GApiKV))).length ++ (List.replicate (wI ((a0.length : Int) + 1)).toNat (GMsgReply.mk 0 0 0 0 false ([] : List UInt8) ([] : List GApiKV))).drop a0.length).set ((wI ((wI ((a0.length : Int) + 1)) - 1)).toNat) a1).length))) rfl (congrArg (fun n => AV.s (.one (.ls 1 n))) List.length_set.symm) ?_
  refine stell 12 (y := .s (.one (.ls 1 (a0.take (List.replicate (wI ((a0.length : Int) + 1)).toNat (GMsgReply.mk 0 0 0 0 false ([] : List UInt8) ([] : List GApiKV))).length ++ (List.replicate (wI ((a0.length : Int) + 1)).toNat (GMsgReply.mk 0 0 0 0 false ([] : List UInt8) ([] : List GApiKV))).drop a0.length).length))) (.s (.one (.ls 1 ((a0.take (List.replicate (wI ((a0.length : Int) + 1)).toNat (GMsgReply.mk 0 0 0 0 false ([] : List UInt8) ([] : List GApiKV))).length ++ (List.replicate (wI ((a0.length : Int) + 1)).toNat (GMsgReply.mk 0 0 0 0 false ([] : List UInt8) ([] : List GApiKV))).drop a0.length).set ((wI ((wI ((a0.length : Int) + 1)) - 1)).toNat) a1).length))) rfl (congrArg (fun n => AV.s (.one (.ls 1 n))) List.length_set.symm) ?_
  refine stell 15 (y := .s (.one (.ls 1 (a0.take (List.replicate (wI ((a0.length : Int) + 1)).toNat (GMsgReply.mk 0 0 0 0 false ([] : List UInt8) ([] : List GApiKV))).length ++ (List.replicate (wI ((a0.length : Int) + 1)).toNat (GMsgReply.mk 0 0 0 0 false ([] : List UInt8) ([] : List GApiKV))).drop a0.length).length))) (.s (.one (.ls 1 ((a0.take (List.replicate (wI ((a0.length : Int) + 1)).toNat (GMsgReply.mk 0 0 0 0 false ([] : List UInt8) ([] : List GApiKV))).length ++ (List.replicate (wI ((a0.length : Int) + 1)).toNat (GMsgReply.mk 0 0 0 0 false ([] : List UInt8) ([] : List GApiKV))).drop a0.length).set ((wI ((wI ((a0.length : Int) + 1)) - 1)).toNat) a1).length))) rfl (congrArg (fun n => AV.s (.one (.ls 1 n))) List.length_set.symm) ?_
  refine snil ?_
  refine cseq ?_
  refine cseq ?_
  refine cregion ?_
  refine sv rfl (opv_mv rfl) ?_
  refine sv rfl (opv_leq rfl rfl) ?_
  refine snil ?_
  refine ccond rfl (fun hc => ?_) (fun hc => ?_)
  · replace h := ite_t hc h
    clear hc
    refine cseq ?_
    refine cregion ?_
    refine sv rfl (opv_mv rfl) ?_
    refine sv rfl (opv_mv rfl) ?_
    refine sv rfl (opv_mv rfl) ?_
    refine spub 22 rfl (by (repeat' first | exact PubA.nil _ | apply PubA.cons | apply PubV.one | apply PubV.agg | exact PubL.nil | exact PubL.ls _ _ _ _ _ _ rfl (flat_len (f := eGMsgReply) (fun _ => rfl) _).symm | exact PubL.id _ rfl | exact PubLs.nil _ | apply PubLs.cons)) ?_
    obtain ⟨c3, hc3, h⟩ := bind_eq h
    obtain ⟨hs4, h⟩ := chk_eq h
    refine sv rfl (opv_cut3 (f := eGMsgReply) (lo := 0) (hi := (wI ((a0.length : Int) + 1))) (mx := (wI ((a0.length : Int) + 1))) si44 (fun _ => rfl) rfl rfl rfl bound_none (bound_some rfl (Int.le_trans (cut_eq hc3).1.1 (cut_eq hc3).1.2.1)) (bound_some rfl (Int.le_trans (Int.le_trans (cut_eq hc3).1.1 (cut_eq hc3).1.2.1) hs4.1)) hc3 hs4) ?_
    refine sv rfl (opv_as rfl) ?_
    refine snil ?_
    refine cret ?_
    refine then_ret ?_
    obtain rfl := Option.some.inj h
    refine ⟨Or.inr rfl, _, _, _, (resVs_cons (ResV.tmp _ _ rfl) resVs_nil), (pubA_id rfl), ?_⟩
    rfl
  · replace h := ite_f hc h
    clear hc
    refine cskip ?_
    refine then_normal ?_
    refine cseq ?_
    refine cregion ?_
    refine sv rfl (opv_mv rfl) ?_
    refine sv rfl (opv_mv rfl) ?_
    obtain ⟨hj5, h⟩ := chk_eq h
    refine sslcopy (f := eGMsgReply) (xs := ((a0.take (List.replicate (wI ((a0.length : Int) + 1)).toNat (GMsgReply.mk 0 0 0 0 false ([] : List UInt8) ([] : List GApiKV))).length ++ (List.replicate (wI ((a0.length : Int) + 1)).toNat (GMsgReply.mk 0 0 0 0 false ([] : List UInt8) ([] : List GApiKV))).drop a0.length).set ((wI ((wI ((a0.length : Int) + 1)) - 1)).toNat) a1)) rfl rfl si44 (fun _ => rfl) rfl rfl rfl rfl rfl rfl hj5 ?_
    refine stell 11 (y := .s (.one (.ls 1 ((a0.take (List.replicate (wI ((a0.length : Int) + 1)).toNat (GMsgReply.mk 0 0 0 0 false ([] : List UInt8) ([] : List GApiKV))).length ++ (List.replicate (wI ((a0.length : Int) + 1)).toNat (GMsgReply.mk 0 0 0 0 false ([] : List UInt8) ([] : List GApiKV))).drop a0.length).set ((wI ((wI ((a0.length : Int) + 1)) - 1)).toNat) a1).length))) (.s (.one (.ls 1 (((a0.take (List.replicate (wI ((a0.length : Int) + 1)).toNat (GMsgReply.mk 0 0 0 0 false ([] : List UInt8) ([] : List GApiKV))).length ++ (List.replicate (wI ((a0.length : Int) + 1)).toNat (GMsgReply.mk 0 0 0 0 false ([] : List UInt8) ([] : List GApiKV))).drop a0.length).set ((wI ((wI ((a0.length : Int) + 1)) - 1)).toNat) a1).drop (1 : Int).toNat ++ ((a0.take (List.replicate (wI ((a0.length : Int) + 1)).toNat (GMsgReply.mk 0 0 0 0 false ([] : List UInt8) ([] : List GApiKV))).length ++ (List.replicate (wI ((a0.length : Int) + 1)).toNat (GMsgReply.mk 0 0 0 0 false ([] : List UInt8) ([] : List GApiKV))).drop a0.length).set ((wI ((wI ((a0.length : Int) + 1)) - 1)).toNat) a1).drop (((a0.take (List.replicate (wI ((a0.length : Int) + 1)).toNat (GMsgReply.mk 0 0 0 0 false ([] : List UInt8) ([] : List GApiKV))).length ++ (List.replicate (wI ((a0.length : Int) + 1)).toNat (GMsgReply.mk 0 0 0 0 false ([] : List UInt8) ([] : List GApiKV))).drop a0.length).set ((wI ((wI ((a0.length : Int) + 1)) - 1)).toNat) a1).length - (1 : Int).toNat)).length))) rfl (congrArg (fun n => AV.s (.one (.ls 1 n))) (slcopy_len hj5)) ?_
    refine stell 6 (y := .s (.one (.ls 1 ((a0.take (List.replicate (wI ((a0.length : Int) + 1)).toNat (GMsgReply.mk 0 0 0 0 false ([] : List UInt8) ([] : List GApiKV))).length ++ (List.replicate (wI ((a0.length : Int) + 1)).toNat (GMsgReply.mk 0 0 0 0 false ([] : List UInt8) ([] : List GApiKV))).drop a0.length).set ((wI ((wI ((a0.length : Int) + 1)) - 1)).toNat) a1).length))) (.s (.one (.ls 1 (((a0.take (List.replicate (wI ((a0.length : Int) + 1)).toNat (GMsgReply.mk 0 0 0 0 false ([] : List UInt8) ([] : List GApiKV))).length ++ (List.replicate (wI ((a0.length : Int) + 1)).toNat (GMsgReply.mk 0 0 0 0 false ([] : List UInt8) ([] : List GApiKV))).drop a0.length).set ((wI ((wI ((a0.length : Int) + 1)) - 1)).toNat) a1).drop (1 : Int).toNat ++ ((a0.take (List.replicate (wI ((a0.length : Int) + 1)).toNat (GMsgReply.mk 0 0 0 0 false ([] : List UInt8) ([] : List GApiKV))).length ++ (List.replicate (wI ((a0.length : Int) + 1)).toNat (GMsgReply.mk 0 0 0 0 false ([] : List UInt8) ([] : List GApiKV))).drop a0.length).set ((wI ((wI ((a0.length : Int) + 1)) - 1)).toNat) a1).drop (((a0.take (List.replicate (wI ((a0.length : Int) + 1)).toNat (GMsgReply.mk 0 0 0 0 false ([] : List UInt8) ([] : List GApiKV))).length ++ (List.replicate (wI ((a0.length : Int) + 1)).toNat (GMsgReply.mk 0 0 0 0 false ([] : List UInt8) ([] : List GApiKV))).drop a0.length).set ((wI ((wI ((a0.length : Int) + 1)) - 1)).toNat) a1).length - (1 : Int).toNat)).length))) rfl (congrArg (fun n => AV.s (.one (.ls 1 n))) (slcopy_len hj5)) ?_
    refine stell 12 (y := .s (.one (.ls 1 ((a0.take (List.replicate (wI ((a0.length : Int) + 1)).toNat (GMsgReply.mk 0 0 0 0 false ([] : List UInt8) ([] : List GApiKV))).length ++ (List.replicate (wI ((a0.length : Int) + 1)).toNat (GMsgReply.mk 0 0 0 0 false ([] : List UInt8) ([] : List GApiKV))).drop a0.length).set ((wI ((wI ((a0.length : Int) + 1)) - 1)).toNat) a1).length))) (.s (.one (.ls 1 (((a0.take (List.replicate (wI ((a0.length : Int) + 1)).toNat (GMsgReply.mk 0 0 0 0 false ([] : List UInt8) ([] : List GApiKV))).length ++ (List.replicate (wI ((a0.length : Int) + 1)).toNat (GMsgReply.mk 0 0 0 0 false ([] : List UInt8) ([] : List GApiKV))).drop a0.length).set ((wI ((wI ((a0.length : Int) + 1)) - 1)).toNat) a1).drop (1 : Int).toNat ++ ((a0.take (List.replicate (wI ((a0.length : Int) + 1)).toNat (GMsgReply.mk 0 0 0 0 false ([] : List UInt8) ([] : List GApiKV))).length ++ (List.replicate (wI ((a0.length : Int) + 1)).toNat (GMsgReply.mk 0 0 0 0 false ([] : List UInt8) ([] : List GApiKV))).drop a0.length).set ((wI ((wI ((a0.length : Int) + 1)) - 1)).toNat) a1).drop (((a0.take (List.replicate (wI ((a0.length : Int) + 1)).toNat (GMsgReply.mk 0 0 0 0 false ([] : List UInt8) ([] : List GApiKV))).length ++ (List.replicate (wI ((a0.length : Int) + 1)).toNat (GMsgReply.mk 0 0 0 0 false ([] : List UInt8) ([] : List GApiKV))).drop a0.length).set ((wI ((wI ((a0.length : Int) + 1)) - 1)).toNat) a1).length - (1 : Int).toNat)).length))) rfl (congrArg (fun n => AV.s (.one (.ls 1 n))) (slcopy_len hj5)) ?_
    refine stell 15 (y := .s (.one (.ls 1 ((a0.take (List.replicate (wI ((a0.length : Int) + 1)).toNat (GMsgReply.mk 0 0 0 0 false ([] : List UInt8) ([] : List GApiKV))).length ++ (List.replicate (wI ((a0.length : Int) + 1)).toNat (GMsgReply.mk 0 0 0 0 false ([] : List UInt8) ([] : List GApiKV))).drop a0.length).set ((wI ((wI ((a0.length : Int) + 1)) - 1)).toNat) a1).length))) (.s (.one (.ls 1 (((a0.take (List.replicate (wI ((a0.length : Int) + 1)).toNat (GMsgReply.mk 0 0 0 0 false ([] : List UInt8) ([] : List GApiKV))).length ++ (List.replicate (wI ((a0.length : Int) + 1)).toNat (GMsgReply.mk 0 0 0 0 false ([] : List UInt8) ([] : List GApiKV))).drop a0.length).set ((wI ((wI ((a0.length : Int) + 1)) - 1)).toNat) a1).drop (1 : Int).toNat ++ ((a0.take (List.replicate (wI ((a0.length : Int) + 1)).toNat (GMsgReply.mk 0 0 0 0 false ([] : List UInt8) ([] : List GApiKV))).length ++ (List.replicate (wI ((a0.length : Int) + 1)).toNat (GMsgReply.mk 0 0 0 0 false ([] : List UInt8) ([] : List GApiKV))).drop a0.length).set ((wI ((wI ((a0.length : Int) + 1)) - 1)).toNat) a1).drop (((a0.take (List.replicate (wI ((a0.length : Int) + 1)).toNat (GMsgReply.mk 0 0 0 0 false ([] : List UInt8) ([] : List GApiKV))).length ++ (List.replicate (wI ((a0.length : Int) + 1)).toNat (GMsgReply.mk 0 0 0 0 false ([] : List UInt8) ([] : List GApiKV))).drop a0.length).set ((wI ((wI ((a0.length : Int) + 1)) - 1)).toNat) a1).length - (1 : Int).toNat)).length))) rfl (congrArg (fun n => AV.s (.one (.ls 1 n))) (slcopy_len hj5)) ?_
    refine stell 26 (y := .s (.one (.ls 1 ((a0.take (List.replicate (wI ((a0.length : Int) + 1)).toNat (GMsgReply.mk 0 0 0 0 false ([] : List UInt8) ([] : List GApiKV))).length ++ (List.replicate (wI ((a0.length : Int) + 1)).toNat (GMsgReply.mk 0 0 0 0 false ([] : List UInt8) ([] : List GApiKV))).drop a0.length).set ((wI ((wI ((a0.length : Int) + 1)) - 1)).toNat) a1).length))) (.s (.one (.ls 1 (((a0.take (List.replicate (wI ((a0.length : Int) + 1)).toNat (GMsgReply.mk 0 0 0 0 false ([] : List UInt8) ([] : List GApiKV))).length ++ (List.replicate (wI ((a0.length : Int) + 1)).toNat (GMsgReply.mk 0 0 0 0 false ([] : List UInt8) ([] : List GApiKV))).drop a0.length).set ((wI ((wI ((a0.length : Int) + 1)) - 1)).toNat) a1).drop (1 : Int).toNat ++ ((a0.take (List.replicate (wI ((a0.length : Int) + 1)).toNat (GMsgReply.mk 0 0 0 0 false ([] : List UInt8) ([] : List GApiKV))).length ++ (List.replicate (wI ((a0.length : Int) + 1)).toNat (GMsgReply.mk 0 0 0 0 false ([] : List UInt8) ([] : List GApiKV))).drop a0.length).set ((wI ((wI ((a0.length : Int) + 1)) - 1)).toNat) a1).drop (((a0.take (List.replicate (wI ((a0.length : Int) + 1)).toNat (GMsgReply.mk 0 0 0 0 false ([] : List UInt8) ([] : List GApiKV))).length ++ (List.replicate (wI ((a0.length : Int) + 1)).toNat (GMsgReply.mk 0 0 0 0 false ([] : List UInt8) ([] : List GApiKV))).drop a0.length).set ((wI ((wI ((a0.length : Int) + 1)) - 1)).toNat) a1).length - (1 : Int).toNat)).length))) rfl (congrArg (fun n => AV.s (.one (.ls 1 n))) (slcopy_len hj5)) ?_
    refine stell 27 (y := .s (.one (.ls 1 ((a0.take (List.replicate (wI ((a0.length : Int) + 1)).toNat (GMsgReply.mk 0 0 0 0 false ([] : List UInt8) ([] : List GApiKV))).length ++ (List.replicate (wI ((a0.length : Int) + 1)).toNat (GMsgReply.mk 0 0 0 0 false ([] : List UInt8) ([] : List GApiKV))).drop a0.length).set ((wI ((wI ((a0.length : Int) + 1)) - 1)).toNat) a1).length))) (.s (.one (.ls 1 (((a0.take (List.replicate (wI ((a0.length : Int) + 1)).toNat (GMsgReply.mk 0 0 0 0 false ([] : List UInt8) ([] : List GApiKV))).length ++ (List.replicate (wI ((a0.length : Int) + 1)).toNat (GMsgReply.mk 0 0 0 0 false ([] : List UInt8) ([] : List GApiKV))).drop a0.length).set ((wI ((wI ((a0.length : Int) + 1)) - 1)).toNat) a1).drop (1 : Int).toNat ++ ((a0.take (List.replicate (wI ((a0.length : Int) + 1)).toNat (GMsgReply.mk 0 0 0 0 false ([] : List UInt8) ([] : List GApiKV))).length ++ (List.replicate (wI ((a0.length : Int) + 1)).toNat (GMsgReply.mk 0 0 0 0 false ([] : List UInt8) ([] : List GApiKV))).drop a0.length).set ((wI ((wI ((a0.length : Int) + 1)) - 1)).toNat) a1).drop (((a0.take (List.replicate (wI ((a0.length : Int) + 1)).toNat (GMsgReply.mk 0 0 0 0 false ([] : List UInt8) ([] : List GApiKV))).length ++ (List.replicate (wI ((a0.length : Int) + 1)).toNat (GMsgReply.mk 0 0 0 0 false ([] : List UInt8) ([] : List GApiKV))).drop a0.length).set ((wI ((wI ((a0.length : Int) + 1)) - 1)).toNat) a1).length - (1 : Int).toNat)).length))) rfl (congrArg (fun n => AV.s (.one (.ls 1 n))) (slcopy_len hj5)) ?_
    refine snil ?_
    refine cseq ?_
    refine cregion ?_
    refine sv rfl (opv_mv rfl) ?_
    refine sv rfl (opv_mv rfl) ?_
    refine sv rfl (opv_sub rfl rfl) ?_
    refine sv rfl (opv_mv rfl) ?_
    refine sv rfl (opv_sub rfl rfl) ?_
    refine spub 30 rfl (by (repeat' first | exact PubA.nil _ | apply PubA.cons | apply PubV.one | apply PubV.agg | exact PubL.nil | exact PubL.ls _ _ _ _ _ _ rfl (flat_len (f := eGMsgReply) (fun _ => rfl) _).symm | exact PubL.id _ rfl | exact PubLs.nil _ | apply PubLs.cons)) ?_
    obtain ⟨c6, hc6, h⟩ := bind_eq h
    obtain ⟨hs7, h⟩ := chk_eq h
    refine sv rfl (opv_cut3 (f := eGMsgReply) (lo := 0) (hi := (wI ((wI ((a0.length : Int) + 1)) - 1))) (mx := (wI ((wI ((a0.length : Int) + 1)) - 1))) si44 (fun _ => rfl) rfl rfl rfl bound_none (bound_some rfl (Int.le_trans (cut_eq hc6).1.1 (cut_eq hc6).1.2.1)) (bound_some rfl (Int.le_trans (Int.le_trans (cut_eq hc6).1.1 (cut_eq hc6).1.2.1) hs7.1)) hc6 hs7) ?_
    refine sv rfl (opv_as rfl) ?_
    refine snil ?_
    refine cret ?_
    obtain rfl := Option.some.inj h
    refine ⟨Or.inr rfl, _, _, _, (resVs_cons (ResV.tmp _ _ rfl) resVs_nil), (pubA_id rfl), ?_⟩
    rfl

end Go.Proofs.YtlpanhfojeaamaaDoor.Abs
