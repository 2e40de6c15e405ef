/-
  t
-/
import Derived.Test.YtlnpkincpgbmcaaDoorAbsC
import Derived.Test.YtlnpkincpgbmcaaDoorProg
namespace Go.Proofs.YtlnpkincpgbmcaaDoor.Abs
open Go.RowKit Go.Proofs
structure GR04Stream where
  Buf : List UInt8
  Dead : Int
def eGR04Stream (x : GR04Stream) : List Lf := [.sl x.Buf.length (x.Buf.flatMap eU8), .i .i64 x.Dead]

structure GR15Window where
  Base : Int
  Bits : BitVec 64
def eGR15Window (x : GR15Window) : List Lf := [.i .i64 x.Base, .i .u64 (x.Bits.toNat : Int)]

structure GApiRange where
  Lo : List UInt8
  Hi : List UInt8
  Open : Bool
def eGApiRange (x : GApiRange) : List Lf := [.sl x.Lo.length (x.Lo.flatMap eU8), .sl x.Hi.length (x.Hi.flatMap eU8), .b x.Open]

structure GR05Req where
  Kind : Int
  Seq : Int
  Token : Int
  Attempt : Int
  RO : Bool
  Key : List UInt8
  Val : List UInt8
  Rng : GApiRange
def eGR05Req (x : GR05Req) : List Lf := [.i .i64 x.Kind, .i .i64 x.Seq, .i .i64 x.Token, .i .i64 x.Attempt, .b x.RO, .sl x.Key.length (x.Key.flatMap eU8), .sl x.Val.length (x.Val.flatMap eU8), .sl x.Rng.Lo.length (x.Rng.Lo.flatMap eU8), .sl x.Rng.Hi.length (x.Rng.Hi.flatMap eU8), .b x.Rng.Open]

structure GApiKV where
  Key : List UInt8
  Val : List UInt8
def eGApiKV (x : GApiKV) : List Lf := [.sl x.Key.length (x.Key.flatMap eU8), .sl x.Val.length (x.Val.flatMap eU8)]

structure GR05Reply where
  Kind : Int
  Seq : Int
  Code : Int
  N : Int
  Found : Bool
  Val : List UInt8
  List : List GApiKV
def eGR05Reply (x : GR05Reply) : List Lf := [.i .i64 x.Kind, .i .i64 x.Seq, .i .i64 x.Code, .i .i64 x.N, .b x.Found, .sl x.Val.length (x.Val.flatMap eU8), .sl x.List.length (x.List.flatMap eGApiKV)]

structure GR16Pipe where
  Win : GR15Window
  Next : Int
  Wait : List GR05Req
  Past : List GR05Reply
def eGR16Pipe (x : GR16Pipe) : List Lf := [.i .i64 x.Win.Base, .i .u64 (x.Win.Bits.toNat : Int), .i .i64 x.Next, .sl x.Wait.length (x.Wait.flatMap eGR05Req), .sl x.Past.length (x.Past.flatMap eGR05Reply)]

structure GR17Conn where
  ID : Int
  Who : Int
  Epoch : Int
  Tx : Int
  Stream : GR04Stream
  Pipe : GR16Pipe
def eGR17Conn (x : GR17Conn) : List Lf := [.i .i64 x.ID, .i .i64 x.Who, .i .i64 x.Epoch, .i .i64 x.Tx, .sl x.Stream.Buf.length (x.Stream.Buf.flatMap eU8), .i .i64 x.Stream.Dead, .i .i64 x.Pipe.Win.Base, .i .u64 (x.Pipe.Win.Bits.toNat : Int), .i .i64 x.Pipe.Next, .sl x.Pipe.Wait.length (x.Pipe.Wait.flatMap eGR05Req), .sl x.Pipe.Past.length (x.Pipe.Past.flatMap eGR05Reply)]

structure GR17Table where
  L : List GR17Conn
  Next : Int
def eGR17Table (x : GR17Table) : List Lf := [.sl x.L.length (x.L.flatMap eGR17Conn), .i .i64 x.Next]

structure GStreamStream where
  Buf : List UInt8
  Dead : Int
def eGStreamStream (x : GStreamStream) : List Lf := [.sl x.Buf.length (x.Buf.flatMap eU8), .i .i64 x.Dead]

structure GSeqsWindow where
  Base : Int
  Bits : BitVec 64
def eGSeqsWindow (x : GSeqsWindow) : List Lf := [.i .i64 x.Base, .i .u64 (x.Bits.toNat : Int)]

structure GMsgReq where
  Kind : Int
  Seq : Int
  Token : Int
  Attempt : Int
  RO : Bool
  Key : List UInt8
  Val : List UInt8
  Rng : GApiRange
def eGMsgReq (x : GMsgReq) : List Lf := [.i .i64 x.Kind, .i .i64 x.Seq, .i .i64 x.Token, .i .i64 x.Attempt, .b x.RO, .sl x.Key.length (x.Key.flatMap eU8), .sl x.Val.length (x.Val.flatMap eU8), .sl x.Rng.Lo.length (x.Rng.Lo.flatMap eU8), .sl x.Rng.Hi.length (x.Rng.Hi.flatMap eU8), .b x.Rng.Open]

structure GMsgReply where
  Kind : Int
  Seq : Int
  Code : Int
  N : Int
  Found : Bool
  Val : List UInt8
  List : List GApiKV
def eGMsgReply (x : GMsgReply) : List Lf := [.i .i64 x.Kind, .i .i64 x.Seq, .i .i64 x.Code, .i .i64 x.N, .b x.Found, .sl x.Val.length (x.Val.flatMap eU8), .sl x.List.length (x.List.flatMap eGApiKV)]

structure GPipePipe where
  Win : GSeqsWindow
  Next : Int
  Wait : List GMsgReq
  Past : List GMsgReply
def eGPipePipe (x : GPipePipe) : List Lf := [.i .i64 x.Win.Base, .i .u64 (x.Win.Bits.toNat : Int), .i .i64 x.Next, .sl x.Wait.length (x.Wait.flatMap eGMsgReq), .sl x.Past.length (x.Past.flatMap eGMsgReply)]

structure GConnsConn where
  ID : Int
  Who : Int
  Epoch : Int
  Tx : Int
  Stream : GStreamStream
  Pipe : GPipePipe
def eGConnsConn (x : GConnsConn) : List Lf := [.i .i64 x.ID, .i .i64 x.Who, .i .i64 x.Epoch, .i .i64 x.Tx, .sl x.Stream.Buf.length (x.Stream.Buf.flatMap eU8), .i .i64 x.Stream.Dead, .i .i64 x.Pipe.Win.Base, .i .u64 (x.Pipe.Win.Bits.toNat : Int), .i .i64 x.Pipe.Next, .sl x.Pipe.Wait.length (x.Pipe.Wait.flatMap eGMsgReq), .sl x.Pipe.Past.length (x.Pipe.Past.flatMap eGMsgReply)]

structure GConnsTable where
  L : List GConnsConn
  Next : Int
def eGConnsTable (x : GConnsTable) : List Lf := [.sl x.L.length (x.L.flatMap eGConnsConn), .i .i64 x.Next]

structure GFrameHead where
  size_ : Int
  sum_ : BitVec 32
def eGFrameHead (x : GFrameHead) : List Lf := [.i .i64 x.size_, .i .u32 (x.sum_.toNat : Int)]

structure GFrameWhole where
  head_ : GFrameHead
  payload_ : List UInt8
def eGFrameWhole (x : GFrameWhole) : List Lf := [.i .i64 x.head_.size_, .i .u32 (x.head_.sum_.toNat : Int), .sl x.payload_.length (x.payload_.flatMap eU8)]

structure GMsgParts where
  token_ : Bool
  attempt_ : Bool
  ro_ : Bool
  key_ : Bool
  val_ : Bool
  rng_ : Bool
def eGMsgParts (x : GMsgParts) : List Lf := [.b x.token_, .b x.attempt_, .b x.ro_, .b x.key_, .b x.val_, .b x.rng_]

def tab0 : List GMsgParts := [⟨false, false, false, false, false, false⟩, ⟨true, true, false, false, false, false⟩, ⟨true, true, true, false, false, false⟩, ⟨false, false, false, true, false, false⟩, ⟨false, false, false, true, true, false⟩, ⟨false, false, false, true, false, false⟩, ⟨false, false, false, false, false, true⟩, ⟨false, false, false, false, false, false⟩, ⟨false, false, false, false, false, false⟩, ⟨true, true, false, false, false, false⟩, ⟨true, false, false, false, false, false⟩, ⟨false, false, false, false, false, false⟩]

instance : Coe GR04Stream (List Lf) := ⟨eGR04Stream⟩
instance : Coe GR15Window (List Lf) := ⟨eGR15Window⟩
instance : Coe GApiRange (List Lf) := ⟨eGApiRange⟩
instance : Coe GR05Req (List Lf) := ⟨eGR05Req⟩
instance : Coe GApiKV (List Lf) := ⟨eGApiKV⟩
instance : Coe GR05Reply (List Lf) := ⟨eGR05Reply⟩
instance : Coe GR16Pipe (List Lf) := ⟨eGR16Pipe⟩
instance : Coe GR17Conn (List Lf) := ⟨eGR17Conn⟩
instance : Coe GR17Table (List Lf) := ⟨eGR17Table⟩
instance : Coe GStreamStream (List Lf) := ⟨eGStreamStream⟩
instance : Coe GSeqsWindow (List Lf) := ⟨eGSeqsWindow⟩
instance : Coe GMsgReq (List Lf) := ⟨eGMsgReq⟩
instance : Coe GMsgReply (List Lf) := ⟨eGMsgReply⟩
instance : Coe GPipePipe (List Lf) := ⟨eGPipePipe⟩
instance : Coe GConnsConn (List Lf) := ⟨eGConnsConn⟩
instance : Coe GConnsTable (List Lf) := ⟨eGConnsTable⟩
instance : Coe GFrameHead (List Lf) := ⟨eGFrameHead⟩
instance : Coe GFrameWhole (List Lf) := ⟨eGFrameWhole⟩
instance : Coe GMsgParts (List Lf) := ⟨eGMsgParts⟩
theorem zi26 : ZI Tryd.prog 26 ([.raw (.slice none 0 0), .i .i64 0]) := zi_of (by kernel_rfl)
theorem pi26 : PI Tryd.prog 26 [(0, 1), (1, 1)] := pi_of Tryd.underlying26 (by kernel_rfl) (by kernel_rfl)
theorem ti26 : TI Tryd.prog 26 true 2 := ⟨⟨_, Tryd.underlying26, rfl⟩, by kernel_rfl⟩
theorem fi26_0 : FI Tryd.prog 26 0 0 := ⟨⟨_, _, 1, Tryd.underlying26, rfl, rfl, by kernel_rfl, by decide⟩⟩
theorem ti24 : TI Tryd.prog 24 false 1 := ⟨⟨_, Tryd.underlying24, rfl⟩, by kernel_rfl⟩
theorem si24 : SI Tryd.prog 24 45 11 := ⟨Tryd.underlying24, by kernel_rfl, by decide⟩
theorem fi26_1 : FI Tryd.prog 26 1 1 := ⟨⟨_, _, 1, Tryd.underlying26, rfl, rfl, by kernel_rfl, by decide⟩⟩
theorem ti3 : TI Tryd.prog 3 false 1 := ⟨⟨_, Tryd.underlying3, rfl⟩, by kernel_rfl⟩
theorem fn21 : FnI Tryd.prog 21 := ⟨⟨_, Tryd.func21, by kernel_rfl, by kernel_rfl⟩⟩
theorem ti45 : TI Tryd.prog 45 true 11 := ⟨⟨_, Tryd.underlying45, rfl⟩, by kernel_rfl⟩
theorem zi45 : ZI Tryd.prog 45 ([.i .i64 0, .i .i64 0, .i .i64 0, .i .i64 0, .raw (.slice none 0 0), .i .i64 0, .i .i64 0, .i .u64 0, .i .i64 0, .raw (.slice none 0 0), .raw (.slice none 0 0)]) := zi_of (by kernel_rfl)
theorem sz45 : (Tryd.prog.info? 45).map (·.size) = some 11 := by kernel_rfl
theorem fi45_0 : FI Tryd.prog 45 0 0 := ⟨⟨_, _, 1, Tryd.underlying45, rfl, rfl, by kernel_rfl, by decide⟩⟩
theorem fi45_1 : FI Tryd.prog 45 1 1 := ⟨⟨_, _, 1, Tryd.underlying45, rfl, rfl, by kernel_rfl, by decide⟩⟩
theorem fi45_2 : FI Tryd.prog 45 2 2 := ⟨⟨_, _, 1, Tryd.underlying45, rfl, rfl, by kernel_rfl, by decide⟩⟩
theorem fi45_3 : FI Tryd.prog 45 3 3 := ⟨⟨_, _, 1, Tryd.underlying45, rfl, rfl, by kernel_rfl, by decide⟩⟩
theorem fi45_4 : FI Tryd.prog 45 4 4 := ⟨⟨_, _, 2, Tryd.underlying45, rfl, rfl, by kernel_rfl, by decide⟩⟩
theorem ti36 : TI Tryd.prog 36 true 2 := ⟨⟨_, Tryd.underlying36, rfl⟩, by kernel_rfl⟩
theorem fi36_1 : FI Tryd.prog 36 1 1 := ⟨⟨_, _, 1, Tryd.underlying36, rfl, rfl, by kernel_rfl, by decide⟩⟩
theorem ti29 : TI Tryd.prog 29 false 1 := ⟨⟨_, Tryd.underlying29, rfl⟩, by kernel_rfl⟩
theorem fn47 : FnI Tryd.prog 47 := ⟨⟨_, Tryd.func47, by kernel_rfl, by kernel_rfl⟩⟩
theorem fi36_0 : FI Tryd.prog 36 0 0 := ⟨⟨_, _, 1, Tryd.underlying36, rfl, rfl, by kernel_rfl, by decide⟩⟩
theorem ti34 : TI Tryd.prog 34 false 1 := ⟨⟨_, Tryd.underlying34, rfl⟩, by kernel_rfl⟩
theorem si34 : SI Tryd.prog 34 5 1 := ⟨Tryd.underlying34, by kernel_rfl, by decide⟩
theorem zi120 : ZI Tryd.prog 120 ([.i .i64 0, .i .u32 0, .raw (.slice none 0 0)]) := zi_of (by kernel_rfl)
theorem zi3 : ZI Tryd.prog 3 ([.i .i64 0]) := zi_of (by kernel_rfl)
theorem sz3 : (Tryd.prog.info? 3).map (·.size) = some 1 := by kernel_rfl
theorem zi143 : ZI Tryd.prog 143 ([.raw .nilFunc, .i .i64 0]) := zi_of (by kernel_rfl)
theorem pi143 : PI Tryd.prog 143 [(0, 1), (1, 1)] := pi_of Tryd.underlying143 (by kernel_rfl) (by kernel_rfl)
theorem fn60 : FnI Tryd.prog 60 := ⟨⟨_, Tryd.func60, by kernel_rfl, by kernel_rfl⟩⟩
theorem pi120 : PI Tryd.prog 120 [(0, 2), (2, 1)] := pi_of Tryd.underlying120 (by kernel_rfl) (by kernel_rfl)
theorem sz120 : (Tryd.prog.info? 120).map (·.size) = some 3 := by kernel_rfl
theorem fi143_1 : FI Tryd.prog 143 1 1 := ⟨⟨_, _, 1, Tryd.underlying143, rfl, rfl, by kernel_rfl, by decide⟩⟩
theorem fn62 : FnI Tryd.prog 62 := ⟨⟨_, Tryd.func62, by kernel_rfl, by kernel_rfl⟩⟩
theorem sz29 : (Tryd.prog.info? 29).map (·.size) = some 1 := by kernel_rfl
theorem fn73 : FnI Tryd.prog 73 := ⟨⟨_, Tryd.func73, by kernel_rfl, by kernel_rfl⟩⟩
theorem fi143_0 : FI Tryd.prog 143 0 0 := ⟨⟨_, _, 1, Tryd.underlying143, rfl, rfl, by kernel_rfl, by decide⟩⟩
theorem ti141 : TI Tryd.prog 141 false 1 := ⟨⟨_, Tryd.underlying141, rfl⟩, by kernel_rfl⟩
theorem mixed : Tryd.prog.follows .mixedOrders = true := by kernel_rfl
theorem fn72 : FnI Tryd.prog 72 := ⟨⟨_, Tryd.func72, by kernel_rfl, by kernel_rfl⟩⟩
theorem fn78 : FnI Tryd.prog 78 := ⟨⟨_, Tryd.func78, by kernel_rfl, by kernel_rfl⟩⟩
theorem fn74 : FnI Tryd.prog 74 := ⟨⟨_, Tryd.func74, by kernel_rfl, by kernel_rfl⟩⟩
theorem ti5 : TI Tryd.prog 5 false 1 := ⟨⟨_, Tryd.underlying5, rfl⟩, by kernel_rfl⟩
theorem fn61 : FnI Tryd.prog 61 := ⟨⟨_, Tryd.func61, by kernel_rfl, by kernel_rfl⟩⟩
theorem fi120_0 : FI Tryd.prog 120 0 0 := ⟨⟨_, _, 2, Tryd.underlying120, rfl, rfl, by kernel_rfl, by decide⟩⟩
theorem fi118_0 : FI Tryd.prog 118 0 0 := ⟨⟨_, _, 1, Tryd.underlying118, rfl, rfl, by kernel_rfl, by decide⟩⟩
theorem ti120 : TI Tryd.prog 120 true 3 := ⟨⟨_, Tryd.underlying120, rfl⟩, by kernel_rfl⟩
theorem fi118_1 : FI Tryd.prog 118 1 1 := ⟨⟨_, _, 1, Tryd.underlying118, rfl, rfl, by kernel_rfl, by decide⟩⟩
theorem sz116 : (Tryd.prog.info? 116).map (·.size) = some 1 := by kernel_rfl
theorem fi120_1 : FI Tryd.prog 120 1 2 := ⟨⟨_, _, 1, Tryd.underlying120, rfl, rfl, by kernel_rfl, by decide⟩⟩
theorem sz34 : (Tryd.prog.info? 34).map (·.size) = some 1 := by kernel_rfl
theorem ti116 : TI Tryd.prog 116 false 1 := ⟨⟨_, Tryd.underlying116, rfl⟩, by kernel_rfl⟩
theorem ei5 : EI Tryd.prog 5 1 1 [.i .u8 0] := ei_of (by kernel_rfl) (by decide)
theorem sz5 : (Tryd.prog.info? 5).map (·.size) = some 1 := by kernel_rfl
theorem ei34 : EI Tryd.prog 34 1 24 [.raw (.slice none 0 0)] := ei_of (by kernel_rfl) (by decide)
theorem si155 : SI Tryd.prog 155 34 1 := ⟨Tryd.underlying155, by kernel_rfl, by decide⟩
theorem fn81 : FnI Tryd.prog 81 := ⟨⟨_, Tryd.func81, by kernel_rfl, by kernel_rfl⟩⟩
theorem ni34 : NI Tryd.prog 34 := ⟨.inl ⟨_, Tryd.underlying34⟩⟩
theorem fn79 : FnI Tryd.prog 79 := ⟨⟨_, Tryd.func79, by kernel_rfl, by kernel_rfl⟩⟩
theorem fn75 : FnI Tryd.prog 75 := ⟨⟨_, Tryd.func75, by kernel_rfl, by kernel_rfl⟩⟩
theorem zi152 : ZI Tryd.prog 152 (List.replicate 256 (.i .u32 0)) := zi_of (by kernel_rfl)
theorem fn82 : FnI Tryd.prog 82 := ⟨⟨_, Tryd.func82, by kernel_rfl, by kernel_rfl⟩⟩
theorem ai152 : AI Tryd.prog 152 256 116 1 := ⟨Tryd.underlying152, by kernel_rfl, by decide, by decide⟩
theorem ti152 : TI Tryd.prog 152 true 256 := ⟨⟨_, Tryd.underlying152, rfl⟩, by kernel_rfl⟩
theorem sz152 : (Tryd.prog.info? 152).map (·.size) = some 256 := by kernel_rfl
theorem fn80 : FnI Tryd.prog 80 := ⟨⟨_, Tryd.func80, by kernel_rfl, by kernel_rfl⟩⟩
theorem fn76 : FnI Tryd.prog 76 := ⟨⟨_, Tryd.func76, by kernel_rfl, by kernel_rfl⟩⟩
theorem fn77 : FnI Tryd.prog 77 := ⟨⟨_, Tryd.func77, by kernel_rfl, by kernel_rfl⟩⟩
theorem fn63 : FnI Tryd.prog 63 := ⟨⟨_, Tryd.func63, by kernel_rfl, by kernel_rfl⟩⟩
theorem fn53 : FnI Tryd.prog 53 := ⟨⟨_, Tryd.func53, by kernel_rfl, by kernel_rfl⟩⟩
theorem fn54 : FnI Tryd.prog 54 := ⟨⟨_, Tryd.func54, by kernel_rfl, by kernel_rfl⟩⟩
theorem fn48 : FnI Tryd.prog 48 := ⟨⟨_, Tryd.func48, by kernel_rfl, by kernel_rfl⟩⟩
theorem fn40 : FnI Tryd.prog 40 := ⟨⟨_, Tryd.func40, by kernel_rfl, by kernel_rfl⟩⟩
theorem fi45_5 : FI Tryd.prog 45 5 6 := ⟨⟨_, _, 5, Tryd.underlying45, rfl, rfl, by kernel_rfl, by decide⟩⟩
theorem ti43 : TI Tryd.prog 43 true 5 := ⟨⟨_, Tryd.underlying43, rfl⟩, by kernel_rfl⟩
theorem fi43_1 : FI Tryd.prog 43 1 2 := ⟨⟨_, _, 1, Tryd.underlying43, rfl, rfl, by kernel_rfl, by decide⟩⟩
theorem fi43_2 : FI Tryd.prog 43 2 3 := ⟨⟨_, _, 1, Tryd.underlying43, rfl, rfl, by kernel_rfl, by decide⟩⟩
theorem ti40 : TI Tryd.prog 40 false 1 := ⟨⟨_, Tryd.underlying40, rfl⟩, by kernel_rfl⟩
theorem si40 : SI Tryd.prog 40 87 10 := ⟨Tryd.underlying40, by kernel_rfl, by decide⟩
theorem ti87 : TI Tryd.prog 87 true 10 := ⟨⟨_, Tryd.underlying87, rfl⟩, by kernel_rfl⟩
theorem zi87 : ZI Tryd.prog 87 ([.i .i64 0, .i .i64 0, .i .i64 0, .i .i64 0, .b false, .raw (.slice none 0 0), .raw (.slice none 0 0), .raw (.slice none 0 0), .raw (.slice none 0 0), .b false]) := zi_of (by kernel_rfl)
theorem sz87 : (Tryd.prog.info? 87).map (·.size) = some 10 := by kernel_rfl
theorem fi87_0 : FI Tryd.prog 87 0 0 := ⟨⟨_, _, 1, Tryd.underlying87, rfl, rfl, by kernel_rfl, by decide⟩⟩
theorem zi135 : ZI Tryd.prog 135 ([.b false, .b false, .b false, .b false, .b false, .b false]) := zi_of (by kernel_rfl)
theorem fn65 : FnI Tryd.prog 65 := ⟨⟨_, Tryd.func65, by kernel_rfl, by kernel_rfl⟩⟩
theorem pi135 : PI Tryd.prog 135 [(0, 1), (1, 1), (2, 1), (3, 1), (4, 1), (5, 1)] := pi_of Tryd.underlying135 (by kernel_rfl) (by kernel_rfl)
theorem sz135 : (Tryd.prog.info? 135).map (·.size) = some 6 := by kernel_rfl
theorem ti135 : TI Tryd.prog 135 true 6 := ⟨⟨_, Tryd.underlying135, rfl⟩, by kernel_rfl⟩
theorem tab0_in : (0, tab0.flatMap eGMsgParts) ∈ GL := List.mem_cons.2 (.inl rfl)

theorem ai148 : AI Tryd.prog 148 12 135 6 := ⟨Tryd.underlying148, by kernel_rfl, by decide, by decide⟩
theorem fn64 : FnI Tryd.prog 64 := ⟨⟨_, Tryd.func64, by kernel_rfl, by kernel_rfl⟩⟩
theorem fi87_1 : FI Tryd.prog 87 1 1 := ⟨⟨_, _, 1, Tryd.underlying87, rfl, rfl, by kernel_rfl, by decide⟩⟩
theorem fn66 : FnI Tryd.prog 66 := ⟨⟨_, Tryd.func66, by kernel_rfl, by kernel_rfl⟩⟩
theorem fi135_0 : FI Tryd.prog 135 0 0 := ⟨⟨_, _, 1, Tryd.underlying135, rfl, rfl, by kernel_rfl, by decide⟩⟩
theorem ti4 : TI Tryd.prog 4 false 1 := ⟨⟨_, Tryd.underlying4, rfl⟩, by kernel_rfl⟩
theorem fi87_2 : FI Tryd.prog 87 2 2 := ⟨⟨_, _, 1, Tryd.underlying87, rfl, rfl, by kernel_rfl, by decide⟩⟩
theorem fn67 : FnI Tryd.prog 67 := ⟨⟨_, Tryd.func67, by kernel_rfl, by kernel_rfl⟩⟩
theorem fi135_1 : FI Tryd.prog 135 1 1 := ⟨⟨_, _, 1, Tryd.underlying135, rfl, rfl, by kernel_rfl, by decide⟩⟩
theorem fi87_3 : FI Tryd.prog 87 3 3 := ⟨⟨_, _, 1, Tryd.underlying87, rfl, rfl, by kernel_rfl, by decide⟩⟩
theorem fi135_2 : FI Tryd.prog 135 2 2 := ⟨⟨_, _, 1, Tryd.underlying135, rfl, rfl, by kernel_rfl, by decide⟩⟩
theorem fi135_3 : FI Tryd.prog 135 3 3 := ⟨⟨_, _, 1, Tryd.underlying135, rfl, rfl, by kernel_rfl, by decide⟩⟩
theorem fi87_5 : FI Tryd.prog 87 5 5 := ⟨⟨_, _, 1, Tryd.underlying87, rfl, rfl, by kernel_rfl, by decide⟩⟩
theorem fn68 : FnI Tryd.prog 68 := ⟨⟨_, Tryd.func68, by kernel_rfl, by kernel_rfl⟩⟩
theorem fi135_4 : FI Tryd.prog 135 4 4 := ⟨⟨_, _, 1, Tryd.underlying135, rfl, rfl, by kernel_rfl, by decide⟩⟩
theorem fi87_6 : FI Tryd.prog 87 6 6 := ⟨⟨_, _, 1, Tryd.underlying87, rfl, rfl, by kernel_rfl, by decide⟩⟩
theorem fi135_5 : FI Tryd.prog 135 5 5 := ⟨⟨_, _, 1, Tryd.underlying135, rfl, rfl, by kernel_rfl, by decide⟩⟩
theorem fi87_7 : FI Tryd.prog 87 7 7 := ⟨⟨_, _, 3, Tryd.underlying87, rfl, rfl, by kernel_rfl, by decide⟩⟩
theorem ti85 : TI Tryd.prog 85 true 3 := ⟨⟨_, Tryd.underlying85, rfl⟩, by kernel_rfl⟩
theorem fi85_0 : FI Tryd.prog 85 0 0 := ⟨⟨_, _, 1, Tryd.underlying85, rfl, rfl, by kernel_rfl, by decide⟩⟩
theorem fi85_1 : FI Tryd.prog 85 1 1 := ⟨⟨_, _, 1, Tryd.underlying85, rfl, rfl, by kernel_rfl, by decide⟩⟩
theorem fi85_2 : FI Tryd.prog 85 2 2 := ⟨⟨_, _, 1, Tryd.underlying85, rfl, rfl, by kernel_rfl, by decide⟩⟩
theorem fn69 : FnI Tryd.prog 69 := ⟨⟨_, Tryd.func69, by kernel_rfl, by kernel_rfl⟩⟩
theorem fi87_4 : FI Tryd.prog 87 4 4 := ⟨⟨_, _, 1, Tryd.underlying87, rfl, rfl, by kernel_rfl, by decide⟩⟩
theorem fn55 : FnI Tryd.prog 55 := ⟨⟨_, Tryd.func55, by kernel_rfl, by kernel_rfl⟩⟩
theorem fn49 : FnI Tryd.prog 49 := ⟨⟨_, Tryd.func49, by kernel_rfl, by kernel_rfl⟩⟩
theorem fi43_3 : FI Tryd.prog 43 3 4 := ⟨⟨_, _, 1, Tryd.underlying43, rfl, rfl, by kernel_rfl, by decide⟩⟩
theorem ti41 : TI Tryd.prog 41 false 1 := ⟨⟨_, Tryd.underlying41, rfl⟩, by kernel_rfl⟩
theorem si41 : SI Tryd.prog 41 92 7 := ⟨Tryd.underlying41, by kernel_rfl, by decide⟩
theorem ti92 : TI Tryd.prog 92 true 7 := ⟨⟨_, Tryd.underlying92, rfl⟩, by kernel_rfl⟩
theorem zi92 : ZI Tryd.prog 92 ([.i .i64 0, .i .i64 0, .i .i64 0, .i .i64 0, .b false, .raw (.slice none 0 0), .raw (.slice none 0 0)]) := zi_of (by kernel_rfl)
theorem sz92 : (Tryd.prog.info? 92).map (·.size) = some 7 := by kernel_rfl
theorem fi92_6 : FI Tryd.prog 92 6 6 := ⟨⟨_, _, 1, Tryd.underlying92, rfl, rfl, by kernel_rfl, by decide⟩⟩
theorem ti90 : TI Tryd.prog 90 false 1 := ⟨⟨_, Tryd.underlying90, rfl⟩, by kernel_rfl⟩
theorem si90 : SI Tryd.prog 90 114 2 := ⟨Tryd.underlying90, by kernel_rfl, by decide⟩
theorem ti114 : TI Tryd.prog 114 true 2 := ⟨⟨_, Tryd.underlying114, rfl⟩, by kernel_rfl⟩
theorem zi114 : ZI Tryd.prog 114 ([.raw (.slice none 0 0), .raw (.slice none 0 0)]) := zi_of (by kernel_rfl)
theorem sz114 : (Tryd.prog.info? 114).map (·.size) = some 2 := by kernel_rfl
theorem fi114_0 : FI Tryd.prog 114 0 0 := ⟨⟨_, _, 1, Tryd.underlying114, rfl, rfl, by kernel_rfl, by decide⟩⟩
theorem fi114_1 : FI Tryd.prog 114 1 1 := ⟨⟨_, _, 1, Tryd.underlying114, rfl, rfl, by kernel_rfl, by decide⟩⟩
theorem fi92_0 : FI Tryd.prog 92 0 0 := ⟨⟨_, _, 1, Tryd.underlying92, rfl, rfl, by kernel_rfl, by decide⟩⟩
theorem fi92_1 : FI Tryd.prog 92 1 1 := ⟨⟨_, _, 1, Tryd.underlying92, rfl, rfl, by kernel_rfl, by decide⟩⟩
theorem fi92_2 : FI Tryd.prog 92 2 2 := ⟨⟨_, _, 1, Tryd.underlying92, rfl, rfl, by kernel_rfl, by decide⟩⟩
theorem fi92_3 : FI Tryd.prog 92 3 3 := ⟨⟨_, _, 1, Tryd.underlying92, rfl, rfl, by kernel_rfl, by decide⟩⟩
theorem fi92_4 : FI Tryd.prog 92 4 4 := ⟨⟨_, _, 1, Tryd.underlying92, rfl, rfl, by kernel_rfl, by decide⟩⟩
theorem fi92_5 : FI Tryd.prog 92 5 5 := ⟨⟨_, _, 1, Tryd.underlying92, rfl, rfl, by kernel_rfl, by decide⟩⟩
theorem fn56 : FnI Tryd.prog 56 := ⟨⟨_, Tryd.func56, by kernel_rfl, by kernel_rfl⟩⟩
theorem fn50 : FnI Tryd.prog 50 := ⟨⟨_, Tryd.func50, by kernel_rfl, by kernel_rfl⟩⟩
theorem fi43_0 : FI Tryd.prog 43 0 0 := ⟨⟨_, _, 2, Tryd.underlying43, rfl, rfl, by kernel_rfl, by decide⟩⟩
theorem ti39 : TI Tryd.prog 39 true 2 := ⟨⟨_, Tryd.underlying39, rfl⟩, by kernel_rfl⟩
theorem fi39_0 : FI Tryd.prog 39 0 0 := ⟨⟨_, _, 1, Tryd.underlying39, rfl, rfl, by kernel_rfl, by decide⟩⟩
theorem fi39_1 : FI Tryd.prog 39 1 1 := ⟨⟨_, _, 1, Tryd.underlying39, rfl, rfl, by kernel_rfl, by decide⟩⟩
theorem ti37 : TI Tryd.prog 37 false 1 := ⟨⟨_, Tryd.underlying37, rfl⟩, by kernel_rfl⟩
theorem fn70 : FnI Tryd.prog 70 := ⟨⟨_, Tryd.func70, by kernel_rfl, by kernel_rfl⟩⟩
theorem fn57 : FnI Tryd.prog 57 := ⟨⟨_, Tryd.func57, by kernel_rfl, by kernel_rfl⟩⟩
theorem fn71 : FnI Tryd.prog 71 := ⟨⟨_, Tryd.func71, by kernel_rfl, by kernel_rfl⟩⟩
theorem fn58 : FnI Tryd.prog 58 := ⟨⟨_, Tryd.func58, by kernel_rfl, by kernel_rfl⟩⟩
theorem fn59 : FnI Tryd.prog 59 := ⟨⟨_, Tryd.func59, by kernel_rfl, by kernel_rfl⟩⟩
theorem fn51 : FnI Tryd.prog 51 := ⟨⟨_, Tryd.func51, by kernel_rfl, by kernel_rfl⟩⟩
theorem fn41 : FnI Tryd.prog 41 := ⟨⟨_, Tryd.func41, by kernel_rfl, by kernel_rfl⟩⟩
theorem fn25 : FnI Tryd.prog 25 := ⟨⟨_, Tryd.func25, by kernel_rfl, by kernel_rfl⟩⟩
theorem fn26 : FnI Tryd.prog 26 := ⟨⟨_, Tryd.func26, by kernel_rfl, by kernel_rfl⟩⟩
theorem fn10 : FnI Tryd.prog 10 := ⟨⟨_, Tryd.func10, by kernel_rfl, by kernel_rfl⟩⟩
theorem sz26 : (Tryd.prog.info? 26).map (·.size) = some 2 := by kernel_rfl
theorem pi45 : PI Tryd.prog 45 [(0, 1), (1, 1), (2, 1), (3, 1), (4, 2), (6, 5)] := pi_of Tryd.underlying45 (by kernel_rfl) (by kernel_rfl)
theorem ei45 : EI Tryd.prog 45 11 136 [.i .i64 0, .i .i64 0, .i .i64 0, .i .i64 0, .raw (.slice none 0 0), .i .i64 0, .i .i64 0, .i .u64 0, .i .i64 0, .raw (.slice none 0 0), .raw (.slice none 0 0)] := ei_of (by kernel_rfl) (by decide)
theorem ei24 : EI Tryd.prog 24 1 24 [.raw (.slice none 0 0)] := ei_of (by kernel_rfl) (by decide)
theorem si101 : SI Tryd.prog 101 24 1 := ⟨Tryd.underlying101, by kernel_rfl, by decide⟩
theorem fn38 : FnI Tryd.prog 38 := ⟨⟨_, Tryd.func38, by kernel_rfl, by kernel_rfl⟩⟩
theorem ni24 : NI Tryd.prog 24 := ⟨.inl ⟨_, Tryd.underlying24⟩⟩
theorem fn20 : FnI Tryd.prog 20 := ⟨⟨_, Tryd.func20, by kernel_rfl, by kernel_rfl⟩⟩
theorem fn7 : FnI Tryd.prog 7 := ⟨⟨_, Tryd.func7, by kernel_rfl, by kernel_rfl⟩⟩
theorem zi24 : ZI Tryd.prog 24 ([.raw (.slice none 0 0)]) := zi_of (by kernel_rfl)
theorem zi29 : ZI Tryd.prog 29 ([.i .i64 0]) := zi_of (by kernel_rfl)
theorem sz24 : (Tryd.prog.info? 24).map (·.size) = some 1 := by kernel_rfl
theorem fn22 : FnI Tryd.prog 22 := ⟨⟨_, Tryd.func22, by kernel_rfl, by kernel_rfl⟩⟩
theorem ti79 : TI Tryd.prog 79 false 1 := ⟨⟨_, Tryd.underlying79, rfl⟩, by kernel_rfl⟩
theorem fn42 : FnI Tryd.prog 42 := ⟨⟨_, Tryd.func42, by kernel_rfl, by kernel_rfl⟩⟩
theorem fn39 : FnI Tryd.prog 39 := ⟨⟨_, Tryd.func39, by kernel_rfl, by kernel_rfl⟩⟩
theorem fn27 : FnI Tryd.prog 27 := ⟨⟨_, Tryd.func27, by kernel_rfl, by kernel_rfl⟩⟩
theorem fn11 : FnI Tryd.prog 11 := ⟨⟨_, Tryd.func11, by kernel_rfl, by kernel_rfl⟩⟩
theorem fn23 : FnI Tryd.prog 23 := ⟨⟨_, Tryd.func23, by kernel_rfl, by kernel_rfl⟩⟩
theorem fn24 : FnI Tryd.prog 24 := ⟨⟨_, Tryd.func24, by kernel_rfl, by kernel_rfl⟩⟩
theorem fn9 : FnI Tryd.prog 9 := ⟨⟨_, Tryd.func9, by kernel_rfl, by kernel_rfl⟩⟩
theorem fn29 : FnI Tryd.prog 29 := ⟨⟨_, Tryd.func29, by kernel_rfl, by kernel_rfl⟩⟩
theorem fn14 : FnI Tryd.prog 14 := ⟨⟨_, Tryd.func14, by kernel_rfl, by kernel_rfl⟩⟩
theorem fn8 : FnI Tryd.prog 8 := ⟨⟨_, Tryd.func8, by kernel_rfl, by kernel_rfl⟩⟩
theorem fn6 : FnI Tryd.prog 6 := ⟨⟨_, Tryd.func6, by kernel_rfl, by kernel_rfl⟩⟩
theorem ti55 : TI Tryd.prog 55 true 2 := ⟨⟨_, Tryd.underlying55, rfl⟩, by kernel_rfl⟩
theorem fi55_0 : FI Tryd.prog 55 0 0 := ⟨⟨_, _, 1, Tryd.underlying55, rfl, rfl, by kernel_rfl, by decide⟩⟩
theorem ti53 : TI Tryd.prog 53 false 1 := ⟨⟨_, Tryd.underlying53, rfl⟩, by kernel_rfl⟩
theorem si53 : SI Tryd.prog 53 63 11 := ⟨Tryd.underlying53, by kernel_rfl, by decide⟩
theorem fi63_4 : FI Tryd.prog 63 4 4 := ⟨⟨_, _, 2, Tryd.underlying63, rfl, rfl, by kernel_rfl, by decide⟩⟩
theorem fi56_0 : FI Tryd.prog 56 0 0 := ⟨⟨_, _, 1, Tryd.underlying56, rfl, rfl, by kernel_rfl, by decide⟩⟩
theorem fi63_5 : FI Tryd.prog 63 5 6 := ⟨⟨_, _, 5, Tryd.underlying63, rfl, rfl, by kernel_rfl, by decide⟩⟩
theorem ti61 : TI Tryd.prog 61 true 5 := ⟨⟨_, Tryd.underlying61, rfl⟩, by kernel_rfl⟩
theorem fi61_2 : FI Tryd.prog 61 2 3 := ⟨⟨_, _, 1, Tryd.underlying61, rfl, rfl, by kernel_rfl, by decide⟩⟩
theorem ti58 : TI Tryd.prog 58 false 1 := ⟨⟨_, Tryd.underlying58, rfl⟩, by kernel_rfl⟩
theorem si58 : SI Tryd.prog 58 89 10 := ⟨Tryd.underlying58, by kernel_rfl, by decide⟩
theorem fi61_3 : FI Tryd.prog 61 3 4 := ⟨⟨_, _, 1, Tryd.underlying61, rfl, rfl, by kernel_rfl, by decide⟩⟩
theorem ti59 : TI Tryd.prog 59 false 1 := ⟨⟨_, Tryd.underlying59, rfl⟩, by kernel_rfl⟩
theorem si59 : SI Tryd.prog 59 94 7 := ⟨Tryd.underlying59, by kernel_rfl, by decide⟩
theorem ti89 : TI Tryd.prog 89 true 10 := ⟨⟨_, Tryd.underlying89, rfl⟩, by kernel_rfl⟩
theorem fi89_5 : FI Tryd.prog 89 5 5 := ⟨⟨_, _, 1, Tryd.underlying89, rfl, rfl, by kernel_rfl, by decide⟩⟩
theorem fi89_6 : FI Tryd.prog 89 6 6 := ⟨⟨_, _, 1, Tryd.underlying89, rfl, rfl, by kernel_rfl, by decide⟩⟩
theorem fi89_7 : FI Tryd.prog 89 7 7 := ⟨⟨_, _, 3, Tryd.underlying89, rfl, rfl, by kernel_rfl, by decide⟩⟩
theorem fn43 : FnI Tryd.prog 43 := ⟨⟨_, Tryd.func43, by kernel_rfl, by kernel_rfl⟩⟩
theorem ti94 : TI Tryd.prog 94 true 7 := ⟨⟨_, Tryd.underlying94, rfl⟩, by kernel_rfl⟩
theorem fi94_5 : FI Tryd.prog 94 5 5 := ⟨⟨_, _, 1, Tryd.underlying94, rfl, rfl, by kernel_rfl, by decide⟩⟩
theorem fi94_6 : FI Tryd.prog 94 6 6 := ⟨⟨_, _, 1, Tryd.underlying94, rfl, rfl, by kernel_rfl, by decide⟩⟩
theorem fn44 : FnI Tryd.prog 44 := ⟨⟨_, Tryd.func44, by kernel_rfl, by kernel_rfl⟩⟩
theorem fn28 : FnI Tryd.prog 28 := ⟨⟨_, Tryd.func28, by kernel_rfl, by kernel_rfl⟩⟩
theorem fn12 : FnI Tryd.prog 12 := ⟨⟨_, Tryd.func12, by kernel_rfl, by kernel_rfl⟩⟩
theorem ti63 : TI Tryd.prog 63 true 11 := ⟨⟨_, Tryd.underlying63, rfl⟩, by kernel_rfl⟩
theorem ei63 : EI Tryd.prog 63 11 136 [.i .i64 0, .i .i64 0, .i .i64 0, .i .i64 0, .raw (.slice none 0 0), .i .i64 0, .i .i64 0, .i .u64 0, .i .i64 0, .raw (.slice none 0 0), .raw (.slice none 0 0)] := ei_of (by kernel_rfl) (by decide)
theorem zi55 : ZI Tryd.prog 55 ([.raw (.slice none 0 0), .i .i64 0]) := zi_of (by kernel_rfl)
theorem pi55 : PI Tryd.prog 55 [(0, 1), (1, 1)] := pi_of Tryd.underlying55 (by kernel_rfl) (by kernel_rfl)
theorem fi55_1 : FI Tryd.prog 55 1 1 := ⟨⟨_, _, 1, Tryd.underlying55, rfl, rfl, by kernel_rfl, by decide⟩⟩
theorem fi63_0 : FI Tryd.prog 63 0 0 := ⟨⟨_, _, 1, Tryd.underlying63, rfl, rfl, by kernel_rfl, by decide⟩⟩
theorem fi63_1 : FI Tryd.prog 63 1 1 := ⟨⟨_, _, 1, Tryd.underlying63, rfl, rfl, by kernel_rfl, by decide⟩⟩
theorem fi63_2 : FI Tryd.prog 63 2 2 := ⟨⟨_, _, 1, Tryd.underlying63, rfl, rfl, by kernel_rfl, by decide⟩⟩
theorem fi63_3 : FI Tryd.prog 63 3 3 := ⟨⟨_, _, 1, Tryd.underlying63, rfl, rfl, by kernel_rfl, by decide⟩⟩
theorem fi56_1 : FI Tryd.prog 56 1 1 := ⟨⟨_, _, 1, Tryd.underlying56, rfl, rfl, by kernel_rfl, by decide⟩⟩
theorem zi36 : ZI Tryd.prog 36 ([.raw (.slice none 0 0), .i .i64 0]) := zi_of (by kernel_rfl)
theorem pi36 : PI Tryd.prog 36 [(0, 1), (1, 1)] := pi_of Tryd.underlying36 (by kernel_rfl) (by kernel_rfl)
theorem fi61_0 : FI Tryd.prog 61 0 0 := ⟨⟨_, _, 2, Tryd.underlying61, rfl, rfl, by kernel_rfl, by decide⟩⟩
theorem fi57_0 : FI Tryd.prog 57 0 0 := ⟨⟨_, _, 1, Tryd.underlying57, rfl, rfl, by kernel_rfl, by decide⟩⟩
theorem fi57_1 : FI Tryd.prog 57 1 1 := ⟨⟨_, _, 1, Tryd.underlying57, rfl, rfl, by kernel_rfl, by decide⟩⟩
theorem zi39 : ZI Tryd.prog 39 ([.i .i64 0, .i .u64 0]) := zi_of (by kernel_rfl)
theorem pi39 : PI Tryd.prog 39 [(0, 1), (1, 1)] := pi_of Tryd.underlying39 (by kernel_rfl) (by kernel_rfl)
theorem fi61_1 : FI Tryd.prog 61 1 2 := ⟨⟨_, _, 1, Tryd.underlying61, rfl, rfl, by kernel_rfl, by decide⟩⟩
theorem zi43 : ZI Tryd.prog 43 ([.i .i64 0, .i .u64 0, .i .i64 0, .raw (.slice none 0 0), .raw (.slice none 0 0)]) := zi_of (by kernel_rfl)
theorem pi43 : PI Tryd.prog 43 [(0, 2), (2, 1), (3, 1), (4, 1)] := pi_of Tryd.underlying43 (by kernel_rfl) (by kernel_rfl)
theorem sz43 : (Tryd.prog.info? 43).map (·.size) = some 5 := by kernel_rfl
theorem fi89_0 : FI Tryd.prog 89 0 0 := ⟨⟨_, _, 1, Tryd.underlying89, rfl, rfl, by kernel_rfl, by decide⟩⟩
theorem fi89_1 : FI Tryd.prog 89 1 1 := ⟨⟨_, _, 1, Tryd.underlying89, rfl, rfl, by kernel_rfl, by decide⟩⟩
theorem fi89_2 : FI Tryd.prog 89 2 2 := ⟨⟨_, _, 1, Tryd.underlying89, rfl, rfl, by kernel_rfl, by decide⟩⟩
theorem fi89_3 : FI Tryd.prog 89 3 3 := ⟨⟨_, _, 1, Tryd.underlying89, rfl, rfl, by kernel_rfl, by decide⟩⟩
theorem fi89_4 : FI Tryd.prog 89 4 4 := ⟨⟨_, _, 1, Tryd.underlying89, rfl, rfl, by kernel_rfl, by decide⟩⟩
theorem pi87 : PI Tryd.prog 87 [(0, 1), (1, 1), (2, 1), (3, 1), (4, 1), (5, 1), (6, 1), (7, 3)] := pi_of Tryd.underlying87 (by kernel_rfl) (by kernel_rfl)
theorem fn30 : FnI Tryd.prog 30 := ⟨⟨_, Tryd.func30, by kernel_rfl, by kernel_rfl⟩⟩
theorem ei87 : EI Tryd.prog 87 10 144 [.i .i64 0, .i .i64 0, .i .i64 0, .i .i64 0, .b false, .raw (.slice none 0 0), .raw (.slice none 0 0), .raw (.slice none 0 0), .raw (.slice none 0 0), .b false] := ei_of (by kernel_rfl) (by decide)
theorem ni40 : NI Tryd.prog 40 := ⟨.inl ⟨_, Tryd.underlying40⟩⟩
theorem sz40 : (Tryd.prog.info? 40).map (·.size) = some 1 := by kernel_rfl
theorem fi94_0 : FI Tryd.prog 94 0 0 := ⟨⟨_, _, 1, Tryd.underlying94, rfl, rfl, by kernel_rfl, by decide⟩⟩
theorem fi94_1 : FI Tryd.prog 94 1 1 := ⟨⟨_, _, 1, Tryd.underlying94, rfl, rfl, by kernel_rfl, by decide⟩⟩
theorem fi94_2 : FI Tryd.prog 94 2 2 := ⟨⟨_, _, 1, Tryd.underlying94, rfl, rfl, by kernel_rfl, by decide⟩⟩
theorem fi94_3 : FI Tryd.prog 94 3 3 := ⟨⟨_, _, 1, Tryd.underlying94, rfl, rfl, by kernel_rfl, by decide⟩⟩
theorem fi94_4 : FI Tryd.prog 94 4 4 := ⟨⟨_, _, 1, Tryd.underlying94, rfl, rfl, by kernel_rfl, by decide⟩⟩
theorem pi92 : PI Tryd.prog 92 [(0, 1), (1, 1), (2, 1), (3, 1), (4, 1), (5, 1), (6, 1)] := pi_of Tryd.underlying92 (by kernel_rfl) (by kernel_rfl)
theorem fn31 : FnI Tryd.prog 31 := ⟨⟨_, Tryd.func31, by kernel_rfl, by kernel_rfl⟩⟩
theorem ei92 : EI Tryd.prog 92 7 88 [.i .i64 0, .i .i64 0, .i .i64 0, .i .i64 0, .b false, .raw (.slice none 0 0), .raw (.slice none 0 0)] := ei_of (by kernel_rfl) (by decide)
theorem ni41 : NI Tryd.prog 41 := ⟨.inl ⟨_, Tryd.underlying41⟩⟩
theorem sz41 : (Tryd.prog.info? 41).map (·.size) = some 1 := by kernel_rfl
theorem fn15 : FnI Tryd.prog 15 := ⟨⟨_, Tryd.func15, by kernel_rfl, by kernel_rfl⟩⟩
theorem fn13 : FnI Tryd.prog 13 := ⟨⟨_, Tryd.func13, by kernel_rfl, by kernel_rfl⟩⟩
theorem sz55 : (Tryd.prog.info? 55).map (·.size) = some 2 := by kernel_rfl
theorem zi63 : ZI Tryd.prog 63 ([.i .i64 0, .i .i64 0, .i .i64 0, .i .i64 0, .raw (.slice none 0 0), .i .i64 0, .i .i64 0, .i .u64 0, .i .i64 0, .raw (.slice none 0 0), .raw (.slice none 0 0)]) := zi_of (by kernel_rfl)
theorem zi56 : ZI Tryd.prog 56 ([.raw (.slice none 0 0), .i .i64 0]) := zi_of (by kernel_rfl)
theorem pi56 : PI Tryd.prog 56 [(0, 1), (1, 1)] := pi_of Tryd.underlying56 (by kernel_rfl) (by kernel_rfl)
theorem pi63 : PI Tryd.prog 63 [(0, 1), (1, 1), (2, 1), (3, 1), (4, 2), (6, 5)] := pi_of Tryd.underlying63 (by kernel_rfl) (by kernel_rfl)
theorem sz63 : (Tryd.prog.info? 63).map (·.size) = some 11 := by kernel_rfl
theorem zi57 : ZI Tryd.prog 57 ([.i .i64 0, .i .u64 0]) := zi_of (by kernel_rfl)
theorem pi57 : PI Tryd.prog 57 [(0, 1), (1, 1)] := pi_of Tryd.underlying57 (by kernel_rfl) (by kernel_rfl)
theorem zi61 : ZI Tryd.prog 61 ([.i .i64 0, .i .u64 0, .i .i64 0, .raw (.slice none 0 0), .raw (.slice none 0 0)]) := zi_of (by kernel_rfl)
theorem pi61 : PI Tryd.prog 61 [(0, 2), (2, 1), (3, 1), (4, 1)] := pi_of Tryd.underlying61 (by kernel_rfl) (by kernel_rfl)
theorem sz61 : (Tryd.prog.info? 61).map (·.size) = some 5 := by kernel_rfl
theorem zi89 : ZI Tryd.prog 89 ([.i .i64 0, .i .i64 0, .i .i64 0, .i .i64 0, .b false, .raw (.slice none 0 0), .raw (.slice none 0 0), .raw (.slice none 0 0), .raw (.slice none 0 0), .b false]) := zi_of (by kernel_rfl)
theorem pi89 : PI Tryd.prog 89 [(0, 1), (1, 1), (2, 1), (3, 1), (4, 1), (5, 1), (6, 1), (7, 3)] := pi_of Tryd.underlying89 (by kernel_rfl) (by kernel_rfl)
theorem sz89 : (Tryd.prog.info? 89).map (·.size) = some 10 := by kernel_rfl
theorem fn34 : FnI Tryd.prog 34 := ⟨⟨_, Tryd.func34, by kernel_rfl, by kernel_rfl⟩⟩
theorem ei89 : EI Tryd.prog 89 10 144 [.i .i64 0, .i .i64 0, .i .i64 0, .i .i64 0, .b false, .raw (.slice none 0 0), .raw (.slice none 0 0), .raw (.slice none 0 0), .raw (.slice none 0 0), .b false] := ei_of (by kernel_rfl) (by decide)
theorem ni58 : NI Tryd.prog 58 := ⟨.inl ⟨_, Tryd.underlying58⟩⟩
theorem sz58 : (Tryd.prog.info? 58).map (·.size) = some 1 := by kernel_rfl
theorem zi94 : ZI Tryd.prog 94 ([.i .i64 0, .i .i64 0, .i .i64 0, .i .i64 0, .b false, .raw (.slice none 0 0), .raw (.slice none 0 0)]) := zi_of (by kernel_rfl)
theorem pi94 : PI Tryd.prog 94 [(0, 1), (1, 1), (2, 1), (3, 1), (4, 1), (5, 1), (6, 1)] := pi_of Tryd.underlying94 (by kernel_rfl) (by kernel_rfl)
theorem sz94 : (Tryd.prog.info? 94).map (·.size) = some 7 := by kernel_rfl
theorem fn35 : FnI Tryd.prog 35 := ⟨⟨_, Tryd.func35, by kernel_rfl, by kernel_rfl⟩⟩
theorem ei94 : EI Tryd.prog 94 7 88 [.i .i64 0, .i .i64 0, .i .i64 0, .i .i64 0, .b false, .raw (.slice none 0 0), .raw (.slice none 0 0)] := ei_of (by kernel_rfl) (by decide)
theorem ni59 : NI Tryd.prog 59 := ⟨.inl ⟨_, Tryd.underlying59⟩⟩
theorem sz59 : (Tryd.prog.info? 59).map (·.size) = some 1 := by kernel_rfl
theorem fn17 : FnI Tryd.prog 17 := ⟨⟨_, Tryd.func17, by kernel_rfl, by kernel_rfl⟩⟩
theorem ti56 : TI Tryd.prog 56 true 2 := ⟨⟨_, Tryd.underlying56, rfl⟩, by kernel_rfl⟩
theorem fn32 : FnI Tryd.prog 32 := ⟨⟨_, Tryd.func32, by kernel_rfl, by kernel_rfl⟩⟩
theorem ti57 : TI Tryd.prog 57 true 2 := ⟨⟨_, Tryd.underlying57, rfl⟩, by kernel_rfl⟩
theorem et57 : EqT Tryd.prog 57 [0, 0] := ⟨by kernel_rfl, by kernel_rfl, by kernel_rfl, by kernel_rfl⟩
theorem fn45 : FnI Tryd.prog 45 := ⟨⟨_, Tryd.func45, by kernel_rfl, by kernel_rfl⟩⟩
theorem fn52 : FnI Tryd.prog 52 := ⟨⟨_, Tryd.func52, by kernel_rfl, by kernel_rfl⟩⟩
theorem fn46 : FnI Tryd.prog 46 := ⟨⟨_, Tryd.func46, by kernel_rfl, by kernel_rfl⟩⟩
theorem fn33 : FnI Tryd.prog 33 := ⟨⟨_, Tryd.func33, by kernel_rfl, by kernel_rfl⟩⟩
theorem fn16 : FnI Tryd.prog 16 := ⟨⟨_, Tryd.func16, by kernel_rfl, by kernel_rfl⟩⟩
theorem ni53 : NI Tryd.prog 53 := ⟨.inl ⟨_, Tryd.underlying53⟩⟩
theorem fn37 : FnI Tryd.prog 37 := ⟨⟨_, Tryd.func37, by kernel_rfl, by kernel_rfl⟩⟩
theorem fn19 : FnI Tryd.prog 19 := ⟨⟨_, Tryd.func19, by kernel_rfl, by kernel_rfl⟩⟩
theorem fn36 : FnI Tryd.prog 36 := ⟨⟨_, Tryd.func36, by kernel_rfl, by kernel_rfl⟩⟩
theorem fn18 : FnI Tryd.prog 18 := ⟨⟨_, Tryd.func18, by kernel_rfl, by kernel_rfl⟩⟩

def m21_conns_within (a0 : Int) (a1 : Int) : Option Bool :=
  if (decide (0 ≤ a0)) then (some (decide (a0 ≤ a1))) else (some false)

set_option maxRecDepth 100000 in
theorem m21_conns_within_c {a0 : Int} {a1 : Int} {r : Bool} (h : m21_conns_within a0 a1 = some r) : CallsA Tryd.prog 21 [.one (.i .i64 a0), .one (.i .i64 a1)] (· = .s (.one (.b r))) := by
  unfold m21_conns_within at h
  refine callsA_of Tryd.func21 rfl (nt := 12) rfl (Nat.le_of_ble_eq_true rfl) ?_
  intro w0 S0
  refine cseq ?_
  refine cregion ?_
  refine sv rfl (opv_as rfl) ?_
  refine snil ?_
  refine cseq ?_
  refine cregion ?_
  refine sv rfl (opv_mv rfl) ?_
  refine sv rfl (opv_geq rfl rfl) ?_
  refine sv rfl (opv_mv rfl) ?_
  refine ssplit 7 rfl (fun hc => ?_) (fun hc => ?_)
  · replace h := ite_t hc h
    clear hc
    refine son rfl rfl rfl ?_
    refine sv rfl (opv_mv rfl) ?_
    refine son rfl rfl rfl ?_
    refine sv rfl (opv_mv rfl) ?_
    refine son rfl rfl rfl ?_
    refine sv rfl (opv_leq rfl rfl) ?_
    refine sv rfl (opv_pick_t rfl rfl) ?_
    refine sv rfl (opv_as rfl) ?_
    refine snil ?_
    refine cret ?_
    obtain rfl := Option.some.inj h
    refine ⟨Or.inr rfl, _, _, _, (resVs_cons (ResV.tmp _ _ rfl) resVs_nil), (pubA_id rfl), ?_⟩
    rfl
  · replace h := ite_f hc h
    clear hc
    refine soff rfl rfl rfl rfl ?_
    refine soff rfl rfl rfl rfl ?_
    refine soff rfl rfl rfl rfl ?_
    refine sv rfl (opv_pick_f rfl rfl) ?_
    refine sv rfl (opv_as rfl) ?_
    refine snil ?_
    refine cret ?_
    obtain rfl := Option.some.inj h
    refine ⟨Or.inr rfl, _, _, _, (resVs_cons (ResV.tmp _ _ rfl) resVs_nil), (pubA_id rfl), ?_⟩
    rfl

def m47_stream_deadly (a0 : Int) : Option Bool :=
  if (decide (a0 = 4)) then (some true) else (some (decide (a0 = 5)))

set_option maxRecDepth 100000 in
theorem m47_stream_deadly_c {a0 : Int} {r : Bool} (h : m47_stream_deadly a0 = some r) : CallsA Tryd.prog 47 [.one (.i .i64 a0)] (· = .s (.one (.b r))) := by
  unfold m47_stream_deadly at h
  refine callsA_of Tryd.func47 rfl (nt := 9) rfl (Nat.le_of_ble_eq_true rfl) ?_
  intro w0 S0
  refine cseq ?_
  refine cregion ?_
  refine sv rfl (opv_as rfl) ?_
  refine snil ?_
  refine cseq ?_
  refine cregion ?_
  refine sv rfl (opv_mv rfl) ?_
  refine sv rfl (opv_ieql rfl rfl) ?_
  refine sv rfl (opv_mv rfl) ?_
  refine ssplit 5 rfl (fun hc => ?_) (fun hc => ?_)
  · replace h := ite_t hc h
    clear hc
    refine soff rfl rfl rfl rfl ?_
    refine soff rfl rfl rfl rfl ?_
    refine sv rfl (opv_pick_t rfl rfl) ?_
    refine sv rfl (opv_as rfl) ?_
    refine snil ?_
    refine cret ?_
    obtain rfl := Option.some.inj h
    refine ⟨Or.inr rfl, _, _, _, (resVs_cons (ResV.tmp _ _ rfl) resVs_nil), (pubA_id rfl), ?_⟩
    rfl
  · replace h := ite_f hc h
    clear hc
    refine son rfl rfl rfl ?_
    refine sv rfl (opv_mv rfl) ?_
    refine son rfl rfl rfl ?_
    refine sv rfl (opv_ieql rfl rfl) ?_
    refine sv rfl (opv_pick_f rfl rfl) ?_
    refine sv rfl (opv_as rfl) ?_
    refine snil ?_
    refine cret ?_
    obtain rfl := Option.some.inj h
    refine ⟨Or.inr rfl, _, _, _, (resVs_cons (ResV.tmp _ _ rfl) resVs_nil), (pubA_id rfl), ?_⟩
    rfl

def m60_enc_News (a0 : List UInt8) : Option (Int × Int × (List UInt8)) :=
  some (0, 0, a0)

set_option maxRecDepth 100000 in
theorem m60_enc_News_c {a0 : List UInt8} {r : Int × Int × (List UInt8)} (h : m60_enc_News a0 = some r) : CallsB Tryd.prog 60 [] [.one (.sl a0.length (a0.flatMap eU8))] (fun y m' => y = .s (.one (.lp 0 0)) ∧ m' = [.box [.fn 72 [] [.lp 1 0, .lp 2 0], .i .i64 r.1], .box [.i .i64 r.2.1], .box [.sl r.2.2.length (r.2.2.flatMap eU8)]]) := by
  unfold m60_enc_News at h
  refine callsB_of Tryd.func60 rfl (nt := 7) rfl (Nat.le_of_ble_eq_true rfl) ?_
  intro w0 S0 X0 H0
  refine cseq ?_
  refine cregion ?_
  refine sbox rfl rfl ?_
  refine sv rfl (opv_as rfl) ?_
  refine snil ?_
  refine cseq ?_
  refine cregion ?_
  refine salloc rfl zi3 ?_
  refine sstore sz3 rfl rfl rfl rfl (Nat.le_of_ble_eq_true rfl) ?_
  refine smem [.box [.sl a0.length (a0.flatMap eU8)], .box [.i .i64 0]] rfl ?_
  refine snil ?_
  refine cseq ?_
  refine cregion ?_
  refine sv rfl (opv_makeFunc opnds1_nil (opnds1_cons rfl rfl (opnds1_cons rfl rfl opnds1_nil))) ?_
  refine sv rfl (opv_build zi143 pi143 (parts_cons rfl parts_nil) (.cons _ _ _ _ _ _ _ rfl rfl (Nat.le_of_ble_eq_true rfl) (.nil _))) ?_
  refine sbox rfl rfl ?_
  refine sv rfl (opv_as rfl) ?_
  refine snil ?_
  refine cret ?_
  obtain rfl := Option.some.inj h
  exact ⟨Or.inr rfl, _, [2, 1, 0], [.one (.lp 0 0)], [.box [.fn 72 [] [.lp 1 0, .lp 2 0], .i .i64 0], .box [.i .i64 0], .box [.sl a0.length (a0.flatMap eU8)]], (resVs_cons (ResV.tmp _ _ rfl) resVs_nil), rfl, rfl, ⟨by decide, rfl⟩, rfl, rfl, ⟨rfl, rfl⟩⟩

def m62_enc_Reader_Errs (a0 : Int) (a1 : Int) (a2 : List UInt8) : Option Int :=
  some a0

set_option maxRecDepth 100000 in
theorem m62_enc_Reader_Errs_c {a0 : Int} {a1 : Int} {a2 : List UInt8} {r : Int} (h : m62_enc_Reader_Errs a0 a1 a2 = some r) : CallsB Tryd.prog 62 [.box [.fn 72 [] [.lp 1 0, .lp 2 0], .i .i64 a0], .box [.i .i64 a1], .box [.sl a2.length (a2.flatMap eU8)]] [.one (.lp 0 0)] (fun y m' => y = .s (.one (.i .i64 r)) ∧ m' = [.box [.fn 72 [] [.lp 1 0, .lp 2 0], .i .i64 a0], .box [.i .i64 a1], .box [.sl a2.length (a2.flatMap eU8)]]) := by
  unfold m62_enc_Reader_Errs at h
  refine callsB_of Tryd.func62 rfl (nt := 9) rfl (Nat.le_of_ble_eq_true rfl) ?_
  intro w0 S0 X0 H0
  refine cseq ?_
  refine cregion ?_
  refine sv rfl (opv_as rfl) ?_
  refine snil ?_
  refine cseq ?_
  refine cseq ?_
  refine cregion ?_
  refine sv rfl (opv_mv rfl) ?_
  refine sv rfl (opv_pnil_eql Tryd.underlying129 rfl) ?_
  refine snil ?_
  refine ccond rfl (fun hx => Bool.noConfusion hx) (fun _ => ?_)
  refine cskip ?_
  refine then_normal ?_
  refine cseq ?_
  refine cregion ?_
  refine sv rfl (opv_mv rfl) ?_
  refine sv rfl (opv_nilCheck rfl rfl (fun _ _ _ h => by cases h)) ?_
  refine sv rfl (opv_fieldAddr_lp fi143_1 rfl) ?_
  refine sv rfl (opv_load1 ti29 rfl (.lp _ _ _ rfl) rfl) ?_
  refine sv rfl (opv_as rfl) ?_
  refine snil ?_
  refine cret ?_
  obtain rfl := Option.some.inj h
  exact ⟨Or.inr rfl, _, [0, 1, 2], [.one (.i .i64 a0)], [.box [.fn 72 [] [.lp 1 0, .lp 2 0], .i .i64 a0], .box [.i .i64 a1], .box [.sl a2.length (a2.flatMap eU8)]], (resVs_cons (ResV.tmp _ _ rfl) resVs_nil), rfl, rfl, ⟨by decide, rfl⟩, rfl, rfl, ⟨rfl, rfl⟩⟩

def m73_enc_Reader_Fails (a0 : Int) (a1 : Int) (a2 : Int) (a3 : List UInt8) : Option Int :=
  if (decide (a1 = 0)) then (some a0) else (some a1)

set_option maxRecDepth 100000 in
theorem m73_enc_Reader_Fails_c {a0 : Int} {a1 : Int} {a2 : Int} {a3 : List UInt8} {r : Int} (h : m73_enc_Reader_Fails a0 a1 a2 a3 = some r) : CallsB Tryd.prog 73 [.box [.fn 72 [] [.lp 1 0, .lp 2 0], .i .i64 a1], .box [.i .i64 a2], .box [.sl a3.length (a3.flatMap eU8)]] [.one (.lp 0 0), .one (.i .i64 a0)] (fun y m' => y = .tup [] ∧ m' = [.box [.fn 72 [] [.lp 1 0, .lp 2 0], .i .i64 r], .box [.i .i64 a2], .box [.sl a3.length (a3.flatMap eU8)]]) := by
  unfold m73_enc_Reader_Fails at h
  refine callsB_of Tryd.func73 rfl (nt := 17) rfl (Nat.le_of_ble_eq_true rfl) ?_
  intro w0 S0 X0 H0
  refine cseq ?_
  refine cregion ?_
  refine sv rfl (opv_mv rfl) ?_
  refine sv rfl (opv_pnil_neq Tryd.underlying129 rfl) ?_
  refine sv rfl (opv_mv rfl) ?_
  refine son rfl rfl rfl ?_
  refine sv rfl (opv_mv rfl) ?_
  refine son rfl rfl rfl ?_
  refine sv rfl (opv_nilCheck rfl rfl (fun _ _ _ h => by cases h)) ?_
  refine son rfl rfl rfl ?_
  refine sv rfl (opv_fieldAddr_lp fi143_1 rfl) ?_
  refine son rfl rfl rfl ?_
  refine sv rfl (opv_load1 ti29 rfl (.lp _ _ _ rfl) rfl) ?_
  refine son rfl rfl rfl ?_
  refine sv rfl (opv_ieql rfl rfl) ?_
  refine sv rfl (opv_pick_t rfl rfl) ?_
  refine snil ?_
  refine ccond rfl (fun hc => ?_) (fun hc => ?_)
  · replace h := ite_t hc h
    clear hc
    refine cregion ?_
    refine sv rfl (opv_mv rfl) ?_
    refine sv rfl (opv_mv rfl) ?_
    refine sv rfl (opv_nilCheck rfl rfl (fun _ _ _ h => by cases h)) ?_
    refine sv rfl (opv_fieldAddr_lp fi143_1 rfl) ?_
    refine sstore sz29 rfl rfl rfl rfl (Nat.le_of_ble_eq_true rfl) ?_
    refine smem [.box [.fn 72 [] [.lp 1 0, .lp 2 0], .i .i64 a0], .box [.i .i64 a2], .box [.sl a3.length (a3.flatMap eU8)]] rfl ?_
    refine snil0 ?_
    obtain rfl := Option.some.inj h
    exact ⟨Or.inl rfl, _, [0, 1, 2], [], [.box [.fn 72 [] [.lp 1 0, .lp 2 0], .i .i64 a0], .box [.i .i64 a2], .box [.sl a3.length (a3.flatMap eU8)]], resVs_nil, rfl, rfl, ⟨by decide, rfl⟩, rfl, rfl, ⟨rfl, rfl⟩⟩
  · replace h := ite_f hc h
    clear hc
    refine cskip ?_
    obtain rfl := Option.some.inj h
    exact ⟨Or.inl rfl, _, [0, 1, 2], [], [.box [.fn 72 [] [.lp 1 0, .lp 2 0], .i .i64 a1], .box [.i .i64 a2], .box [.sl a3.length (a3.flatMap eU8)]], resVs_nil, rfl, rfl, ⟨by decide, rfl⟩, rfl, rfl, ⟨rfl, rfl⟩⟩

def m72_enc_New_1s (a0 : Int) (a1 : Int) (a2 : List UInt8) : Option (Int × (List UInt8) × Int) :=
  (cut a2 (wI (a1 + a0)) (a2.length : Int)).bind fun c1 => some ((wI (a1 + a0)), c1, (wI (a1 + a0)))

set_option maxRecDepth 100000 in
theorem m72_enc_New_1s_c {a0 : Int} {a1 : Int} {a2 : List UInt8} {r : Int × (List UInt8) × Int} (h : m72_enc_New_1s a0 a1 a2 = some r) : CallsB Tryd.prog 72 [.box [.i .i64 a1], .box [.sl a2.length (a2.flatMap eU8)]] [.one (.i .i64 a0), .one (.lp 0 0), .one (.lp 1 0)] (fun y m' => y = .tup [.one (.i .i64 r.1), .one (.sl r.2.1.length (r.2.1.flatMap eU8))] ∧ m' = [.box [.i .i64 r.2.2], .box [.sl a2.length (a2.flatMap eU8)]]) := by
  unfold m72_enc_New_1s at h
  refine callsB_of Tryd.func72 rfl (nt := 13) rfl (Nat.le_of_ble_eq_true rfl) ?_
  intro w0 S0 X0 H0
  refine cseq ?_
  refine cregion ?_
  refine sv rfl (opv_as rfl) ?_
  refine sv rfl (opv_as rfl) ?_
  refine snil ?_
  refine cseq ?_
  refine cregion ?_
  refine sv rfl (opv_load1 ti3 rfl (.lp _ _ _ rfl) rfl) ?_
  refine sv rfl (opv_mv rfl) ?_
  refine sv rfl (opv_add rfl rfl) ?_
  refine sstore sz3 rfl rfl rfl rfl (Nat.le_of_ble_eq_true rfl) ?_
  refine smem [.box [.i .i64 (wI (a1 + a0))], .box [.sl a2.length (a2.flatMap eU8)]] rfl ?_
  refine snil ?_
  refine cseq ?_
  refine cdraw mixed (by kernel_rfl) ?_
  refine dv rfl (opv_load1 ti3 rfl (.lp _ _ _ rfl) rfl) ?_
  refine dv rfl (opv_load1 ti34 rfl (.lp _ _ _ rfl) rfl) ?_
  refine dv rfl (opv_load1 ti3 rfl (.lp _ _ _ rfl) rfl) ?_
  obtain ⟨c1, hc1, h⟩ := bind_eq h
  refine dv rfl (opv_cut (f := eU8) (lo := (wI (a1 + a0))) (hi := (a2.length : Int)) si34 (fun _ => rfl) rfl rfl rfl (bound_some rfl (cut_eq hc1).1.1) (by exact rfl) hc1) ?_
  refine dv rfl (opv_as rfl) ?_
  refine dv rfl (opv_as rfl) ?_
  refine dnil ?_
  refine then_normal ?_
  refine cret ?_
  obtain rfl := Option.some.inj h
  exact ⟨Or.inr rfl, _, [0, 1], [.one (.i .i64 (wI (a1 + a0))), .one (.sl c1.length (c1.flatMap eU8))], [.box [.i .i64 (wI (a1 + a0))], .box [.sl a2.length (a2.flatMap eU8)]], (resVs_cons (ResV.tmp _ _ rfl) (resVs_cons (ResV.tmp _ _ rfl) resVs_nil)), rfl, rfl, ⟨by decide, rfl⟩, rfl, rfl, ⟨rfl, rfl⟩⟩

def m78_enc_Reader_places_k1 (a1 : Int) (a2 : List UInt8) (b1 : Unit) : Option (Int × (List UInt8) × Int) :=
  (m72_enc_New_1s 0 a1 a2).bind fun v2 => some (v2.1, v2.2.1, v2.2.2)
def m78_enc_Reader_places (a0 : Int) (a1 : Int) (a2 : List UInt8) : Option (Int × (List UInt8) × Int) :=
  m78_enc_Reader_places_k1 a1 a2 ()

set_option maxRecDepth 100000 in
theorem m78_enc_Reader_places_c {a0 : Int} {a1 : Int} {a2 : List UInt8} {r : Int × (List UInt8) × Int} (h : m78_enc_Reader_places a0 a1 a2 = some r) : CallsB Tryd.prog 78 [.box [.fn 72 [] [.lp 1 0, .lp 2 0], .i .i64 a0], .box [.i .i64 a1], .box [.sl a2.length (a2.flatMap eU8)]] [.one (.lp 0 0)] (fun y m' => y = .tup [.one (.i .i64 r.1), .one (.sl r.2.1.length (r.2.1.flatMap eU8))] ∧ m' = [.box [.fn 72 [] [.lp 1 0, .lp 2 0], .i .i64 a0], .box [.i .i64 r.2.2], .box [.sl a2.length (a2.flatMap eU8)]]) := by
  unfold m78_enc_Reader_places at h
  refine callsB_of Tryd.func78 rfl (nt := 20) rfl (Nat.le_of_ble_eq_true rfl) ?_
  intro w0 S0 X0 H0
  refine cseq ?_
  refine cregion ?_
  refine sv rfl (opv_as rfl) ?_
  refine sv rfl (opv_as rfl) ?_
  refine snil ?_
  refine cseq ?_
  refine cseq ?_
  refine cjoin3 (Unit) (fun b1 => [(0, .s (.one (.lp 0 0)))]) (fun b1 => [.box [.fn 72 [] [.lp 1 0, .lp 2 0], .i .i64 a0], .box [.i .i64 a1], .box [.sl a2.length (a2.flatMap eU8)]]) (fun b1 => m78_enc_Reader_places_k1 a1 a2 b1 = some r) (fun _ _ => inbL_of rfl) (fun _ _ => blkinb_of rfl) (fun _ _ => Nat.le_of_ble_eq_true rfl) (fun b1 h => ?_) ?_
  · unfold m78_enc_Reader_places_k1 at h
    refine cseq ?_
    refine cregion ?_
    refine sv rfl (opv_mv rfl) ?_
    refine sv rfl (opv_nilCheck rfl rfl (fun _ _ _ h => by cases h)) ?_
    refine sv rfl (opv_fieldAddr_lp fi143_0 rfl) ?_
    refine sv rfl (opv_load1 ti141 rfl (.lp _ _ _ rfl) rfl) ?_
    obtain ⟨v2, hv2, h⟩ := bind_eq h
    refine scallB (x' := .tup [.one (.i .i64 v2.1), .one (.sl v2.2.1.length (v2.2.1.flatMap eU8))]) (M' := [.box [.fn 72 [] [.lp 1 0, .lp 2 0], .i .i64 a0], .box [.i .i64 v2.2.2], .box [.sl a2.length (a2.flatMap eU8)]]) [1, 2] rfl fn72 (.fn _ _ _ _ rfl) (opnds_cons rfl opnds_nil) (m72_enc_New_1s_c hv2) rfl rfl (by decide) rfl rfl rfl ?_
    refine sv rfl (opv_extract rfl rfl) ?_
    refine sv rfl (opv_extract rfl rfl) ?_
    refine sv rfl (opv_as rfl) ?_
    refine sv rfl (opv_as rfl) ?_
    refine snil ?_
    refine cret ?_
    obtain rfl := Option.some.inj h
    exact ⟨Or.inr rfl, _, [0, 1, 2], [.one (.i .i64 v2.1), .one (.sl v2.2.1.length (v2.2.1.flatMap eU8))], [.box [.fn 72 [] [.lp 1 0, .lp 2 0], .i .i64 a0], .box [.i .i64 v2.2.2], .box [.sl a2.length (a2.flatMap eU8)]], (resVs_cons (ResV.tmp _ _ rfl) (resVs_cons (ResV.tmp _ _ rfl) resVs_nil)), rfl, rfl, ⟨by decide, rfl⟩, rfl, rfl, ⟨rfl, rfl⟩⟩
  · skip
    refine cregion ?_
    refine sv rfl (opv_mv rfl) ?_
    refine sv rfl (opv_pnil_eql Tryd.underlying129 rfl) ?_
    refine sv rfl (opv_mv rfl) ?_
    refine son rfl rfl rfl ?_
    refine sv rfl (opv_mv rfl) ?_
    refine son rfl rfl rfl ?_
    refine sv rfl (opv_nilCheck rfl rfl (fun _ _ _ h => by cases h)) ?_
    refine son rfl rfl rfl ?_
    refine sv rfl (opv_fieldAddr_lp fi143_0 rfl) ?_
    refine son rfl rfl rfl ?_
    refine sv rfl (opv_load1 ti141 rfl (.lp _ _ _ rfl) rfl) ?_
    refine son rfl rfl rfl ?_
    refine sv rfl (opv_fnil_eql Tryd.underlying141 rfl rfl) ?_
    refine sv rfl (opv_pick_f rfl rfl) ?_
    refine snil ?_
    refine ccond rfl (fun hx => Bool.noConfusion hx) (fun _ => ?_)
    refine cskip ?_
    refine then_normal ?_
    exact ⟨(), _, h, ⟨rfl, trivial⟩, rfl⟩

def m74_enc_Reader_takes_k3 (a0 : Int) (a1 : Int) (v1 : Int × (List UInt8) × Int) (b3 : Int) : Option ((List UInt8) × Int × Int) :=
  (cut v1.2.1 0 a0).bind fun c4 => some (c4, a1, b3)
def m74_enc_Reader_takes (a0 : Int) (a1 : Int) (a2 : Int) (a3 : List UInt8) : Option ((List UInt8) × Int × Int) :=
  (m78_enc_Reader_places a1 a2 a3).bind fun v1 => if (decide ((v1.2.1.length : Int) < a0)) then ((m73_enc_Reader_Fails 2 a1 v1.2.2 a3).bind fun v2 => some (([] : List UInt8), v2, v1.2.2)) else (if (decide (0 < a0)) then ((m72_enc_New_1s a0 v1.2.2 a3).bind fun v5 => m74_enc_Reader_takes_k3 a0 a1 v1 v5.2.2) else (m74_enc_Reader_takes_k3 a0 a1 v1 v1.2.2))

set_option maxRecDepth 100000 in
theorem m74_enc_Reader_takes_c {a0 : Int} {a1 : Int} {a2 : Int} {a3 : List UInt8} {r : (List UInt8) × Int × Int} (h : m74_enc_Reader_takes a0 a1 a2 a3 = some r) : CallsB Tryd.prog 74 [.box [.fn 72 [] [.lp 1 0, .lp 2 0], .i .i64 a1], .box [.i .i64 a2], .box [.sl a3.length (a3.flatMap eU8)]] [.one (.lp 0 0), .one (.i .i64 a0)] (fun y m' => y = .s (.one (.sl r.1.length (r.1.flatMap eU8))) ∧ m' = [.box [.fn 72 [] [.lp 1 0, .lp 2 0], .i .i64 r.2.1], .box [.i .i64 r.2.2], .box [.sl a3.length (a3.flatMap eU8)]]) := by
  unfold m74_enc_Reader_takes at h
  refine callsB_of Tryd.func74 rfl (nt := 29) rfl (Nat.le_of_ble_eq_true rfl) ?_
  intro w0 S0 X0 H0
  refine cseq ?_
  refine cregion ?_
  refine sv rfl (opv_as rfl) ?_
  refine snil ?_
  refine cseq ?_
  refine cregion ?_
  refine sv rfl (opv_mv rfl) ?_
  obtain ⟨v1, hv1, h⟩ := bind_eq h
  refine scallB (x' := .tup [.one (.i .i64 v1.1), .one (.sl v1.2.1.length (v1.2.1.flatMap eU8))]) (M' := [.box [.fn 72 [] [.lp 1 0, .lp 2 0], .i .i64 a1], .box [.i .i64 v1.2.2], .box [.sl a3.length (a3.flatMap eU8)]]) [0, 1, 2] rfl fn78 (.func _) (opnds_cons rfl opnds_nil) (m78_enc_Reader_places_c hv1) rfl rfl (by decide) rfl rfl rfl ?_
  refine sv rfl (opv_mvt rfl) ?_
  refine sv rfl (opv_extract rfl rfl) ?_
  refine sv rfl (opv_extract rfl rfl) ?_
  refine sv rfl (opv_as rfl) ?_
  refine sv rfl (opv_as rfl) ?_
  refine snil ?_
  refine cseq ?_
  refine cseq ?_
  refine cregion ?_
  refine sv rfl (opv_mv rfl) ?_
  refine sv rfl (opv_len_sl si34 rfl) ?_
  refine sv rfl (opv_mv rfl) ?_
  refine sv rfl (opv_lss rfl rfl) ?_
  refine snil ?_
  refine ccond rfl (fun hc => ?_) (fun hc => ?_)
  · replace h := ite_t hc h
    clear hc
    refine cseq ?_
    refine cregion ?_
    refine sv rfl (opv_mv rfl) ?_
    obtain ⟨v2, hv2, h⟩ := bind_eq h
    refine scallB (x' := .tup []) (M' := [.box [.fn 72 [] [.lp 1 0, .lp 2 0], .i .i64 v2], .box [.i .i64 v1.2.2], .box [.sl a3.length (a3.flatMap eU8)]]) [0, 1, 2] rfl fn73 (.func _) (opnds_cons rfl (opnds_cons rfl opnds_nil)) (m73_enc_Reader_Fails_c hv2) rfl rfl (by decide) rfl rfl rfl ?_
    refine snil ?_
    refine cseq ?_
    refine cregion ?_
    refine sv rfl (opv_as rfl) ?_
    refine snil ?_
    refine cpub 4 rfl (by (repeat' first | exact PubA.nil _ | apply PubA.cons | apply PubV.one | apply PubV.agg | exact PubL.nil | exact PubL.id _ rfl | exact PubLs.nil _ | apply PubLs.cons)) ?_
    refine cret ?_
    refine then_ret ?_
    obtain rfl := Option.some.inj h
    exact ⟨Or.inr rfl, _, [0, 1, 2], [.one (.sl ([] : List UInt8).length (([] : List UInt8).flatMap eU8))], [.box [.fn 72 [] [.lp 1 0, .lp 2 0], .i .i64 v2], .box [.i .i64 v1.2.2], .box [.sl a3.length (a3.flatMap eU8)]], (resVs_cons (ResV.tmp _ _ rfl) resVs_nil), rfl, rfl, ⟨by decide, rfl⟩, rfl, rfl, ⟨rfl, rfl⟩⟩
  · replace h := ite_f hc h
    clear hc
    refine cskip ?_
    refine then_normal ?_
    refine cseq ?_
    refine cseq ?_
    refine cregion ?_
    refine sv rfl (opv_mv rfl) ?_
    refine sv rfl (opv_gtr rfl rfl) ?_
    refine snil ?_
    refine cjoin (Int) (fun b3 => [(1, .s (.one (.i .i64 a0))), (6, .s (.one (.sl v1.2.1.length (v1.2.1.flatMap eU8))))]) (fun b3 => [.box [.fn 72 [] [.lp 1 0, .lp 2 0], .i .i64 a1], .box [.i .i64 b3], .box [.sl a3.length (a3.flatMap eU8)]]) (fun b3 => m74_enc_Reader_takes_k3 a0 a1 v1 b3 = some r) (fun _ _ => inbL_of rfl) (fun _ _ => blkinb_of rfl) (fun _ _ => Nat.le_of_ble_eq_true rfl) (fun b3 h => ?_) ?_
    · unfold m74_enc_Reader_takes_k3 at h
      refine cseq ?_
      refine cregion ?_
      refine sv rfl (opv_mv rfl) ?_
      refine sv rfl (opv_mv rfl) ?_
      obtain ⟨c4, hc4, h⟩ := bind_eq h
      refine sv rfl (opv_cut (f := eU8) (lo := 0) (hi := a0) si34 (fun _ => rfl) rfl rfl rfl bound_none (bound_some rfl (Int.le_trans (cut_eq hc4).1.1 (cut_eq hc4).1.2.1)) hc4) ?_
      refine sv rfl (opv_as rfl) ?_
      refine snil ?_
      refine cret ?_
      obtain rfl := Option.some.inj h
      exact ⟨Or.inr rfl, _, [0, 1, 2], [.one (.sl c4.length (c4.flatMap eU8))], [.box [.fn 72 [] [.lp 1 0, .lp 2 0], .i .i64 a1], .box [.i .i64 b3], .box [.sl a3.length (a3.flatMap eU8)]], (resVs_cons (ResV.tmp _ _ rfl) resVs_nil), rfl, rfl, ⟨by decide, rfl⟩, rfl, rfl, ⟨rfl, rfl⟩⟩
    · skip
      refine ccond rfl (fun hc => ?_) (fun hc => ?_)
      · replace h := ite_t hc h
        clear hc
        refine cregion ?_
        refine sv rfl (opv_mv rfl) ?_
        refine sv rfl (opv_nilCheck rfl rfl (fun _ _ _ h => by cases h)) ?_
        refine sv rfl (opv_fieldAddr_lp fi143_0 rfl) ?_
        refine sv rfl (opv_load1 ti141 rfl (.lp _ _ _ rfl) rfl) ?_
        refine sv rfl (opv_mv rfl) ?_
        obtain ⟨v5, hv5, h⟩ := bind_eq h
        refine scallB (x' := .tup [.one (.i .i64 v5.1), .one (.sl v5.2.1.length (v5.2.1.flatMap eU8))]) (M' := [.box [.fn 72 [] [.lp 1 0, .lp 2 0], .i .i64 a1], .box [.i .i64 v5.2.2], .box [.sl a3.length (a3.flatMap eU8)]]) [1, 2] rfl fn72 (.fn _ _ _ _ rfl) (opnds_cons rfl opnds_nil) (m72_enc_New_1s_c hv5) rfl rfl (by decide) rfl rfl rfl ?_
        refine snil ?_
        exact ⟨v5.2.2, _, h, ⟨rfl, rfl, trivial⟩, rfl⟩
      · replace h := ite_f hc h
        clear hc
        refine cskip ?_
        refine then_normal ?_
        exact ⟨v1.2.2, _, h, ⟨rfl, rfl, trivial⟩, rfl⟩

def m61_enc_Reader_Us_k4 (v3 : (List UInt8) × Int × Int) (b4 : (BitVec 64)) : Option ((BitVec 64) × Int × Int) :=
  some (b4, v3.2.1, v3.2.2)

def m61_enc_Reader_Us_s5 (v3 : (List UInt8) × Int × Int) (s5 : (BitVec 64) × Int) : Option (LB ((BitVec 64) × Int) ((BitVec 64))) :=
  if (decide (s5.2 < (v3.1.length : Int))) then ((idx v3.1 s5.2).bind fun u6 => if 0 ≤ (wI (8 * s5.2)) then (some (.cont ((s5.1 ||| ((u6.toBitVec.setWidth 64) <<< (wI (8 * s5.2)).toNat)), (wI (s5.2 + 1))))) else none) else (some (.brk s5.1))

def m61_enc_Reader_Us_k2 (a0 : Int) (a1 : Int) (a2 : Int) (a3 : List UInt8) (b2 : Unit) : Option ((BitVec 64) × Int × Int) :=
  (m74_enc_Reader_takes a0 a1 a2 a3).bind fun v3 => (iterB (m61_enc_Reader_Us_s5 v3) fuel (0#64, 0)).bind fun e8 => m61_enc_Reader_Us_k4 v3 e8
def m61_enc_Reader_Us (a0 : Int) (a1 : Int) (a2 : Int) (a3 : List UInt8) : Option ((BitVec 64) × Int × Int) :=
  (m62_enc_Reader_Errs a1 a2 a3).bind fun v1 => if (!decide (v1 = 0)) then (some (0#64, a1, a2)) else (if (decide (a0 < 1)) then ((m73_enc_Reader_Fails 1 a1 a2 a3).bind fun v9 => some (0#64, v9, a2)) else (if (decide (8 < a0)) then ((m73_enc_Reader_Fails 1 a1 a2 a3).bind fun v10 => some (0#64, v10, a2)) else (m61_enc_Reader_Us_k2 a0 a1 a2 a3 ())))

set_option maxRecDepth 100000 in
theorem m61_enc_Reader_Us_c {a0 : Int} {a1 : Int} {a2 : Int} {a3 : List UInt8} {r : (BitVec 64) × Int × Int} (h : m61_enc_Reader_Us a0 a1 a2 a3 = some r) : CallsB Tryd.prog 61 [.box [.fn 72 [] [.lp 1 0, .lp 2 0], .i .i64 a1], .box [.i .i64 a2], .box [.sl a3.length (a3.flatMap eU8)]] [.one (.lp 0 0), .one (.i .i64 a0)] (fun y m' => y = .s (.one (.i .u64 (r.1.toNat : Int))) ∧ m' = [.box [.fn 72 [] [.lp 1 0, .lp 2 0], .i .i64 r.2.1], .box [.i .i64 r.2.2], .box [.sl a3.length (a3.flatMap eU8)]]) := by
  unfold m61_enc_Reader_Us at h
  refine callsB_of Tryd.func61 rfl (nt := 37) rfl (Nat.le_of_ble_eq_true rfl) ?_
  intro w0 S0 X0 H0
  refine cseq ?_
  refine cregion ?_
  refine sv rfl (opv_as rfl) ?_
  refine snil ?_
  refine cseq ?_
  refine cseq ?_
  refine cregion ?_
  refine sv rfl (opv_mv rfl) ?_
  obtain ⟨v1, hv1, h⟩ := bind_eq h
  refine scallB (x' := .s (.one (.i .i64 v1))) (M' := [.box [.fn 72 [] [.lp 1 0, .lp 2 0], .i .i64 a1], .box [.i .i64 a2], .box [.sl a3.length (a3.flatMap eU8)]]) [0, 1, 2] rfl fn62 (.func _) (opnds_cons rfl opnds_nil) (m62_enc_Reader_Errs_c hv1) rfl rfl (by decide) rfl rfl rfl ?_
  refine sv rfl (opv_ineq rfl rfl) ?_
  refine snil ?_
  refine ccond rfl (fun hc => ?_) (fun hc => ?_)
  · replace h := ite_t hc h
    clear hc
    refine cseq ?_
    refine cregion ?_
    refine sv rfl (opv_as rfl) ?_
    refine snil ?_
    refine cret ?_
    refine then_ret ?_
    obtain rfl := Option.some.inj h
    exact ⟨Or.inr rfl, _, [0, 1, 2], [.one (.i .u64 ((0#64).toNat : Int))], [.box [.fn 72 [] [.lp 1 0, .lp 2 0], .i .i64 a1], .box [.i .i64 a2], .box [.sl a3.length (a3.flatMap eU8)]], (resVs_cons (ResV.tmp _ _ rfl) resVs_nil), rfl, rfl, ⟨by decide, rfl⟩, rfl, rfl, ⟨rfl, rfl⟩⟩
  · replace h := ite_f hc h
    clear hc
    refine cskip ?_
    refine then_normal ?_
    refine cseq ?_
    refine cseq ?_
    refine cjoin3 (Unit) (fun b2 => [(0, .s (.one (.lp 0 0))), (1, .s (.one (.i .i64 a0)))]) (fun b2 => [.box [.fn 72 [] [.lp 1 0, .lp 2 0], .i .i64 a1], .box [.i .i64 a2], .box [.sl a3.length (a3.flatMap eU8)]]) (fun b2 => m61_enc_Reader_Us_k2 a0 a1 a2 a3 b2 = some r) (fun _ _ => inbL_of rfl) (fun _ _ => blkinb_of rfl) (fun _ _ => Nat.le_of_ble_eq_true rfl) (fun b2 h => ?_) ?_
    · unfold m61_enc_Reader_Us_k2 at h
      refine cseq ?_
      refine cregion ?_
      refine sv rfl (opv_as rfl) ?_
      refine snil ?_
      refine cseq ?_
      refine cseq ?_
      refine cregion ?_
      refine sv rfl (opv_mv rfl) ?_
      refine sv rfl (opv_mv rfl) ?_
      obtain ⟨v3, hv3, h⟩ := bind_eq h
      refine scallB (x' := .s (.one (.sl v3.1.length (v3.1.flatMap eU8)))) (M' := [.box [.fn 72 [] [.lp 1 0, .lp 2 0], .i .i64 v3.2.1], .box [.i .i64 v3.2.2], .box [.sl a3.length (a3.flatMap eU8)]]) [0, 1, 2] rfl fn74 (.func _) (opnds_cons rfl (opnds_cons rfl opnds_nil)) (m74_enc_Reader_takes_c hv3) rfl rfl (by decide) rfl rfl rfl ?_
      refine sv rfl (opv_len_sl si34 rfl) ?_
      refine sv rfl (opv_mv rfl) ?_
      refine snil ?_
      refine cjoin ((BitVec 64)) (fun b4 => [(5, .s (.one (.i .u64 (b4.toNat : Int))))]) (fun b4 => [.box [.fn 72 [] [.lp 1 0, .lp 2 0], .i .i64 v3.2.1], .box [.i .i64 v3.2.2], .box [.sl a3.length (a3.flatMap eU8)]]) (fun b4 => m61_enc_Reader_Us_k4 v3 b4 = some r) (fun _ _ => inbL_of rfl) (fun _ _ => blkinb_of rfl) (fun _ _ => Nat.le_of_ble_eq_true rfl) (fun b4 h => ?_) ?_
      · unfold m61_enc_Reader_Us_k4 at h
        refine cseq ?_
        refine cregion ?_
        refine sv rfl (opv_mv rfl) ?_
        refine sv rfl (opv_as rfl) ?_
        refine snil ?_
        refine cret ?_
        obtain rfl := Option.some.inj h
        exact ⟨Or.inr rfl, _, [0, 1, 2], [.one (.i .u64 (b4.toNat : Int))], [.box [.fn 72 [] [.lp 1 0, .lp 2 0], .i .i64 v3.2.1], .box [.i .i64 v3.2.2], .box [.sl a3.length (a3.flatMap eU8)]], (resVs_cons (ResV.tmp _ _ rfl) resVs_nil), rfl, rfl, ⟨by decide, rfl⟩, rfl, rfl, ⟨rfl, rfl⟩⟩
      · skip
        refine cblock ?_
        obtain ⟨x5, hx5, ho5⟩ := bind_eq h
        refine awc_loop (G := Nat × ((BitVec 64) × Int)) (fun g => [(5, .s (.one (.i .u64 (g.2.1.toNat : Int)))), (21, .s (.one (.sl v3.1.length (v3.1.flatMap eU8)))), (22, .s (.one (.i .i64 (v3.1.length : Int)))), (23, .s (.one (.i .i64 g.2.2)))]) (fun g => [.box [.fn 72 [] [.lp 1 0, .lp 2 0], .i .i64 v3.2.1], .box [.i .i64 v3.2.2], .box [.sl a3.length (a3.flatMap eU8)]]) (fun g => iterB (m61_enc_Reader_Us_s5 v3) g.1 g.2 = some x5) (fun g => g.1) (fuel, (0#64, 0)) hx5 ⟨rfl, rfl, rfl, rfl, trivial⟩ [] rfl (fun _ _ => inbL_of rfl) (fun _ _ => blkinb_of rfl) (fun _ _ => Nat.le_of_ble_eq_true rfl) ?_
        clear hx5 h
        rintro ⟨n5, s5⟩ h
        obtain ⟨n5, y5, rfl, h, hk5⟩ := iterB_eq h
        unfold m61_enc_Reader_Us_s5 at h
        refine cseq ?_
        refine cregion ?_
        refine sv rfl (opv_lss rfl rfl) ?_
        refine snil ?_
        refine cseq ?_
        refine ccond rfl (fun hc => ?_) (fun hc => ?_)
        · replace h := ite_t hc h
          clear hc
          refine cskip ?_
          refine then_normal ?_
          refine cseq ?_
          refine cblock ?_
          refine cseq ?_
          refine cregion ?_
          refine sv rfl (opv_mv rfl) ?_
          obtain ⟨u6, hu6, h⟩ := bind_eq h
          refine sv rfl (opv_ix (f := eU8) si34 (fun _ => rfl) rfl rfl rfl rfl hu6) ?_
          refine sv rfl (opv_load1 ti5 rfl (.cp _) rfl) ?_
          refine sv rfl (opv_as rfl) ?_
          refine sv rfl (opv_as rfl) ?_
          refine snil ?_
          refine cregion ?_
          refine sv rfl (opv_mv rfl) ?_
          refine sv rfl (opv_mv rfl) ?_
          refine sv rfl (opv_conv_bv (k := .u8) (a := u6.toBitVec) rfl Tryd.underlying5 Tryd.underlying37 rfl rfl) ?_
          refine sv rfl (opv_mv rfl) ?_
          refine sv rfl (opv_mul rfl rfl) ?_
          obtain ⟨hz7, h⟩ := chk_eq h
          refine sv rfl (opv_shl_u64 (a := (u6.toBitVec.setWidth 64)) rfl rfl rfl hz7) ?_
          refine sv rfl (opv_or_u64 (a := s5.1) (b := ((u6.toBitVec.setWidth 64) <<< (wI (8 * s5.2)).toNat)) rfl rfl rfl rfl) ?_
          refine sv rfl (opv_as rfl) ?_
          refine snil0 ?_
          refine block_normal ?_
          refine then_normal ?_
          refine cregion ?_
          refine sv rfl (opv_add rfl rfl) ?_
          refine sv rfl (opv_mv rfl) ?_
          refine snil ?_
          obtain rfl := Option.some.inj h
          exact ⟨(n5, ((s5.1 ||| ((u6.toBitVec.setWidth 64) <<< (wI (8 * s5.2)).toNat)), (wI (s5.2 + 1)))), _, hk5, ⟨rfl, rfl, rfl, rfl, trivial⟩, rfl, Nat.lt_succ_self _⟩
        · replace h := ite_f hc h
          clear hc
          refine cexit ?_
          refine then_exit ?_
          refine then_exit ?_
          refine block_hit ?_
          refine then_normal ?_
          obtain rfl := Option.some.inj h
          obtain rfl : _ = x5 := hk5
          exact ⟨s5.1, _, ho5, ⟨rfl, trivial⟩, rfl⟩
    · skip
      refine cregion ?_
      refine sv rfl (opv_mv rfl) ?_
      refine sv rfl (opv_lss rfl rfl) ?_
      refine sv rfl (opv_mv rfl) ?_
      refine ssplit 13 rfl (fun hc => ?_) (fun hc => ?_)
      · replace h := ite_t hc h
        clear hc
        refine soff rfl rfl rfl rfl ?_
        refine soff rfl rfl rfl rfl ?_
        refine sv rfl (opv_pick_t rfl rfl) ?_
        refine snil ?_
        refine ccond rfl (fun _ => ?_) (fun hx => Bool.noConfusion hx)
        refine cseq ?_
        refine cregion ?_
        refine sv rfl (opv_mv rfl) ?_
        obtain ⟨v9, hv9, h⟩ := bind_eq h
        refine scallB (x' := .tup []) (M' := [.box [.fn 72 [] [.lp 1 0, .lp 2 0], .i .i64 v9], .box [.i .i64 a2], .box [.sl a3.length (a3.flatMap eU8)]]) [0, 1, 2] rfl fn73 (.func _) (opnds_cons rfl (opnds_cons rfl opnds_nil)) (m73_enc_Reader_Fails_c hv9) rfl rfl (by decide) rfl rfl rfl ?_
        refine snil ?_
        refine cseq ?_
        refine cregion ?_
        refine sv rfl (opv_as rfl) ?_
        refine snil ?_
        refine cret ?_
        refine then_ret ?_
        obtain rfl := Option.some.inj h
        exact ⟨Or.inr rfl, _, [0, 1, 2], [.one (.i .u64 ((0#64).toNat : Int))], [.box [.fn 72 [] [.lp 1 0, .lp 2 0], .i .i64 v9], .box [.i .i64 a2], .box [.sl a3.length (a3.flatMap eU8)]], (resVs_cons (ResV.tmp _ _ rfl) resVs_nil), rfl, rfl, ⟨by decide, rfl⟩, rfl, rfl, ⟨rfl, rfl⟩⟩
      · replace h := ite_f hc h
        clear hc
        refine son rfl rfl rfl ?_
        refine sv rfl (opv_mv rfl) ?_
        refine son rfl rfl rfl ?_
        refine sv rfl (opv_gtr rfl rfl) ?_
        refine sv rfl (opv_pick_f rfl rfl) ?_
        refine snil ?_
        refine ccond rfl (fun hc => ?_) (fun hc => ?_)
        · replace h := ite_t hc h
          clear hc
          refine cseq ?_
          refine cregion ?_
          refine sv rfl (opv_mv rfl) ?_
          obtain ⟨v10, hv10, h⟩ := bind_eq h
          refine scallB (x' := .tup []) (M' := [.box [.fn 72 [] [.lp 1 0, .lp 2 0], .i .i64 v10], .box [.i .i64 a2], .box [.sl a3.length (a3.flatMap eU8)]]) [0, 1, 2] rfl fn73 (.func _) (opnds_cons rfl (opnds_cons rfl opnds_nil)) (m73_enc_Reader_Fails_c hv10) rfl rfl (by decide) rfl rfl rfl ?_
          refine snil ?_
          refine cseq ?_
          refine cregion ?_
          refine sv rfl (opv_as rfl) ?_
          refine snil ?_
          refine cret ?_
          refine then_ret ?_
          obtain rfl := Option.some.inj h
          exact ⟨Or.inr rfl, _, [0, 1, 2], [.one (.i .u64 ((0#64).toNat : Int))], [.box [.fn 72 [] [.lp 1 0, .lp 2 0], .i .i64 v10], .box [.i .i64 a2], .box [.sl a3.length (a3.flatMap eU8)]], (resVs_cons (ResV.tmp _ _ rfl) resVs_nil), rfl, rfl, ⟨by decide, rfl⟩, rfl, rfl, ⟨rfl, rfl⟩⟩
        · replace h := ite_f hc h
          clear hc
          refine cskip ?_
          refine then_normal ?_
          exact ⟨(), _, h, ⟨rfl, rfl, trivial⟩, rfl⟩

def m81_slices_Growo_k1 (a0 : Int) (b1 : Unit) : Option (List UInt8) :=
  if (decide (0 < (wI (a0 - (wI (0 - 0)))))) then (if 0 < (wI (a0 - (wI (0 - 0)))) ∧ (wI (a0 - (wI (0 - 0)))) * ((1 : Nat) : Int) ≤ 281474976710656 then (if (0 : Int) ≤ 0 ∧ 0 ≤ ((List.replicate (wI (a0 - (wI (0 - 0)))).toNat (0 : UInt8)).length : Int) then (some ((List.replicate (wI (a0 - (wI (0 - 0)))).toNat (0 : UInt8)).take (0 : Int).toNat)) else none) else none) else (some ([] : List UInt8))
def m81_slices_Growo (a0 : Int) : Option (List UInt8) :=
  if (decide (a0 < 0)) then none else (m81_slices_Growo_k1 a0 ())

set_option maxRecDepth 100000 in
theorem m81_slices_Growo_c {a0 : Int} {r : (List UInt8)} (h : m81_slices_Growo a0 = some r) : CallsB Tryd.prog 81 [] [.one (.raw (.slice none 0 0)), .one (.i .i64 a0)] (fun y m' => y = .s (.one (.ls 0 r.length)) ∧ m' = [.arr 5 1 0 (r.flatMap eU8)]) := by
  unfold m81_slices_Growo at h
  refine callsB_of Tryd.func81 rfl (nt := 27) rfl (Nat.le_of_ble_eq_true rfl) ?_
  intro w0 S0 X0 H0
  refine cseq ?_
  refine cregion ?_
  refine sv rfl (opv_as rfl) ?_
  refine snil ?_
  refine cseq ?_
  refine cseq ?_
  refine cregion ?_
  refine sv rfl (opv_mv rfl) ?_
  refine sv rfl (opv_lss rfl rfl) ?_
  refine snil ?_
  refine cjoin (Unit) (fun b1 => [(0, .s (.one (.raw (.slice none 0 0)))), (1, .s (.one (.i .i64 a0)))]) (fun b1 => []) (fun b1 => m81_slices_Growo_k1 a0 b1 = some r) (fun _ _ => inbL_of rfl) (fun _ _ => blkinb_of rfl) (fun _ _ => Nat.le_of_ble_eq_true rfl) (fun b1 h => ?_) ?_
  · unfold m81_slices_Growo_k1 at h
    refine cseq ?_
    refine cseq ?_
    refine cregion ?_
    refine sv rfl (opv_mv rfl) ?_
    refine sv rfl (opv_mv rfl) ?_
    refine sv rfl (opv_cap_nil si34 rfl) ?_
    refine sv rfl (opv_mv rfl) ?_
    refine sv rfl (opv_len_nil si34 rfl) ?_
    refine sv rfl (opv_sub rfl rfl) ?_
    refine sv rfl (opv_sub rfl rfl) ?_
    refine sv rfl (opv_as rfl) ?_
    refine snil ?_
    refine cseq ?_
    refine cregion ?_
    refine sv rfl (opv_mv rfl) ?_
    refine sv rfl (opv_gtr rfl rfl) ?_
    refine snil ?_
    refine ccond rfl (fun hc => ?_) (fun hc => ?_)
    · replace h := ite_t hc h
      clear hc
      refine cregion ?_
      refine sv rfl (opv_mv rfl) ?_
      refine sv rfl (opv_mv rfl) ?_
      refine sv rfl (opv_cap_nil si34 rfl) ?_
      refine sv rfl (opv_slice_nil si34 rfl rfl) ?_
      refine sv rfl (opv_mv rfl) ?_
      obtain ⟨hm2, h⟩ := chk_eq h
      refine sappz (f := eU8) (z := (0 : UInt8)) rfl Tryd.underlying34 ei5 Tryd.underlying3 (fun _ => rfl) rfl rfl rfl hm2 (by decide) ?_
      refine sv rfl (opv_mv rfl) ?_
      refine sv rfl (opv_len_nil si34 rfl) ?_
      obtain ⟨hs3, h⟩ := chk_eq h
      refine strunc (f := eU8) rfl si34 (fun _ => rfl) rfl rfl rfl rfl rfl hs3 ?_
      refine sv rfl (opv_as rfl) ?_
      refine snil ?_
      refine cseq ?_
      refine cregion ?_
      refine sv rfl (opv_mv rfl) ?_
      refine sv rfl (opv_as rfl) ?_
      refine snil ?_
      refine cret ?_
      obtain rfl := Option.some.inj h
      exact ⟨Or.inr rfl, _, [1], [.one (.ls 0 ((List.replicate (wI (a0 - (wI (0 - 0)))).toNat (0 : UInt8)).take (0 : Int).toNat).length)], [.arr 5 1 0 (((List.replicate (wI (a0 - (wI (0 - 0)))).toNat (0 : UInt8)).take (0 : Int).toNat).flatMap eU8)], (resVs_cons (ResV.tmp _ _ rfl) resVs_nil), rfl, rfl, ⟨by decide, rfl⟩, rfl, rfl, ⟨rfl, rfl⟩⟩
    · replace h := ite_f hc h
      clear hc
      refine cskip ?_
      refine then_normal ?_
      refine cseq ?_
      refine cregion ?_
      refine sv rfl (opv_mv rfl) ?_
      refine sv rfl (opv_as rfl) ?_
      refine snil ?_
      refine sadopt_c 5 1 4 (by decide) rfl ?_
      refine cret ?_
      obtain rfl := Option.some.inj h
      exact ⟨Or.inr rfl, _, [0], [.one (.ls 0 ([] : List UInt8).length)], [.arr 5 1 0 (([] : List UInt8).flatMap eU8)], (resVs_cons (ResV.tmp _ _ rfl) resVs_nil), rfl, rfl, ⟨by decide, rfl⟩, rfl, rfl, ⟨rfl, rfl⟩⟩
  · skip
    refine ccond rfl (fun hc => ?_) (fun hc => ?_)
    · replace h := ite_t hc h
      clear hc
      cases h
    · replace h := ite_f hc h
      clear hc
      refine cskip ?_
      refine then_normal ?_
      exact ⟨(), _, h, ⟨rfl, rfl, trivial⟩, rfl⟩

def m79_slices_Concato_k3 (b3 : (List UInt8)) : Option (List UInt8) :=
  some b3

def m79_slices_Concato_s4 (a0 : List (List UInt8)) (s4 : Int × (List UInt8)) : Option (LB (Int × (List UInt8)) ((List UInt8))) :=
  if (decide (s4.1 < (a0.length : Int))) then ((idx a0 s4.1).bind fun u5 => if (s4.2.length + u5.length) * 1 ≤ 140737488355328 then (some (.cont ((wI (s4.1 + 1)), (s4.2 ++ u5)))) else none) else (some (.brk s4.2))

def m79_slices_Concato_k1 (a0 : List (List UInt8)) (b1 : Int) : Option (List UInt8) :=
  (m81_slices_Growo b1).bind fun v2 => (iterB (m79_slices_Concato_s4 a0) fuel (0, v2)).bind fun e7 => m79_slices_Concato_k3 e7

def m79_slices_Concato_s8 (a0 : List (List UInt8)) (s8 : Int × Int) : Option (LB (Int × Int) (Int)) :=
  if (decide (s8.2 < (a0.length : Int))) then ((idx a0 s8.2).bind fun u9 => if (decide ((wI (s8.1 + (u9.length : Int))) < 0)) then none else (some (.cont ((wI (s8.1 + (u9.length : Int))), (wI (s8.2 + 1)))))) else (some (.brk s8.1))
def m79_slices_Concato (a0 : List (List UInt8)) : Option (List UInt8) :=
  (iterB (m79_slices_Concato_s8 a0) fuel (0, 0)).bind fun e10 => m79_slices_Concato_k1 a0 e10

set_option maxRecDepth 100000 in
theorem m79_slices_Concato_c {a0 : List (List UInt8)} {r : (List UInt8)} (h : m79_slices_Concato a0 = some r) : CallsB Tryd.prog 79 [] [.one (.sl a0.length (a0.flatMap (eL eU8)))] (fun y m' => y = .s (.one (.ls 0 r.length)) ∧ m' = [.arr 5 1 0 (r.flatMap eU8)]) := by
  unfold m79_slices_Concato at h
  refine callsB_of Tryd.func79 rfl (nt := 36) rfl (Nat.le_of_ble_eq_true rfl) ?_
  intro w0 S0 X0 H0
  refine cseq ?_
  refine cregion ?_
  refine sv rfl (opv_as rfl) ?_
  refine snil ?_
  refine cseq ?_
  refine cregion ?_
  refine sv rfl (opv_as rfl) ?_
  refine snil ?_
  refine cseq ?_
  refine cseq ?_
  refine cregion ?_
  refine sv rfl (opv_mv rfl) ?_
  refine sv rfl (opv_len_sl si155 rfl) ?_
  refine sv rfl (opv_mv rfl) ?_
  refine snil ?_
  refine cjoin (Int) (fun b1 => [(0, .s (.one (.sl a0.length (a0.flatMap (eL eU8))))), (3, .s (.one (.i .i64 b1)))]) (fun b1 => []) (fun b1 => m79_slices_Concato_k1 a0 b1 = some r) (fun _ _ => inbL_of rfl) (fun _ _ => blkinb_of rfl) (fun _ _ => Nat.le_of_ble_eq_true rfl) (fun b1 h => ?_) ?_
  · unfold m79_slices_Concato_k1 at h
    refine cseq ?_
    refine cregion ?_
    refine sv rfl (opv_mv rfl) ?_
    obtain ⟨v2, hv2, h⟩ := bind_eq h
    refine scallB (x' := .s (.one (.ls 0 v2.length))) (M' := [.arr 5 1 0 (v2.flatMap eU8)]) [] rfl fn81 (.func _) (opnds_cons rfl (opnds_cons rfl opnds_nil)) (m81_slices_Growo_c hv2) rfl rfl (by decide) rfl rfl rfl ?_
    refine sv rfl (opv_as rfl) ?_
    refine snil ?_
    refine cseq ?_
    refine cseq ?_
    refine cregion ?_
    refine sv rfl (opv_mv rfl) ?_
    refine sv rfl (opv_len_sl si155 rfl) ?_
    refine sv rfl (opv_mv rfl) ?_
    refine snil ?_
    refine cjoin ((List UInt8)) (fun b3 => [(6, .s (.one (.ls 0 b3.length)))]) (fun b3 => [.arr 5 1 0 (b3.flatMap eU8)]) (fun b3 => m79_slices_Concato_k3 b3 = some r) (fun _ _ => inbL_of rfl) (fun _ _ => blkinb_of rfl) (fun _ _ => Nat.le_of_ble_eq_true rfl) (fun b3 h => ?_) ?_
    · unfold m79_slices_Concato_k3 at h
      refine cseq ?_
      refine cregion ?_
      refine sv rfl (opv_mv rfl) ?_
      refine sv rfl (opv_as rfl) ?_
      refine snil ?_
      refine cret ?_
      obtain rfl := Option.some.inj h
      exact ⟨Or.inr rfl, _, [0], [.one (.ls 0 b3.length)], [.arr 5 1 0 (b3.flatMap eU8)], (resVs_cons (ResV.tmp _ _ rfl) resVs_nil), rfl, rfl, ⟨by decide, rfl⟩, rfl, rfl, ⟨rfl, rfl⟩⟩
    · skip
      refine cblock ?_
      obtain ⟨x4, hx4, ho4⟩ := bind_eq h
      refine awc_loop (G := Nat × (Int × (List UInt8))) (fun g => [(6, .s (.one (.ls 0 g.2.2.length))), (25, .s (.one (.sl a0.length (a0.flatMap (eL eU8))))), (26, .s (.one (.i .i64 (a0.length : Int)))), (27, .s (.one (.i .i64 g.2.1)))]) (fun g => [.arr 5 1 0 (g.2.2.flatMap eU8)]) (fun g => iterB (m79_slices_Concato_s4 a0) g.1 g.2 = some x4) (fun g => g.1) (fuel, (0, v2)) hx4 ⟨rfl, rfl, rfl, rfl, trivial⟩ [] rfl (fun _ _ => inbL_of rfl) (fun _ _ => blkinb_of rfl) (fun _ _ => Nat.le_of_ble_eq_true rfl) ?_
      clear hx4 h
      rintro ⟨n4, s4⟩ h
      obtain ⟨n4, y4, rfl, h, hk4⟩ := iterB_eq h
      unfold m79_slices_Concato_s4 at h
      refine cseq ?_
      refine cregion ?_
      refine sv rfl (opv_lss rfl rfl) ?_
      refine snil ?_
      refine cseq ?_
      refine ccond rfl (fun hc => ?_) (fun hc => ?_)
      · replace h := ite_t hc h
        clear hc
        refine cskip ?_
        refine then_normal ?_
        refine cseq ?_
        refine cblock ?_
        refine cseq ?_
        refine cregion ?_
        obtain ⟨u5, hu5, h⟩ := bind_eq h
        refine sv rfl (opv_ix (f := (eL eU8)) si155 (fun _ => rfl) rfl rfl rfl rfl hu5) ?_
        refine sv rfl (opv_load1 ti34 rfl (.cp _) rfl) ?_
        refine sv rfl (opv_as rfl) ?_
        refine snil ?_
        refine cregion ?_
        refine sv rfl (opv_mv rfl) ?_
        refine sv rfl (opv_mv rfl) ?_
        obtain ⟨hb6, h⟩ := chk_eq h
        refine sapp (f := eU8) (xs := s4.2) (us := u5) rfl Tryd.underlying34 ei5 ni34 (fun _ => rfl) rfl rfl (.one _ _ _ _ (.id _ rfl)) rfl rfl rfl (.sl _ _ _ (flat_len (f := eU8) (fun _ => rfl) _)) rfl rfl hb6 (by decide) ?_
        refine sv rfl (opv_as rfl) ?_
        refine snil0 ?_
        refine block_normal ?_
        refine then_normal ?_
        refine cregion ?_
        refine sv rfl (opv_add rfl rfl) ?_
        refine sv rfl (opv_mv rfl) ?_
        refine snil ?_
        obtain rfl := Option.some.inj h
        exact ⟨(n4, ((wI (s4.1 + 1)), (s4.2 ++ u5))), _, hk4, ⟨rfl, rfl, rfl, rfl, trivial⟩, rfl, Nat.lt_succ_self _⟩
      · replace h := ite_f hc h
        clear hc
        refine cexit ?_
        refine then_exit ?_
        refine then_exit ?_
        refine block_hit ?_
        refine then_normal ?_
        obtain rfl := Option.some.inj h
        obtain rfl : _ = x4 := hk4
        exact ⟨s4.2, _, ho4, ⟨rfl, trivial⟩, rfl⟩
  · skip
    refine cblock ?_
    obtain ⟨x8, hx8, ho8⟩ := bind_eq h
    refine awc_loop (G := Nat × (Int × Int)) (fun g => [(0, .s (.one (.sl a0.length (a0.flatMap (eL eU8))))), (3, .s (.one (.i .i64 g.2.1))), (9, .s (.one (.sl a0.length (a0.flatMap (eL eU8))))), (10, .s (.one (.i .i64 (a0.length : Int)))), (11, .s (.one (.i .i64 g.2.2)))]) (fun g => []) (fun g => iterB (m79_slices_Concato_s8 a0) g.1 g.2 = some x8) (fun g => g.1) (fuel, (0, 0)) hx8 ⟨rfl, rfl, rfl, rfl, rfl, trivial⟩ [] rfl (fun _ _ => inbL_of rfl) (fun _ _ => blkinb_of rfl) (fun _ _ => Nat.le_of_ble_eq_true rfl) ?_
    clear hx8 h
    rintro ⟨n8, s8⟩ h
    obtain ⟨n8, y8, rfl, h, hk8⟩ := iterB_eq h
    unfold m79_slices_Concato_s8 at h
    refine cseq ?_
    refine cregion ?_
    refine sv rfl (opv_lss rfl rfl) ?_
    refine snil ?_
    refine cseq ?_
    refine ccond rfl (fun hc => ?_) (fun hc => ?_)
    · replace h := ite_t hc h
      clear hc
      refine cskip ?_
      refine then_normal ?_
      refine cseq ?_
      refine cblock ?_
      refine cseq ?_
      refine cregion ?_
      obtain ⟨u9, hu9, h⟩ := bind_eq h
      refine sv rfl (opv_ix (f := (eL eU8)) si155 (fun _ => rfl) rfl rfl rfl rfl hu9) ?_
      refine sv rfl (opv_load1 ti34 rfl (.cp _) rfl) ?_
      refine sv rfl (opv_as rfl) ?_
      refine snil ?_
      refine cseq ?_
      refine cregion ?_
      refine sv rfl (opv_mv rfl) ?_
      refine sv rfl (opv_mv rfl) ?_
      refine sv rfl (opv_len_sl si34 rfl) ?_
      refine sv rfl (opv_add rfl rfl) ?_
      refine sv rfl (opv_as rfl) ?_
      refine snil ?_
      refine cseq ?_
      refine cregion ?_
      refine sv rfl (opv_mv rfl) ?_
      refine sv rfl (opv_lss rfl rfl) ?_
      refine snil ?_
      refine ccond rfl (fun hc => ?_) (fun hc => ?_)
      · replace h := ite_t hc h
        clear hc
        cases h
      · replace h := ite_f hc h
        clear hc
        refine cskip ?_
        refine block_normal ?_
        refine then_normal ?_
        refine cregion ?_
        refine sv rfl (opv_add rfl rfl) ?_
        refine sv rfl (opv_mv rfl) ?_
        refine snil ?_
        obtain rfl := Option.some.inj h
        exact ⟨(n8, ((wI (s8.1 + (u9.length : Int))), (wI (s8.2 + 1)))), _, hk8, ⟨rfl, rfl, rfl, rfl, rfl, trivial⟩, rfl, Nat.lt_succ_self _⟩
    · replace h := ite_f hc h
      clear hc
      refine cexit ?_
      refine then_exit ?_
      refine then_exit ?_
      refine block_hit ?_
      refine then_normal ?_
      obtain rfl := Option.some.inj h
      obtain rfl : _ = x8 := hk8
      exact ⟨s8.1, _, ho8, ⟨rfl, rfl, trivial⟩, rfl⟩

def m75_enc_U_k2 (a0 : List UInt8) (b2 : (List UInt8)) : Option (List UInt8) :=
  (m79_slices_Concato [a0, b2]).bind fun v3 => some v3

def m75_enc_U_s4 (a1 : BitVec 64) (a2 : Int) (s4 : Int × (List UInt8)) : Option (LB (Int × (List UInt8)) ((List UInt8))) :=
  if (decide (s4.1 < ((List.replicate (if (if 8 < a2 then 8 else a2) > 0 then (if 8 < a2 then 8 else a2) else 0).toNat (0 : UInt8)).length : Int))) then (if 0 ≤ (wI (8 * s4.1)) then ((idx s4.2 s4.1).bind fun u6 => some (.cont ((wI (s4.1 + 1)), (s4.2.set s4.1.toNat (UInt8.ofBitVec ((a1 >>> (wI (8 * s4.1)).toNat).setWidth 8)))))) else none) else (some (.brk s4.2))
def m75_enc_U (a0 : List UInt8) (a1 : BitVec 64) (a2 : Int) : Option (List UInt8) :=
  if (0 : Int) ≤ (if (if 8 < a2 then 8 else a2) > 0 then (if 8 < a2 then 8 else a2) else 0) ∧ (if (if 8 < a2 then 8 else a2) > 0 then (if 8 < a2 then 8 else a2) else 0) ≤ (if (if 8 < a2 then 8 else a2) > 0 then (if 8 < a2 then 8 else a2) else 0) ∧ ((1 : Nat) : Int) * (if (if 8 < a2 then 8 else a2) > 0 then (if 8 < a2 then 8 else a2) else 0) ≤ 281474976710656 then ((iterB (m75_enc_U_s4 a1 a2) fuel (0, (List.replicate (if (if 8 < a2 then 8 else a2) > 0 then (if 8 < a2 then 8 else a2) else 0).toNat (0 : UInt8)))).bind fun e7 => m75_enc_U_k2 a0 e7) else none

set_option maxRecDepth 100000 in
theorem m75_enc_U_c {a0 : List UInt8} {a1 : BitVec 64} {a2 : Int} {r : (List UInt8)} (h : m75_enc_U a0 a1 a2 = some r) : CallsA Tryd.prog 75 [.one (.sl a0.length (a0.flatMap eU8)), .one (.i .u64 (a1.toNat : Int)), .one (.i .i64 a2)] (· = .s (.one (.sl r.length (r.flatMap eU8)))) := by
  unfold m75_enc_U at h
  refine callsA_of Tryd.func75 rfl (nt := 32) rfl (Nat.le_of_ble_eq_true rfl) ?_
  intro w0 S0
  refine cseq ?_
  refine cregion ?_
  refine sv rfl (opv_as rfl) ?_
  refine snil ?_
  refine cseq ?_
  refine cregion ?_
  refine sv rfl (opv_mv rfl) ?_
  refine sv rfl (opv_min rfl rfl) ?_
  refine sv rfl (opv_max rfl rfl) ?_
  refine sv rfl (opv_as rfl) ?_
  refine snil ?_
  refine cseq ?_
  refine cregion ?_
  refine sv rfl (opv_mv rfl) ?_
  obtain ⟨hm1, h⟩ := chk_eq h
  refine smk (f := eU8) (z := (0 : UInt8)) rfl Tryd.underlying34 ei5 (fun _ => rfl) rfl rfl rfl hm1 (by decide) ?_
  refine sv rfl (opv_as rfl) ?_
  refine snil ?_
  refine cseq ?_
  refine cseq ?_
  refine cregion ?_
  refine sv rfl (opv_mv rfl) ?_
  refine sv rfl (opv_len_ls si34 rfl rfl (flat_len (f := eU8) (fun _ => rfl) _).symm) ?_
  refine sv rfl (opv_mv rfl) ?_
  refine snil ?_
  refine cjoin ((List UInt8)) (fun b2 => [(0, .s (.one (.sl a0.length (a0.flatMap eU8)))), (7, .s (.one (.ls 0 b2.length)))]) (fun b2 => [.arr 5 1 0 (b2.flatMap eU8)]) (fun b2 => m75_enc_U_k2 a0 b2 = some r) (fun _ _ => inbL_of rfl) (fun _ _ => blkinb_of rfl) (fun _ _ => Nat.le_of_ble_eq_true rfl) (fun b2 h => ?_) ?_
  · unfold m75_enc_U_k2 at h
    refine cseq ?_
    refine cregion ?_
    refine sv rfl (opv_mv rfl) ?_
    refine sv rfl (opv_mv rfl) ?_
    refine spub 29 rfl (by (repeat' first | exact PubA.nil _ | apply PubA.cons | apply PubV.one | apply PubV.agg | exact PubL.nil | exact PubL.ls _ _ _ _ _ _ rfl (flat_len (f := eU8) (fun _ => rfl) _).symm | exact PubL.id _ rfl | exact PubLs.nil _ | apply PubLs.cons)) ?_
    refine sbuildN (out := ([a0, b2] : List (List UInt8)).flatMap (eL eU8)) rfl Tryd.underlying155 ei34 (parts_cons rfl (parts_cons rfl parts_nil)) (.cons _ _ _ _ _ _ _ rfl rfl (Nat.le_of_ble_eq_true rfl) (.cons _ _ _ _ _ _ _ rfl rfl (Nat.le_of_ble_eq_true rfl) (.nil _))) rfl (by decide) ?_
    refine spub 30 rfl (by (repeat' first | exact PubA.nil _ | apply PubA.cons | apply PubV.one | apply PubV.agg | exact PubL.nil | exact PubL.ls _ _ _ _ _ _ rfl (flat_len (f := (eL eU8)) (fun _ => rfl) ([a0, b2] : List (List UInt8))).symm | exact PubL.ls _ _ _ _ _ _ rfl (flat_len (f := (eL eU8)) (fun _ => rfl) _).symm | exact PubL.ls _ _ _ _ _ _ rfl (flat_len (f := eU8) (fun _ => rfl) _).symm | exact PubL.id _ rfl | exact PubLs.nil _ | apply PubLs.cons)) ?_
    obtain ⟨v3, hv3, h⟩ := bind_eq h
    refine scallB (x' := .s (.one (.ls 2 v3.length))) (M' := [.arr 5 1 (b2.flatMap eU8).length (b2.flatMap eU8), .arr 34 1 ([a0, b2].flatMap (eL eU8)).length ([a0, b2].flatMap (eL eU8)), .arr 5 1 0 (v3.flatMap eU8)]) [] rfl fn79 (.func _) (opnds_cons rfl opnds_nil) (m79_slices_Concato_c hv3) rfl rfl (by decide) rfl rfl rfl ?_
    refine sv rfl (opv_as rfl) ?_
    refine snil ?_
    refine cret ?_
    obtain rfl := Option.some.inj h
    refine ⟨Or.inr rfl, _, _, _, (resVs_cons (ResV.tmp _ _ rfl) resVs_nil), (by (repeat' first | exact PubA.nil _ | apply PubA.cons | apply PubV.one | apply PubV.agg | exact PubL.nil | exact PubL.ls _ _ _ _ _ _ rfl (flat_len (f := (eL eU8)) (fun _ => rfl) _).symm | exact PubL.ls _ _ _ _ _ _ rfl (flat_len (f := eU8) (fun _ => rfl) _).symm | exact PubL.id _ rfl | exact PubLs.nil _ | apply PubLs.cons)), ?_⟩
    rfl
  · skip
    refine cblock ?_
    obtain ⟨x4, hx4, ho4⟩ := bind_eq h
    refine awc_loop (G := Nat × (Int × (List UInt8))) (fun g => [(0, .s (.one (.sl a0.length (a0.flatMap eU8)))), (1, .s (.one (.i .u64 (a1.toNat : Int)))), (7, .s (.one (.ls 0 g.2.2.length))), (15, .s (.one (.i .i64 ((List.replicate (if (if 8 < a2 then 8 else a2) > 0 then (if 8 < a2 then 8 else a2) else 0).toNat (0 : UInt8)).length : Int)))), (16, .s (.one (.i .i64 g.2.1)))]) (fun g => [.arr 5 1 0 (g.2.2.flatMap eU8)]) (fun g => iterB (m75_enc_U_s4 a1 a2) g.1 g.2 = some x4) (fun g => g.1) (fuel, (0, (List.replicate (if (if 8 < a2 then 8 else a2) > 0 then (if 8 < a2 then 8 else a2) else 0).toNat (0 : UInt8)))) hx4 ⟨rfl, rfl, rfl, rfl, rfl, trivial⟩ [] rfl (fun _ _ => inbL_of rfl) (fun _ _ => blkinb_of rfl) (fun _ _ => Nat.le_of_ble_eq_true rfl) ?_
    clear hx4 h
    rintro ⟨n4, s4⟩ h
    obtain ⟨n4, y4, rfl, h, hk4⟩ := iterB_eq h
    unfold m75_enc_U_s4 at h
    refine cseq ?_
    refine cregion ?_
    refine sv rfl (opv_lss rfl rfl) ?_
    refine snil ?_
    refine cseq ?_
    refine ccond rfl (fun hc => ?_) (fun hc => ?_)
    · replace h := ite_t hc h
      clear hc
      refine cskip ?_
      refine then_normal ?_
      refine cseq ?_
      refine cblock ?_
      refine cseq ?_
      refine cregion ?_
      refine sv rfl (opv_mv rfl) ?_
      refine sv rfl (opv_as rfl) ?_
      refine snil ?_
      refine cregion ?_
      refine sv rfl (opv_mv rfl) ?_
      refine sv rfl (opv_mv rfl) ?_
      refine sv rfl (opv_mv rfl) ?_
      refine sv rfl (opv_mv rfl) ?_
      refine sv rfl (opv_mul rfl rfl) ?_
      obtain ⟨hz5, h⟩ := chk_eq h
      refine sv rfl (opv_shr_u64 (a := a1) rfl rfl rfl hz5) ?_
      refine sv rfl (opv_conv_bv (k := .u64) (a := (a1 >>> (wI (8 * s4.1)).toNat)) rfl Tryd.underlying37 Tryd.underlying5 rfl rfl) ?_
      obtain ⟨u6, hu6, h⟩ := bind_eq h
      refine sv rfl (opv_ixo (f := eU8) si34 (fun _ => rfl) rfl rfl rfl rfl rfl hu6) ?_
      refine sseto (f := eU8) (u' := (UInt8.ofBitVec ((a1 >>> (wI (8 * s4.1)).toNat).setWidth 8))) (sz := 1) 0 sz5 (fun _ => rfl) rfl rfl rfl rfl rfl rfl rfl (List.all_eq_true.1 rfl) (idx_eq hu6).2 (Nat.le_of_ble_eq_true rfl) rfl ?_
      refine stell 7 (y := .s (.one (.ls 0 s4.2.length))) (.s (.one (.ls 0 (s4.2.set s4.1.toNat (UInt8.ofBitVec ((a1 >>> (wI (8 * s4.1)).toNat).setWidth 8))).length))) rfl (congrArg (fun n => AV.s (.one (.ls 0 n))) List.length_set.symm) ?_
      refine stell 19 (y := .s (.one (.ls 0 s4.2.length))) (.s (.one (.ls 0 (s4.2.set s4.1.toNat (UInt8.ofBitVec ((a1 >>> (wI (8 * s4.1)).toNat).setWidth 8))).length))) rfl (congrArg (fun n => AV.s (.one (.ls 0 n))) List.length_set.symm) ?_
      refine snil0 ?_
      refine block_normal ?_
      refine then_normal ?_
      refine cregion ?_
      refine sv rfl (opv_add rfl rfl) ?_
      refine sv rfl (opv_mv rfl) ?_
      refine snil ?_
      obtain rfl := Option.some.inj h
      exact ⟨(n4, ((wI (s4.1 + 1)), (s4.2.set s4.1.toNat (UInt8.ofBitVec ((a1 >>> (wI (8 * s4.1)).toNat).setWidth 8))))), _, hk4, ⟨rfl, rfl, rfl, rfl, rfl, trivial⟩, rfl, Nat.lt_succ_self _⟩
    · replace h := ite_f hc h
      clear hc
      refine cexit ?_
      refine then_exit ?_
      refine then_exit ?_
      refine block_hit ?_
      refine then_normal ?_
      obtain rfl := Option.some.inj h
      obtain rfl : _ = x4 := hk4
      exact ⟨s4.2, _, ho4, ⟨rfl, rfl, trivial⟩, rfl⟩

def m82_crc_step (a0 : BitVec 32) : Option (BitVec 32) :=
  if (decide (((a0 &&& (1#32)).toNat : Int) = (1 : Int))) then (some ((a0 >>> (1 : Int).toNat) ^^^ (3988292384#32))) else (some (a0 >>> (1 : Int).toNat))

set_option maxRecDepth 100000 in
theorem m82_crc_step_c {a0 : BitVec 32} {r : (BitVec 32)} (h : m82_crc_step a0 = some r) : CallsA Tryd.prog 82 [.one (.i .u32 (a0.toNat : Int))] (· = .s (.one (.i .u32 (r.toNat : Int)))) := by
  unfold m82_crc_step at h
  refine callsA_of Tryd.func82 rfl (nt := 11) rfl (Nat.le_of_ble_eq_true rfl) ?_
  intro w0 S0
  refine cseq ?_
  refine cregion ?_
  refine sv rfl (opv_as rfl) ?_
  refine snil ?_
  refine cseq ?_
  refine cseq ?_
  refine cregion ?_
  refine sv rfl (opv_mv rfl) ?_
  refine sv rfl (opv_and_u32 (a := a0) (b := 1#32) rfl rfl rfl rfl) ?_
  refine sv rfl (opv_ieql rfl rfl) ?_
  refine snil ?_
  refine ccond rfl (fun hc => ?_) (fun hc => ?_)
  · replace h := ite_t hc h
    clear hc
    refine cseq ?_
    refine cregion ?_
    refine sv rfl (opv_mv rfl) ?_
    refine sv rfl (opv_shr_u32 (a := a0) rfl rfl rfl (by decide)) ?_
    refine sv rfl (opv_xor_u32 (a := (a0 >>> (1 : Int).toNat)) (b := 3988292384#32) rfl rfl rfl rfl) ?_
    refine sv rfl (opv_as rfl) ?_
    refine snil ?_
    refine cret ?_
    refine then_ret ?_
    obtain rfl := Option.some.inj h
    refine ⟨Or.inr rfl, _, _, _, (resVs_cons (ResV.tmp _ _ rfl) resVs_nil), (pubA_id rfl), ?_⟩
    rfl
  · replace h := ite_f hc h
    clear hc
    refine cskip ?_
    refine then_normal ?_
    refine cseq ?_
    refine cregion ?_
    refine sv rfl (opv_mv rfl) ?_
    refine sv rfl (opv_shr_u32 (a := a0) rfl rfl rfl (by decide)) ?_
    refine sv rfl (opv_as rfl) ?_
    refine snil ?_
    refine cret ?_
    obtain rfl := Option.some.inj h
    refine ⟨Or.inr rfl, _, _, _, (resVs_cons (ResV.tmp _ _ rfl) resVs_nil), (pubA_id rfl), ?_⟩
    rfl

def m80_crc_Table_k1 (b1 : (List (BitVec 32))) : Option (List (BitVec 32)) :=
  if b1.length = 256 then (if (List.replicate 256 0#32).length = 256 then (if b1.length = 256 then (if b1.length = 256 then (some b1) else none) else none) else none) else none

def m80_crc_Table_k6 (s5 : Int × (List (BitVec 32))) (b6 : (BitVec 32)) : Option (LB (Int × (List (BitVec 32))) ((List (BitVec 32)))) :=
  if 0 ≤ s5.1 ∧ s5.1 < ((256 : Nat) : Int) then ((idx s5.2 s5.1).bind fun u8 => some (.cont ((wI (s5.1 + 1)), (s5.2.set s5.1.toNat b6)))) else none

def m80_crc_Table_s9 (s9 : (BitVec 32) × Int) : Option (LB ((BitVec 32) × Int) ((BitVec 32))) :=
  if (decide (s9.2 < 8)) then ((m82_crc_step s9.1).bind fun v10 => some (.cont (v10, (wI (s9.2 + 1))))) else (some (.brk s9.1))

def m80_crc_Table_s5 (s5 : Int × (List (BitVec 32))) : Option (LB (Int × (List (BitVec 32))) ((List (BitVec 32)))) :=
  if (decide (s5.1 < 256)) then ((iterB m80_crc_Table_s9 fuel ((BitVec.ofInt 32 s5.1), 0)).bind fun e11 => m80_crc_Table_k6 s5 e11) else (some (.brk s5.2))
def m80_crc_Table  : Option (List (BitVec 32)) :=
  (iterB m80_crc_Table_s5 fuel (0, (List.replicate 256 0#32))).bind fun e12 => m80_crc_Table_k1 e12

set_option maxRecDepth 100000 in
theorem m80_crc_Table_c  {r : (List (BitVec 32))} (h : m80_crc_Table = some r) : CallsA Tryd.prog 80 [] (· = .s (.agg (r.flatMap eU32))) := by
  unfold m80_crc_Table at h
  refine callsA_of Tryd.func80 rfl (nt := 19) rfl (Nat.le_of_ble_eq_true rfl) ?_
  intro w0 S0
  refine cseq ?_
  refine cregion ?_
  refine salloc rfl zi152 ?_
  refine snil ?_
  refine cseq ?_
  refine cregion ?_
  refine salloc rfl zi152 ?_
  refine snil ?_
  refine cseq ?_
  refine cseq ?_
  refine cregion ?_
  refine sv rfl (opv_mv rfl) ?_
  refine snil ?_
  refine cjoin ((List (BitVec 32))) (fun b1 => [(0, .s (.one (.lp 0 0))), (1, .s (.one (.lp 1 0)))]) (fun b1 => [.box ((List.replicate 256 0#32).flatMap eU32), .box (b1.flatMap eU32)]) (fun b1 => m80_crc_Table_k1 b1 = some r) (fun _ _ => inbL_of rfl) (fun _ _ => blkinb_of (by simp only [List.all_cons, List.all_nil, Blk.inbB, Lf.inbB, Lf.inb0, Bool.and_true, Bool.and_self, Bool.true_and, flat_inb (f := eU32) (fun _ _ => rfl)] <;> rfl)) (fun _ _ => Nat.le_of_ble_eq_true rfl) (fun b1 h => ?_) ?_
  · unfold m80_crc_Table_k1 at h
    refine cseq ?_
    refine cregion ?_
    obtain ⟨hl2, h⟩ := chk_eq h
    refine sv rfl (opv_ldall (f := eU32) (n := 256) ti152 (fun _ => rfl) rfl rfl rfl hl2) ?_
    obtain ⟨hl3, h⟩ := chk_eq h
    obtain ⟨hl4, h⟩ := chk_eq h
    refine sstall (f := eU32) (n := 256) sz152 (fun _ => rfl) rfl rfl rfl rfl hl3 hl4 ?_
    refine smem [.box (b1.flatMap eU32), .box (b1.flatMap eU32)] rfl ?_
    refine snil ?_
    refine cret ?_
    obtain ⟨hlr, h⟩ := chk_eq h
    obtain rfl := Option.some.inj h
    refine ⟨Or.inr rfl, _, _, _, (resVs_cons (resv_arr (f := eU32) (n := 256) (fun _ => rfl) ti152 rfl rfl rfl hlr) resVs_nil), (pubA_id (by simp [List.all_cons, pub_agg (f := eU32) (fun _ => rfl), SV.cells])), ?_⟩
    rfl
  · skip
    refine cblock ?_
    obtain ⟨x5, hx5, ho5⟩ := bind_eq h
    refine awc_loop (G := Nat × (Int × (List (BitVec 32)))) (fun g => [(0, .s (.one (.lp 0 0))), (1, .s (.one (.lp 1 0))), (4, .s (.one (.i .i64 g.2.1)))]) (fun g => [.box ((List.replicate 256 0#32).flatMap eU32), .box (g.2.2.flatMap eU32)]) (fun g => iterB m80_crc_Table_s5 g.1 g.2 = some x5) (fun g => g.1) (fuel, (0, (List.replicate 256 0#32))) hx5 ⟨rfl, rfl, rfl, trivial⟩ [] rfl (fun _ _ => inbL_of rfl) (fun _ _ => blkinb_of (by simp only [List.all_cons, List.all_nil, Blk.inbB, Lf.inbB, Lf.inb0, Bool.and_true, Bool.and_self, Bool.true_and, flat_inb (f := eU32) (fun _ _ => rfl)] <;> rfl)) (fun _ _ => Nat.le_of_ble_eq_true rfl) ?_
    clear hx5 h
    rintro ⟨n5, s5⟩ h
    obtain ⟨n5, y5, rfl, h, hk5⟩ := iterB_eq h
    unfold m80_crc_Table_s5 at h
    refine cseq ?_
    refine cregion ?_
    refine sv rfl (opv_lss rfl rfl) ?_
    refine snil ?_
    refine cseq ?_
    refine ccond rfl (fun hc => ?_) (fun hc => ?_)
    · replace h := ite_t hc h
      clear hc
      refine cskip ?_
      refine then_normal ?_
      refine cseq ?_
      refine cblock ?_
      refine cseq ?_
      refine cregion ?_
      refine sv rfl (opv_mv rfl) ?_
      refine sv rfl (opv_as rfl) ?_
      refine snil ?_
      refine cseq ?_
      refine cregion ?_
      refine sv rfl (opv_mv rfl) ?_
      refine sv rfl (opv_conv_ibv rfl Tryd.underlying3 Tryd.underlying116 rfl) ?_
      refine sv rfl (opv_as rfl) ?_
      refine snil ?_
      refine cseq ?_
      refine cseq ?_
      refine cregion ?_
      refine sv rfl (opv_mv rfl) ?_
      refine snil ?_
      refine cjoin ((BitVec 32)) (fun b6 => [(0, .s (.one (.lp 0 0))), (1, .s (.one (.lp 1 0))), (2, .s (.one (.i .i64 s5.1))), (3, .s (.one (.i .u32 (b6.toNat : Int)))), (4, .s (.one (.i .i64 s5.1)))]) (fun b6 => [.box ((List.replicate 256 0#32).flatMap eU32), .box (s5.2.flatMap eU32)]) (fun b6 => m80_crc_Table_k6 s5 b6 = some y5) (fun _ _ => inbL_of rfl) (fun _ _ => blkinb_of (by simp only [List.all_cons, List.all_nil, Blk.inbB, Lf.inbB, Lf.inb0, Bool.and_true, Bool.and_self, Bool.true_and, flat_inb (f := eU32) (fun _ _ => rfl)] <;> rfl)) (fun _ _ => Nat.le_of_ble_eq_true rfl) (fun b6 h => ?_) ?_
      · unfold m80_crc_Table_k6 at h
        refine cregion ?_
        refine sv rfl (opv_mv rfl) ?_
        refine sv rfl (opv_mv rfl) ?_
        obtain ⟨hj7, h⟩ := chk_eq h
        obtain ⟨u8, hu8, h⟩ := bind_eq h
        refine sv rfl (opv_ixar ai152 rfl rfl hj7) ?_
        refine sstar (f := eU32) (u' := b6) 0 sz116 (fun _ => rfl) rfl rfl rfl rfl rfl (idx_eq hu8).2 (Nat.le_of_ble_eq_true rfl) rfl ?_
        refine smem [.box ((List.replicate 256 0#32).flatMap eU32), .box ((s5.2.set s5.1.toNat b6).flatMap eU32)] rfl ?_
        refine snil0 ?_
        refine block_normal ?_
        refine then_normal ?_
        refine cregion ?_
        refine sv rfl (opv_add rfl rfl) ?_
        refine sv rfl (opv_mv rfl) ?_
        refine snil ?_
        obtain rfl := Option.some.inj h
        exact ⟨(n5, ((wI (s5.1 + 1)), (s5.2.set s5.1.toNat b6))), _, hk5, ⟨rfl, rfl, rfl, trivial⟩, rfl, Nat.lt_succ_self _⟩
      · skip
        refine cblock ?_
        obtain ⟨x9, hx9, ho9⟩ := bind_eq h
        refine awc_loop (G := Nat × ((BitVec 32) × Int)) (fun g => [(0, .s (.one (.lp 0 0))), (1, .s (.one (.lp 1 0))), (2, .s (.one (.i .i64 s5.1))), (3, .s (.one (.i .u32 (g.2.1.toNat : Int)))), (4, .s (.one (.i .i64 s5.1))), (9, .s (.one (.i .i64 g.2.2)))]) (fun g => [.box ((List.replicate 256 0#32).flatMap eU32), .box (s5.2.flatMap eU32)]) (fun g => iterB m80_crc_Table_s9 g.1 g.2 = some x9) (fun g => g.1) (fuel, ((BitVec.ofInt 32 s5.1), 0)) hx9 ⟨rfl, rfl, rfl, rfl, rfl, rfl, trivial⟩ [] rfl (fun _ _ => inbL_of rfl) (fun _ _ => blkinb_of (by simp only [List.all_cons, List.all_nil, Blk.inbB, Lf.inbB, Lf.inb0, Bool.and_true, Bool.and_self, Bool.true_and, flat_inb (f := eU32) (fun _ _ => rfl)] <;> rfl)) (fun _ _ => Nat.le_of_ble_eq_true rfl) ?_
        clear hx9 h
        rintro ⟨n9, s9⟩ h
        obtain ⟨n9, y9, rfl, h, hk9⟩ := iterB_eq h
        unfold m80_crc_Table_s9 at h
        refine cseq ?_
        refine cregion ?_
        refine sv rfl (opv_lss rfl rfl) ?_
        refine snil ?_
        refine cseq ?_
        refine ccond rfl (fun hc => ?_) (fun hc => ?_)
        · replace h := ite_t hc h
          clear hc
          refine cskip ?_
          refine then_normal ?_
          refine cseq ?_
          refine cblock ?_
          refine cregion ?_
          refine sv rfl (opv_mv rfl) ?_
          obtain ⟨v10, hv10, h⟩ := bind_eq h
          refine scall1 rfl fn82 (opnds_cons rfl opnds_nil) (pubA_id rfl) (m82_crc_step_c hv10) ?_
          refine sv rfl (opv_as rfl) ?_
          refine snil0 ?_
          refine block_normal ?_
          refine then_normal ?_
          refine cregion ?_
          refine sv rfl (opv_add rfl rfl) ?_
          refine sv rfl (opv_mv rfl) ?_
          refine snil ?_
          obtain rfl := Option.some.inj h
          exact ⟨(n9, (v10, (wI (s9.2 + 1)))), _, hk9, ⟨rfl, rfl, rfl, rfl, rfl, rfl, trivial⟩, rfl, Nat.lt_succ_self _⟩
        · replace h := ite_f hc h
          clear hc
          refine cexit ?_
          refine then_exit ?_
          refine then_exit ?_
          refine block_hit ?_
          refine then_normal ?_
          obtain rfl := Option.some.inj h
          obtain rfl : _ = x9 := hk9
          exact ⟨s9.1, _, ho9, ⟨rfl, rfl, rfl, rfl, rfl, trivial⟩, rfl⟩
    · replace h := ite_f hc h
      clear hc
      refine cexit ?_
      refine then_exit ?_
      refine then_exit ?_
      refine block_hit ?_
      refine then_normal ?_
      obtain rfl := Option.some.inj h
      obtain rfl : _ = x5 := hk5
      exact ⟨s5.2, _, ho5, ⟨rfl, rfl, trivial⟩, rfl⟩

def m76_crc_More_k4 (b4 : (BitVec 32)) : Option (BitVec 32) :=
  some (~~~b4)

def m76_crc_More_s5 (a1 : List UInt8) (v1 : (List (BitVec 32))) (s5 : (BitVec 32) × Int) : Option (LB ((BitVec 32) × Int) ((BitVec 32))) :=
  if (decide (s5.2 < (a1.length : Int))) then ((idx a1 s5.2).bind fun u6 => if 0 ≤ (((s5.1.setWidth 8) ^^^ u6.toBitVec).toNat : Int) ∧ (((s5.1.setWidth 8) ^^^ u6.toBitVec).toNat : Int) < ((256 : Nat) : Int) then ((idx v1 (((s5.1.setWidth 8) ^^^ u6.toBitVec).toNat : Int)).bind fun u8 => some (.cont (((s5.1 >>> (8 : Int).toNat) ^^^ u8), (wI (s5.2 + 1))))) else none) else (some (.brk s5.1))
def m76_crc_More (a0 : BitVec 32) (a1 : List UInt8) : Option (BitVec 32) :=
  (m80_crc_Table).bind fun v1 => if (List.replicate 256 0#32).length = 256 then (if v1.length = 256 then ((iterB (m76_crc_More_s5 a1 v1) fuel ((~~~a0), 0)).bind fun e9 => m76_crc_More_k4 e9) else none) else none

set_option maxRecDepth 100000 in
theorem m76_crc_More_c {a0 : BitVec 32} {a1 : List UInt8} {r : (BitVec 32)} (h : m76_crc_More a0 a1 = some r) : CallsA Tryd.prog 76 [.one (.i .u32 (a0.toNat : Int)), .one (.sl a1.length (a1.flatMap eU8))] (· = .s (.one (.i .u32 (r.toNat : Int)))) := by
  unfold m76_crc_More at h
  refine callsA_of Tryd.func76 rfl (nt := 29) rfl (Nat.le_of_ble_eq_true rfl) ?_
  intro w0 S0
  refine cseq ?_
  refine cregion ?_
  refine sv rfl (opv_as rfl) ?_
  refine snil ?_
  refine cseq ?_
  refine cregion ?_
  obtain ⟨v1, hv1, h⟩ := bind_eq h
  refine scall1 rfl fn80 opnds_nil (pubA_id rfl) (m80_crc_Table_c hv1) ?_
  refine salloc rfl zi152 ?_
  obtain ⟨hl2, h⟩ := chk_eq h
  obtain ⟨hl3, h⟩ := chk_eq h
  refine sstall (f := eU32) (n := 256) sz152 (fun _ => rfl) rfl rfl rfl rfl hl2 hl3 ?_
  refine smem [.box (v1.flatMap eU32)] rfl ?_
  refine snil ?_
  refine cseq ?_
  refine cregion ?_
  refine sv rfl (opv_mv rfl) ?_
  refine sv rfl (opv_compl_u32 (a := a0) rfl rfl) ?_
  refine sv rfl (opv_as rfl) ?_
  refine snil ?_
  refine cseq ?_
  refine cseq ?_
  refine cregion ?_
  refine sv rfl (opv_mv rfl) ?_
  refine sv rfl (opv_len_sl si34 rfl) ?_
  refine sv rfl (opv_mv rfl) ?_
  refine snil ?_
  refine cjoin ((BitVec 32)) (fun b4 => [(0, .s (.one (.i .u32 (b4.toNat : Int))))]) (fun b4 => [.box (v1.flatMap eU32)]) (fun b4 => m76_crc_More_k4 b4 = some r) (fun _ _ => inbL_of rfl) (fun _ _ => blkinb_of (by simp only [List.all_cons, List.all_nil, Blk.inbB, Lf.inbB, Lf.inb0, Bool.and_true, Bool.and_self, Bool.true_and, flat_inb (f := eU32) (fun _ _ => rfl)] <;> rfl)) (fun _ _ => Nat.le_of_ble_eq_true rfl) (fun b4 h => ?_) ?_
  · unfold m76_crc_More_k4 at h
    refine cseq ?_
    refine cregion ?_
    refine sv rfl (opv_mv rfl) ?_
    refine sv rfl (opv_compl_u32 (a := b4) rfl rfl) ?_
    refine sv rfl (opv_as rfl) ?_
    refine snil ?_
    refine cret ?_
    obtain rfl := Option.some.inj h
    refine ⟨Or.inr rfl, _, _, _, (resVs_cons (ResV.tmp _ _ rfl) resVs_nil), (pubA_id rfl), ?_⟩
    rfl
  · skip
    refine cblock ?_
    obtain ⟨x5, hx5, ho5⟩ := bind_eq h
    refine awc_loop (G := Nat × ((BitVec 32) × Int)) (fun g => [(0, .s (.one (.i .u32 (g.2.1.toNat : Int)))), (5, .s (.one (.lp 0 0))), (11, .s (.one (.sl a1.length (a1.flatMap eU8)))), (12, .s (.one (.i .i64 (a1.length : Int)))), (13, .s (.one (.i .i64 g.2.2)))]) (fun g => [.box (v1.flatMap eU32)]) (fun g => iterB (m76_crc_More_s5 a1 v1) g.1 g.2 = some x5) (fun g => g.1) (fuel, ((~~~a0), 0)) hx5 ⟨rfl, rfl, rfl, rfl, rfl, trivial⟩ [] rfl (fun _ _ => inbL_of rfl) (fun _ _ => blkinb_of (by simp only [List.all_cons, List.all_nil, Blk.inbB, Lf.inbB, Lf.inb0, Bool.and_true, Bool.and_self, Bool.true_and, flat_inb (f := eU32) (fun _ _ => rfl)] <;> rfl)) (fun _ _ => Nat.le_of_ble_eq_true rfl) ?_
    clear hx5 h
    rintro ⟨n5, s5⟩ h
    obtain ⟨n5, y5, rfl, h, hk5⟩ := iterB_eq h
    unfold m76_crc_More_s5 at h
    refine cseq ?_
    refine cregion ?_
    refine sv rfl (opv_lss rfl rfl) ?_
    refine snil ?_
    refine cseq ?_
    refine ccond rfl (fun hc => ?_) (fun hc => ?_)
    · replace h := ite_t hc h
      clear hc
      refine cskip ?_
      refine then_normal ?_
      refine cseq ?_
      refine cblock ?_
      refine cseq ?_
      refine cregion ?_
      obtain ⟨u6, hu6, h⟩ := bind_eq h
      refine sv rfl (opv_ix (f := eU8) si34 (fun _ => rfl) rfl rfl rfl rfl hu6) ?_
      refine sv rfl (opv_load1 ti5 rfl (.cp _) rfl) ?_
      refine sv rfl (opv_as rfl) ?_
      refine snil ?_
      refine cregion ?_
      refine sv rfl (opv_mv rfl) ?_
      refine sv rfl (opv_shr_u32 (a := s5.1) rfl rfl rfl (by decide)) ?_
      refine sv rfl (opv_mv rfl) ?_
      refine sv rfl (opv_conv_bv (k := .u32) (a := s5.1) rfl Tryd.underlying116 Tryd.underlying5 rfl rfl) ?_
      refine sv rfl (opv_mv rfl) ?_
      refine sv rfl (opv_xor_u8 (a := (s5.1.setWidth 8)) (b := u6.toBitVec) rfl rfl rfl rfl) ?_
      obtain ⟨hj7, h⟩ := chk_eq h
      obtain ⟨u8, hu8, h⟩ := bind_eq h
      refine sv rfl (opv_ixar ai152 rfl rfl hj7) ?_
      refine sv rfl (opv_ldar (f := eU32) 0 ti116 (fun _ => rfl) rfl rfl rfl (idx_eq hu8).2 rfl) ?_
      refine sv rfl (opv_xor_u32 (a := (s5.1 >>> (8 : Int).toNat)) (b := u8) rfl rfl rfl rfl) ?_
      refine sv rfl (opv_as rfl) ?_
      refine snil0 ?_
      refine block_normal ?_
      refine then_normal ?_
      refine cregion ?_
      refine sv rfl (opv_add rfl rfl) ?_
      refine sv rfl (opv_mv rfl) ?_
      refine snil ?_
      obtain rfl := Option.some.inj h
      exact ⟨(n5, (((s5.1 >>> (8 : Int).toNat) ^^^ u8), (wI (s5.2 + 1)))), _, hk5, ⟨rfl, rfl, rfl, rfl, rfl, trivial⟩, rfl, Nat.lt_succ_self _⟩
    · replace h := ite_f hc h
      clear hc
      refine cexit ?_
      refine then_exit ?_
      refine then_exit ?_
      refine block_hit ?_
      refine then_normal ?_
      obtain rfl := Option.some.inj h
      obtain rfl : _ = x5 := hk5
      exact ⟨s5.1, _, ho5, ⟨rfl, trivial⟩, rfl⟩

def m77_crc_Of (a0 : List UInt8) : Option (BitVec 32) :=
  (m76_crc_More (0#32) a0).bind fun v1 => some v1

set_option maxRecDepth 100000 in
theorem m77_crc_Of_c {a0 : List UInt8} {r : (BitVec 32)} (h : m77_crc_Of a0 = some r) : CallsA Tryd.prog 77 [.one (.sl a0.length (a0.flatMap eU8))] (· = .s (.one (.i .u32 (r.toNat : Int)))) := by
  unfold m77_crc_Of at h
  refine callsA_of Tryd.func77 rfl (nt := 5) rfl (Nat.le_of_ble_eq_true rfl) ?_
  intro w0 S0
  refine cseq ?_
  refine cregion ?_
  refine sv rfl (opv_as rfl) ?_
  refine snil ?_
  refine cseq ?_
  refine cregion ?_
  refine sv rfl (opv_mv rfl) ?_
  obtain ⟨v1, hv1, h⟩ := bind_eq h
  refine scall1 rfl fn76 (opnds_cons rfl (opnds_cons rfl opnds_nil)) (pubA_id rfl) (m76_crc_More_c hv1) ?_
  refine sv rfl (opv_as rfl) ?_
  refine snil ?_
  refine cret ?_
  obtain rfl := Option.some.inj h
  refine ⟨Or.inr rfl, _, _, _, (resVs_cons (ResV.tmp _ _ rfl) resVs_nil), (pubA_id rfl), ?_⟩
  rfl

def m63_frame_sumOf (a0 : List UInt8) : Option (BitVec 32) :=
  (m75_enc_U ([] : List UInt8) (BitVec.ofInt 64 (a0.length : Int)) 2).bind fun v1 => (m77_crc_Of v1).bind fun v2 => (m76_crc_More v2 a0).bind fun v3 => some v3

set_option maxRecDepth 100000 in
theorem m63_frame_sumOf_c {a0 : List UInt8} {r : (BitVec 32)} (h : m63_frame_sumOf a0 = some r) : CallsA Tryd.prog 63 [.one (.sl a0.length (a0.flatMap eU8))] (· = .s (.one (.i .u32 (r.toNat : Int)))) := by
  unfold m63_frame_sumOf at h
  refine callsA_of Tryd.func63 rfl (nt := 12) rfl (Nat.le_of_ble_eq_true rfl) ?_
  intro w0 S0
  refine cseq ?_
  refine cregion ?_
  refine sv rfl (opv_as rfl) ?_
  refine snil ?_
  refine cseq ?_
  refine cregion ?_
  refine sv rfl (opv_mv rfl) ?_
  refine sv rfl (opv_len_sl si34 rfl) ?_
  refine sv rfl (opv_conv_ibv rfl Tryd.underlying3 Tryd.underlying37 rfl) ?_
  obtain ⟨v1, hv1, h⟩ := bind_eq h
  refine scall1 rfl fn75 (opnds_cons rfl (opnds_cons rfl (opnds_cons rfl opnds_nil))) (pubC rfl) (m75_enc_U_c hv1) ?_
  refine sv rfl (opv_as rfl) ?_
  refine snil ?_
  refine cseq ?_
  refine cregion ?_
  refine sv rfl (opv_mv rfl) ?_
  obtain ⟨v2, hv2, h⟩ := bind_eq h
  refine scall1 rfl fn77 (opnds_cons rfl opnds_nil) (pubA_id rfl) (m77_crc_Of_c hv2) ?_
  refine sv rfl (opv_mv rfl) ?_
  obtain ⟨v3, hv3, h⟩ := bind_eq h
  refine scall1 rfl fn76 (opnds_cons rfl (opnds_cons rfl opnds_nil)) (pubA_id rfl) (m76_crc_More_c hv3) ?_
  refine sv rfl (opv_as rfl) ?_
  refine snil ?_
  refine cret ?_
  obtain rfl := Option.some.inj h
  refine ⟨Or.inr rfl, _, _, _, (resVs_cons (ResV.tmp _ _ rfl) resVs_nil), (pubA_id rfl), ?_⟩
  rfl

def m53_frame_open_k4 (a0 : List UInt8) (v2 : (BitVec 64) × Int × Int) (v3 : (BitVec 64) × Int × Int) (b4 : Unit) : Option (GFrameWhole × Int) :=
  (cut a0 6 (wI (6 + (wI (v2.1.toNat : Int))))).bind fun c5 => (m63_frame_sumOf c5).bind fun v6 => if (!decide (((v3.1.setWidth 32).toNat : Int) = (v6.toNat : Int))) then (some ((GFrameWhole.mk (GFrameHead.mk 0 (0#32)) ([] : List UInt8)), 4)) else (some ((GFrameWhole.mk (GFrameHead.mk (wI (v2.1.toNat : Int)) (v3.1.setWidth 32)) c5), 0))
def m53_frame_open (a0 : List UInt8) : Option (GFrameWhole × Int) :=
  (m60_enc_News a0).bind fun v1 => (m61_enc_Reader_Us 2 v1.1 v1.2.1 v1.2.2).bind fun v2 => if (decide (512 < (wI (v2.1.toNat : Int)))) then (some ((GFrameWhole.mk (GFrameHead.mk 0 (0#32)) ([] : List UInt8)), 5)) else ((m61_enc_Reader_Us 4 v2.2.1 v2.2.2 v1.2.2).bind fun v3 => (m62_enc_Reader_Errs v3.2.1 v3.2.2 v1.2.2).bind fun v7 => if (!decide (v7 = 0)) then (some ((GFrameWhole.mk (GFrameHead.mk 0 (0#32)) ([] : List UInt8)), 2)) else (if (decide ((a0.length : Int) < (wI (6 + (wI (v2.1.toNat : Int)))))) then (some ((GFrameWhole.mk (GFrameHead.mk 0 (0#32)) ([] : List UInt8)), 2)) else (m53_frame_open_k4 a0 v2 v3 ())))

set_option maxRecDepth 100000 in
theorem m53_frame_open_c {a0 : List UInt8} {r : GFrameWhole × Int} (h : m53_frame_open a0 = some r) : CallsA Tryd.prog 53 [.one (.sl a0.length (a0.flatMap eU8))] (· = .tup [.agg r.1, .one (.i .i64 r.2)]) := by
  unfold m53_frame_open at h
  refine callsA_of Tryd.func53 rfl (nt := 53) rfl (Nat.le_of_ble_eq_true rfl) ?_
  intro w0 S0
  refine cseq ?_
  refine cregion ?_
  refine salloc rfl zi120 ?_
  refine sv rfl (opv_as rfl) ?_
  refine snil ?_
  refine cseq ?_
  refine cregion ?_
  refine sv rfl (opv_mv rfl) ?_
  obtain ⟨v1, hv1, h⟩ := bind_eq h
  refine scallB (x' := .s (.one (.lp 1 0))) (M' := [.box [.i .i64 0, .i .u32 ((0#32).toNat : Int), .raw (.slice none 0 0)], .box [.fn 72 [] [.lp 2 0, .lp 3 0], .i .i64 v1.1], .box [.i .i64 v1.2.1], .box [.sl v1.2.2.length (v1.2.2.flatMap eU8)]]) [] rfl fn60 (.func _) (opnds_cons rfl opnds_nil) (m60_enc_News_c hv1) rfl rfl (by decide) rfl rfl rfl ?_
  refine sv rfl (opv_as rfl) ?_
  refine snil ?_
  refine cseq ?_
  refine cregion ?_
  refine sv rfl (opv_build zi120 pi120 parts_nil (.nil _)) ?_
  refine salloc rfl zi120 ?_
  refine sstore sz120 rfl rfl rfl rfl (Nat.le_of_ble_eq_true rfl) ?_
  refine smem [.box [.i .i64 0, .i .u32 ((0#32).toNat : Int), .raw (.slice none 0 0)], .box [.fn 72 [] [.lp 2 0, .lp 3 0], .i .i64 v1.1], .box [.i .i64 v1.2.1], .box [.sl v1.2.2.length (v1.2.2.flatMap eU8)], .box [.i .i64 0, .i .u32 ((0#32).toNat : Int), .raw (.slice none 0 0)]] rfl ?_
  refine snil ?_
  refine cseq ?_
  refine cregion ?_
  refine sv rfl (opv_mv rfl) ?_
  obtain ⟨v2, hv2, h⟩ := bind_eq h
  refine scallB (x' := .s (.one (.i .u64 (v2.1.toNat : Int)))) (M' := [.box [.i .i64 0, .i .u32 ((0#32).toNat : Int), .raw (.slice none 0 0)], .box [.fn 72 [] [.lp 2 0, .lp 3 0], .i .i64 v2.2.1], .box [.i .i64 v2.2.2], .box [.sl v1.2.2.length (v1.2.2.flatMap eU8)], .box [.i .i64 0, .i .u32 ((0#32).toNat : Int), .raw (.slice none 0 0)]]) [1, 2, 3] rfl fn61 (.func _) (opnds_cons rfl (opnds_cons rfl opnds_nil)) (m61_enc_Reader_Us_c hv2) rfl rfl (by decide) rfl rfl rfl ?_
  refine sv rfl (opv_conv_int Tryd.underlying37 Tryd.underlying3 rfl) ?_
  refine sv rfl (opv_fieldAddr_lp fi120_0 rfl) ?_
  refine sv rfl (opv_fieldAddr_lp fi118_0 rfl) ?_
  refine sstore sz3 rfl rfl rfl rfl (Nat.le_of_ble_eq_true rfl) ?_
  refine smem [.box [.i .i64 0, .i .u32 ((0#32).toNat : Int), .raw (.slice none 0 0)], .box [.fn 72 [] [.lp 2 0, .lp 3 0], .i .i64 v2.2.1], .box [.i .i64 v2.2.2], .box [.sl v1.2.2.length (v1.2.2.flatMap eU8)], .box [.i .i64 (wI (v2.1.toNat : Int)), .i .u32 ((0#32).toNat : Int), .raw (.slice none 0 0)]] rfl ?_
  refine snil ?_
  refine cseq ?_
  refine cseq ?_
  refine cregion ?_
  refine sv rfl (opv_fieldAddr_lp fi120_0 rfl) ?_
  refine sv rfl (opv_fieldAddr_lp fi118_0 rfl) ?_
  refine sv rfl (opv_load1 ti3 rfl (.lp _ _ _ rfl) rfl) ?_
  refine sv rfl (opv_gtr rfl rfl) ?_
  refine snil ?_
  refine ccond rfl (fun hc => ?_) (fun hc => ?_)
  · replace h := ite_t hc h
    clear hc
    refine cseq ?_
    refine cregion ?_
    refine sv rfl (opv_build zi120 pi120 parts_nil (.nil _)) ?_
    refine sstore sz120 rfl rfl rfl rfl (Nat.le_of_ble_eq_true rfl) ?_
    refine smem [.box [.i .i64 0, .i .u32 ((0#32).toNat : Int), .raw (.slice none 0 0)], .box [.fn 72 [] [.lp 2 0, .lp 3 0], .i .i64 v2.2.1], .box [.i .i64 v2.2.2], .box [.sl v1.2.2.length (v1.2.2.flatMap eU8)], .box [.i .i64 (wI (v2.1.toNat : Int)), .i .u32 ((0#32).toNat : Int), .raw (.slice none 0 0)]] rfl ?_
    refine sv rfl (opv_as rfl) ?_
    refine snil ?_
    refine cret ?_
    refine then_ret ?_
    obtain rfl := Option.some.inj h
    refine ⟨Or.inr rfl, _, _, _, (resVs_cons (ResV.agg _ _ _ _ _ ti120 rfl (.lp _ _ _ rfl) (Nat.le_of_ble_eq_true rfl)) (resVs_cons (ResV.tmp _ _ rfl) resVs_nil)), (pubC rfl), ?_⟩
    rfl
  · replace h := ite_f hc h
    clear hc
    refine cskip ?_
    refine then_normal ?_
    refine cseq ?_
    refine cregion ?_
    refine sv rfl (opv_mv rfl) ?_
    obtain ⟨v3, hv3, h⟩ := bind_eq h
    refine scallB (x' := .s (.one (.i .u64 (v3.1.toNat : Int)))) (M' := [.box [.i .i64 0, .i .u32 ((0#32).toNat : Int), .raw (.slice none 0 0)], .box [.fn 72 [] [.lp 2 0, .lp 3 0], .i .i64 v3.2.1], .box [.i .i64 v3.2.2], .box [.sl v1.2.2.length (v1.2.2.flatMap eU8)], .box [.i .i64 (wI (v2.1.toNat : Int)), .i .u32 ((0#32).toNat : Int), .raw (.slice none 0 0)]]) [1, 2, 3] rfl fn61 (.func _) (opnds_cons rfl (opnds_cons rfl opnds_nil)) (m61_enc_Reader_Us_c hv3) rfl rfl (by decide) rfl rfl rfl ?_
    refine sv rfl (opv_conv_bv (k := .u64) (a := v3.1) rfl Tryd.underlying37 Tryd.underlying116 rfl rfl) ?_
    refine sv rfl (opv_fieldAddr_lp fi120_0 rfl) ?_
    refine sv rfl (opv_fieldAddr_lp fi118_1 rfl) ?_
    refine sstore sz116 rfl rfl rfl rfl (Nat.le_of_ble_eq_true rfl) ?_
    refine smem [.box [.i .i64 0, .i .u32 ((0#32).toNat : Int), .raw (.slice none 0 0)], .box [.fn 72 [] [.lp 2 0, .lp 3 0], .i .i64 v3.2.1], .box [.i .i64 v3.2.2], .box [.sl v1.2.2.length (v1.2.2.flatMap eU8)], .box [.i .i64 (wI (v2.1.toNat : Int)), .i .u32 ((v3.1.setWidth 32).toNat : Int), .raw (.slice none 0 0)]] rfl ?_
    refine snil ?_
    refine cseq ?_
    refine cseq ?_
    refine cjoin3 (Unit) (fun b4 => [(0, .s (.one (.sl a0.length (a0.flatMap eU8)))), (2, .s (.one (.lp 0 0))), (5, .s (.one (.lp 4 0)))]) (fun b4 => [.box [.i .i64 0, .i .u32 ((0#32).toNat : Int), .raw (.slice none 0 0)], .box [.fn 72 [] [.lp 2 0, .lp 3 0], .i .i64 v3.2.1], .box [.i .i64 v3.2.2], .box [.sl v1.2.2.length (v1.2.2.flatMap eU8)], .box [.i .i64 (wI (v2.1.toNat : Int)), .i .u32 ((v3.1.setWidth 32).toNat : Int), .raw (.slice none 0 0)]]) (fun b4 => m53_frame_open_k4 a0 v2 v3 b4 = some r) (fun _ _ => inbL_of rfl) (fun _ _ => blkinb_of rfl) (fun _ _ => Nat.le_of_ble_eq_true rfl) (fun b4 h => ?_) ?_
    · unfold m53_frame_open_k4 at h
      refine cseq ?_
      refine cregion ?_
      refine sv rfl (opv_mv rfl) ?_
      refine sv rfl (opv_fieldAddr_lp fi120_0 rfl) ?_
      refine sv rfl (opv_fieldAddr_lp fi118_0 rfl) ?_
      refine sv rfl (opv_load1 ti3 rfl (.lp _ _ _ rfl) rfl) ?_
      refine sv rfl (opv_add rfl rfl) ?_
      obtain ⟨c5, hc5, h⟩ := bind_eq h
      refine sv rfl (opv_cut (f := eU8) (lo := 6) (hi := (wI (6 + (wI (v2.1.toNat : Int))))) si34 (fun _ => rfl) rfl rfl rfl (bound_some rfl (cut_eq hc5).1.1) (bound_some rfl (Int.le_trans (cut_eq hc5).1.1 (cut_eq hc5).1.2.1)) hc5) ?_
      refine sv rfl (opv_fieldAddr_lp fi120_1 rfl) ?_
      refine sstore sz34 rfl rfl rfl rfl (Nat.le_of_ble_eq_true rfl) ?_
      refine smem [.box [.i .i64 0, .i .u32 ((0#32).toNat : Int), .raw (.slice none 0 0)], .box [.fn 72 [] [.lp 2 0, .lp 3 0], .i .i64 v3.2.1], .box [.i .i64 v3.2.2], .box [.sl v1.2.2.length (v1.2.2.flatMap eU8)], .box [.i .i64 (wI (v2.1.toNat : Int)), .i .u32 ((v3.1.setWidth 32).toNat : Int), .sl c5.length (c5.flatMap eU8)]] rfl ?_
      refine snil ?_
      refine cseq ?_
      refine cseq ?_
      refine cdraw mixed (by kernel_rfl) ?_
      refine dv rfl (opv_fieldAddr_lp fi120_0 rfl) ?_
      refine dv rfl (opv_fieldAddr_lp fi118_1 rfl) ?_
      refine dv rfl (opv_load1 ti116 rfl (.lp _ _ _ rfl) rfl) ?_
      refine dv rfl (opv_fieldAddr_lp fi120_1 rfl) ?_
      refine dv rfl (opv_load1 ti34 rfl (.lp _ _ _ rfl) rfl) ?_
      obtain ⟨v6, hv6, h⟩ := bind_eq h
      refine dd rfl (opD_call fn63 (opnds_cons rfl opnds_nil) rfl (m63_frame_sumOf_c hv6)) ?_
      refine dv rfl (opv_ineq rfl rfl) ?_
      refine dnil ?_
      refine then_normal ?_
      refine ccond rfl (fun hc => ?_) (fun hc => ?_)
      · replace h := ite_t hc h
        clear hc
        refine cseq ?_
        refine cregion ?_
        refine sv rfl (opv_build zi120 pi120 parts_nil (.nil _)) ?_
        refine sstore sz120 rfl rfl rfl rfl (Nat.le_of_ble_eq_true rfl) ?_
        refine smem [.box [.i .i64 0, .i .u32 ((0#32).toNat : Int), .raw (.slice none 0 0)], .box [.fn 72 [] [.lp 2 0, .lp 3 0], .i .i64 v3.2.1], .box [.i .i64 v3.2.2], .box [.sl v1.2.2.length (v1.2.2.flatMap eU8)], .box [.i .i64 (wI (v2.1.toNat : Int)), .i .u32 ((v3.1.setWidth 32).toNat : Int), .sl c5.length (c5.flatMap eU8)]] rfl ?_
        refine sv rfl (opv_as rfl) ?_
        refine snil ?_
        refine cret ?_
        refine then_ret ?_
        obtain rfl := Option.some.inj h
        refine ⟨Or.inr rfl, _, _, _, (resVs_cons (ResV.agg _ _ _ _ _ ti120 rfl (.lp _ _ _ rfl) (Nat.le_of_ble_eq_true rfl)) (resVs_cons (ResV.tmp _ _ rfl) resVs_nil)), (pubC rfl), ?_⟩
        rfl
      · replace h := ite_f hc h
        clear hc
        refine cskip ?_
        refine then_normal ?_
        refine cseq ?_
        refine cregion ?_
        refine sv rfl (opv_loadN ti120 rfl (.lp _ _ _ rfl) (Nat.le_of_ble_eq_true rfl)) ?_
        refine sstore sz120 rfl rfl rfl rfl (Nat.le_of_ble_eq_true rfl) ?_
        refine smem [.box [.i .i64 (wI (v2.1.toNat : Int)), .i .u32 ((v3.1.setWidth 32).toNat : Int), .sl c5.length (c5.flatMap eU8)], .box [.fn 72 [] [.lp 2 0, .lp 3 0], .i .i64 v3.2.1], .box [.i .i64 v3.2.2], .box [.sl v1.2.2.length (v1.2.2.flatMap eU8)], .box [.i .i64 (wI (v2.1.toNat : Int)), .i .u32 ((v3.1.setWidth 32).toNat : Int), .sl c5.length (c5.flatMap eU8)]] rfl ?_
        refine sv rfl (opv_as rfl) ?_
        refine snil ?_
        refine cret ?_
        obtain rfl := Option.some.inj h
        refine ⟨Or.inr rfl, _, _, _, (resVs_cons (ResV.agg _ _ _ _ _ ti120 rfl (.lp _ _ _ rfl) (Nat.le_of_ble_eq_true rfl)) (resVs_cons (ResV.tmp _ _ rfl) resVs_nil)), (pubA_id rfl), ?_⟩
        rfl
    · skip
      refine cregion ?_
      refine sv rfl (opv_mv rfl) ?_
      obtain ⟨v7, hv7, h⟩ := bind_eq h
      refine scallB (x' := .s (.one (.i .i64 v7))) (M' := [.box [.i .i64 0, .i .u32 ((0#32).toNat : Int), .raw (.slice none 0 0)], .box [.fn 72 [] [.lp 2 0, .lp 3 0], .i .i64 v3.2.1], .box [.i .i64 v3.2.2], .box [.sl v1.2.2.length (v1.2.2.flatMap eU8)], .box [.i .i64 (wI (v2.1.toNat : Int)), .i .u32 ((v3.1.setWidth 32).toNat : Int), .raw (.slice none 0 0)]]) [1, 2, 3] rfl fn62 (.func _) (opnds_cons rfl opnds_nil) (m62_enc_Reader_Errs_c hv7) rfl rfl (by decide) rfl rfl rfl ?_
      refine sv rfl (opv_ineq rfl rfl) ?_
      refine sv rfl (opv_mv rfl) ?_
      refine ssplit 27 rfl (fun hc => ?_) (fun hc => ?_)
      · replace h := ite_t hc h
        clear hc
        refine soff rfl rfl rfl rfl ?_
        refine soff rfl rfl rfl rfl ?_
        refine soff rfl rfl rfl rfl ?_
        refine soff rfl rfl rfl rfl ?_
        refine soff rfl rfl rfl rfl ?_
        refine soff rfl rfl rfl rfl ?_
        refine soff rfl rfl rfl rfl ?_
        refine sv rfl (opv_pick_t rfl rfl) ?_
        refine snil ?_
        refine ccond rfl (fun _ => ?_) (fun hx => Bool.noConfusion hx)
        refine cseq ?_
        refine cregion ?_
        refine sv rfl (opv_build zi120 pi120 parts_nil (.nil _)) ?_
        refine sstore sz120 rfl rfl rfl rfl (Nat.le_of_ble_eq_true rfl) ?_
        refine smem [.box [.i .i64 0, .i .u32 ((0#32).toNat : Int), .raw (.slice none 0 0)], .box [.fn 72 [] [.lp 2 0, .lp 3 0], .i .i64 v3.2.1], .box [.i .i64 v3.2.2], .box [.sl v1.2.2.length (v1.2.2.flatMap eU8)], .box [.i .i64 (wI (v2.1.toNat : Int)), .i .u32 ((v3.1.setWidth 32).toNat : Int), .raw (.slice none 0 0)]] rfl ?_
        refine sv rfl (opv_as rfl) ?_
        refine snil ?_
        refine cret ?_
        refine then_ret ?_
        obtain rfl := Option.some.inj h
        refine ⟨Or.inr rfl, _, _, _, (resVs_cons (ResV.agg _ _ _ _ _ ti120 rfl (.lp _ _ _ rfl) (Nat.le_of_ble_eq_true rfl)) (resVs_cons (ResV.tmp _ _ rfl) resVs_nil)), (pubC rfl), ?_⟩
        rfl
      · replace h := ite_f hc h
        clear hc
        refine son rfl rfl rfl ?_
        refine sv rfl (opv_mv rfl) ?_
        refine son rfl rfl rfl ?_
        refine sv rfl (opv_len_sl si34 rfl) ?_
        refine son rfl rfl rfl ?_
        refine sv rfl (opv_fieldAddr_lp fi120_0 rfl) ?_
        refine son rfl rfl rfl ?_
        refine sv rfl (opv_fieldAddr_lp fi118_0 rfl) ?_
        refine son rfl rfl rfl ?_
        refine sv rfl (opv_load1 ti3 rfl (.lp _ _ _ rfl) rfl) ?_
        refine son rfl rfl rfl ?_
        refine sv rfl (opv_add rfl rfl) ?_
        refine son rfl rfl rfl ?_
        refine sv rfl (opv_lss rfl rfl) ?_
        refine sv rfl (opv_pick_f rfl rfl) ?_
        refine snil ?_
        refine ccond rfl (fun hc => ?_) (fun hc => ?_)
        · replace h := ite_t hc h
          clear hc
          refine cseq ?_
          refine cregion ?_
          refine sv rfl (opv_build zi120 pi120 parts_nil (.nil _)) ?_
          refine sstore sz120 rfl rfl rfl rfl (Nat.le_of_ble_eq_true rfl) ?_
          refine smem [.box [.i .i64 0, .i .u32 ((0#32).toNat : Int), .raw (.slice none 0 0)], .box [.fn 72 [] [.lp 2 0, .lp 3 0], .i .i64 v3.2.1], .box [.i .i64 v3.2.2], .box [.sl v1.2.2.length (v1.2.2.flatMap eU8)], .box [.i .i64 (wI (v2.1.toNat : Int)), .i .u32 ((v3.1.setWidth 32).toNat : Int), .raw (.slice none 0 0)]] rfl ?_
          refine sv rfl (opv_as rfl) ?_
          refine snil ?_
          refine cret ?_
          refine then_ret ?_
          obtain rfl := Option.some.inj h
          refine ⟨Or.inr rfl, _, _, _, (resVs_cons (ResV.agg _ _ _ _ _ ti120 rfl (.lp _ _ _ rfl) (Nat.le_of_ble_eq_true rfl)) (resVs_cons (ResV.tmp _ _ rfl) resVs_nil)), (pubC rfl), ?_⟩
          rfl
        · replace h := ite_f hc h
          clear hc
          refine cskip ?_
          refine then_normal ?_
          exact ⟨(), _, h, ⟨rfl, rfl, rfl, trivial⟩, rfl⟩

def m54_slices_Clone (a0 : List UInt8) : Option (List UInt8) :=
  if (([] : List UInt8).length + a0.length) * 1 ≤ 140737488355328 then (some (([] : List UInt8) ++ a0)) else none

set_option maxRecDepth 100000 in
theorem m54_slices_Clone_c {a0 : List UInt8} {r : (List UInt8)} (h : m54_slices_Clone a0 = some r) : CallsA Tryd.prog 54 [.one (.sl a0.length (a0.flatMap eU8))] (· = .s (.one (.sl r.length (r.flatMap eU8)))) := by
  unfold m54_slices_Clone at h
  refine callsA_of Tryd.func54 rfl (nt := 8) rfl (Nat.le_of_ble_eq_true rfl) ?_
  intro w0 S0
  refine cseq ?_
  refine cregion ?_
  refine sv rfl (opv_as rfl) ?_
  refine snil ?_
  refine cseq ?_
  refine cseq ?_
  refine cregion ?_
  refine sv rfl (opv_mv rfl) ?_
  refine snilq rfl Tryd.underlying34 rfl (fun nq hnq => ?_)
  cases nq
  · skip
    refine snil ?_
    refine ccond rfl (fun hx => Bool.noConfusion hx) (fun _ => ?_)
    refine cskip ?_
    refine then_normal ?_
    refine cseq ?_
    refine cregion ?_
    refine sbuild0 rfl Tryd.underlying34 ei5 ?_
    refine sv rfl (opv_mv rfl) ?_
    obtain ⟨hb1, h⟩ := chk_eq h
    refine sapp (f := eU8) (xs := ([] : List UInt8)) (us := a0) rfl Tryd.underlying34 ei5 ni34 (fun _ => rfl) rfl rfl (.one _ _ _ _ (.id _ rfl)) rfl rfl rfl (.sl _ _ _ (flat_len (f := eU8) (fun _ => rfl) _)) rfl rfl hb1 (by decide) ?_
    refine sv rfl (opv_as rfl) ?_
    refine snil ?_
    refine cret ?_
    obtain rfl := Option.some.inj h
    refine ⟨Or.inr rfl, _, _, _, (resVs_cons (ResV.tmp _ _ rfl) resVs_nil), (by (repeat' first | exact PubA.nil _ | apply PubA.cons | apply PubV.one | apply PubV.agg | exact PubL.nil | exact PubL.ls _ _ _ _ _ _ rfl (flat_len (f := eU8) (fun _ => rfl) _).symm | exact PubL.id _ rfl | exact PubLs.nil _ | apply PubLs.cons)), ?_⟩
    rfl
  · obtain rfl := List.eq_nil_of_length_eq_zero (hnq rfl)
    replace h : (some ([] : List UInt8)) = some r := by first | exact h | (rw [if_pos (by decide)] at h; exact h)
    refine snil ?_
    refine ccond rfl (fun _ => ?_) (fun hx => Bool.noConfusion hx)
    refine cseq ?_
    refine cregion ?_
    refine sv rfl (opv_as rfl) ?_
    refine snil ?_
    refine cret ?_
    refine then_ret ?_
    obtain rfl := Option.some.inj h
    refine ⟨Or.inr rfl, _, _, _, (resVs_cons (ResV.tmp _ _ rfl) resVs_nil), (pubC rfl), ?_⟩
    rfl

def m48_frame_Read_k1 (a0 : List UInt8) (a1 : Int) (b1 : Unit) : Option ((List UInt8) × Int × Int) :=
  (cut a0 a1 (a0.length : Int)).bind fun c2 => (m53_frame_open c2).bind fun v3 => if (!decide (v3.2 = 0)) then (some (([] : List UInt8), 0, v3.2)) else ((m54_slices_Clone v3.1.payload_).bind fun v4 => some (v4, (wI ((wI (a1 + 6)) + v3.1.head_.size_)), 0))
def m48_frame_Read (a0 : List UInt8) (a1 : Int) : Option ((List UInt8) × Int × Int) :=
  if (decide (a1 < 0)) then (some (([] : List UInt8), 0, 1)) else (if (decide ((a0.length : Int) < a1)) then (some (([] : List UInt8), 0, 1)) else (m48_frame_Read_k1 a0 a1 ()))

set_option maxRecDepth 100000 in
theorem m48_frame_Read_c {a0 : List UInt8} {a1 : Int} {r : (List UInt8) × Int × Int} (h : m48_frame_Read a0 a1 = some r) : CallsA Tryd.prog 48 [.one (.sl a0.length (a0.flatMap eU8)), .one (.i .i64 a1)] (· = .tup [.one (.sl r.1.length (r.1.flatMap eU8)), .one (.i .i64 r.2.1), .one (.i .i64 r.2.2)]) := by
  unfold m48_frame_Read at h
  refine callsA_of Tryd.func48 rfl (nt := 36) rfl (Nat.le_of_ble_eq_true rfl) ?_
  intro w0 S0
  refine cseq ?_
  refine cregion ?_
  refine sv rfl (opv_as rfl) ?_
  refine sv rfl (opv_as rfl) ?_
  refine sv rfl (opv_as rfl) ?_
  refine snil ?_
  refine cseq ?_
  refine cseq ?_
  refine cjoin3 (Unit) (fun b1 => [(0, .s (.one (.sl a0.length (a0.flatMap eU8)))), (1, .s (.one (.i .i64 a1)))]) (fun b1 => []) (fun b1 => m48_frame_Read_k1 a0 a1 b1 = some r) (fun _ _ => inbL_of rfl) (fun _ _ => blkinb_of rfl) (fun _ _ => Nat.le_of_ble_eq_true rfl) (fun b1 h => ?_) ?_
  · unfold m48_frame_Read_k1 at h
    refine cseq ?_
    refine cregion ?_
    refine sv rfl (opv_mv rfl) ?_
    refine sv rfl (opv_mv rfl) ?_
    obtain ⟨c2, hc2, h⟩ := bind_eq h
    refine sv rfl (opv_cut (f := eU8) (lo := a1) (hi := (a0.length : Int)) si34 (fun _ => rfl) rfl rfl rfl (bound_some rfl (cut_eq hc2).1.1) (by exact rfl) hc2) ?_
    obtain ⟨v3, hv3, h⟩ := bind_eq h
    refine scall1 rfl fn53 (opnds_cons rfl opnds_nil) (pubA_id rfl) (m53_frame_open_c hv3) ?_
    refine sv rfl (opv_mvt rfl) ?_
    refine sv rfl (opv_extract rfl rfl) ?_
    refine sv rfl (opv_extract rfl rfl) ?_
    refine salloc rfl zi120 ?_
    refine sstore sz120 rfl rfl rfl rfl (Nat.le_of_ble_eq_true rfl) ?_
    refine smem [.box v3.1] rfl ?_
    refine sv rfl (opv_as rfl) ?_
    refine snil ?_
    refine cseq ?_
    refine cseq ?_
    refine cregion ?_
    refine sv rfl (opv_mv rfl) ?_
    refine sv rfl (opv_ineq rfl rfl) ?_
    refine snil ?_
    refine ccond rfl (fun hc => ?_) (fun hc => ?_)
    · replace h := ite_t hc h
      clear hc
      refine cseq ?_
      refine cregion ?_
      refine sv rfl (opv_mv rfl) ?_
      refine sv rfl (opv_as rfl) ?_
      refine sv rfl (opv_as rfl) ?_
      refine sv rfl (opv_as rfl) ?_
      refine snil ?_
      refine cret ?_
      refine then_ret ?_
      obtain rfl := Option.some.inj h
      refine ⟨Or.inr rfl, _, _, _, (resVs_cons (ResV.tmp _ _ rfl) (resVs_cons (ResV.tmp _ _ rfl) (resVs_cons (ResV.tmp _ _ rfl) resVs_nil))), (pubC rfl), ?_⟩
      rfl
    · replace h := ite_f hc h
      clear hc
      refine cskip ?_
      refine then_normal ?_
      refine cseq ?_
      obtain ⟨v4, hv4, h⟩ := bind_eq h
      refine cdraw_e [] [0, 1, 3, 0, 8, 0, 32, 96, 248, 7, 1023, 2047] [[.box v3.1]] (by kernel_rfl) mixed (by kernel_rfl) (by decide) rfl rfl rfl rfl ?_
      refine ev (sees_at 0 rfl rfl) rfl rfl (opv_fieldAddr_lp fi120_1 rfl) ?_
      refine ev (sees_at 0 rfl rfl) rfl rfl (opv_load1 ti34 rfl (.lp _ _ _ rfl) rfl) ?_
      refine ed (sees_at 0 rfl rfl) rfl rfl (opD_call fn54 (opnds_cons rfl opnds_nil) rfl (m54_slices_Clone_c hv4)) ?_
      refine ev (sees_at 0 rfl rfl) rfl rfl (opv_mv rfl) ?_
      refine ev (sees_at 0 rfl rfl) rfl rfl (opv_add rfl rfl) ?_
      refine ev (sees_at 0 rfl rfl) rfl rfl (opv_fieldAddr_lp fi120_0 rfl) ?_
      refine ev (sees_at 0 rfl rfl) rfl rfl (opv_fieldAddr_lp fi118_0 rfl) ?_
      refine ev (sees_at 0 rfl rfl) rfl rfl (opv_load1 ti3 rfl (.lp _ _ _ rfl) rfl) ?_
      refine ev (sees_at 0 rfl rfl) rfl rfl (opv_add rfl rfl) ?_
      refine ev (sees_at 0 rfl rfl) rfl rfl (opv_as rfl) ?_
      refine ev (sees_at 0 rfl rfl) rfl rfl (opv_as rfl) ?_
      refine ev (sees_at 0 rfl rfl) rfl rfl (opv_as rfl) ?_
      refine enil ?_
      refine then_normal ?_
      refine cret ?_
      obtain rfl := Option.some.inj h
      refine ⟨Or.inr rfl, _, _, _, (resVs_cons (ResV.tmp _ _ rfl) (resVs_cons (ResV.tmp _ _ rfl) (resVs_cons (ResV.tmp _ _ rfl) resVs_nil))), (pubA_id rfl), ?_⟩
      rfl
  · skip
    refine cregion ?_
    refine sv rfl (opv_mv rfl) ?_
    refine sv rfl (opv_lss rfl rfl) ?_
    refine sv rfl (opv_mv rfl) ?_
    refine ssplit 11 rfl (fun hc => ?_) (fun hc => ?_)
    · replace h := ite_t hc h
      clear hc
      refine soff rfl rfl rfl rfl ?_
      refine soff rfl rfl rfl rfl ?_
      refine soff rfl rfl rfl rfl ?_
      refine soff rfl rfl rfl rfl ?_
      refine sv rfl (opv_pick_t rfl rfl) ?_
      refine snil ?_
      refine ccond rfl (fun _ => ?_) (fun hx => Bool.noConfusion hx)
      refine cseq ?_
      refine cregion ?_
      refine sv rfl (opv_as rfl) ?_
      refine sv rfl (opv_as rfl) ?_
      refine sv rfl (opv_as rfl) ?_
      refine snil ?_
      refine cret ?_
      refine then_ret ?_
      obtain rfl := Option.some.inj h
      refine ⟨Or.inr rfl, _, _, _, (resVs_cons (ResV.tmp _ _ rfl) (resVs_cons (ResV.tmp _ _ rfl) (resVs_cons (ResV.tmp _ _ rfl) resVs_nil))), (pubC rfl), ?_⟩
      rfl
    · replace h := ite_f hc h
      clear hc
      refine son rfl rfl rfl ?_
      refine sv rfl (opv_mv rfl) ?_
      refine son rfl rfl rfl ?_
      refine sv rfl (opv_mv rfl) ?_
      refine son rfl rfl rfl ?_
      refine sv rfl (opv_len_sl si34 rfl) ?_
      refine son rfl rfl rfl ?_
      refine sv rfl (opv_gtr rfl rfl) ?_
      refine sv rfl (opv_pick_f rfl rfl) ?_
      refine snil ?_
      refine ccond rfl (fun hc => ?_) (fun hc => ?_)
      · replace h := ite_t hc h
        clear hc
        refine cseq ?_
        refine cregion ?_
        refine sv rfl (opv_as rfl) ?_
        refine sv rfl (opv_as rfl) ?_
        refine sv rfl (opv_as rfl) ?_
        refine snil ?_
        refine cret ?_
        refine then_ret ?_
        obtain rfl := Option.some.inj h
        refine ⟨Or.inr rfl, _, _, _, (resVs_cons (ResV.tmp _ _ rfl) (resVs_cons (ResV.tmp _ _ rfl) (resVs_cons (ResV.tmp _ _ rfl) resVs_nil))), (pubC rfl), ?_⟩
        rfl
      · replace h := ite_f hc h
        clear hc
        refine cskip ?_
        refine then_normal ?_
        exact ⟨(), _, h, ⟨rfl, rfl, trivial⟩, rfl⟩

def m40_stream_Sane (a0 : GStreamStream) : Option Bool :=
  (m47_stream_deadly a0.Dead).bind fun v1 => if v1 then (some (decide ((a0.Buf.length : Int) = 0))) else (if (!decide (a0.Dead = 0)) then (some false) else ((m48_frame_Read a0.Buf 0).bind fun v2 => if (decide ((a0.Buf.length : Int) = 0)) then (some true) else (some (decide (v2.2.2 = 2)))))

set_option maxRecDepth 100000 in
theorem m40_stream_Sane_c {a0 : GStreamStream} {r : Bool} (h : m40_stream_Sane a0 = some r) : CallsA Tryd.prog 40 [.agg a0] (· = .s (.one (.b r))) := by
  unfold m40_stream_Sane at h
  refine callsA_of Tryd.func40 rfl (nt := 31) rfl (Nat.le_of_ble_eq_true rfl) ?_
  intro w0 S0
  refine cseq ?_
  refine cregion ?_
  refine sbox rfl rfl ?_
  refine sv rfl (opv_as rfl) ?_
  refine snil ?_
  refine cseq ?_
  refine cseq ?_
  refine cregion ?_
  refine sv rfl (opv_fieldAddr_lp fi36_1 rfl) ?_
  refine sv rfl (opv_load1 ti29 rfl (.lp _ _ _ rfl) rfl) ?_
  obtain ⟨v1, hv1, h⟩ := bind_eq h
  refine scall1 rfl fn47 (opnds_cons rfl opnds_nil) (pubA_id rfl) (m47_stream_deadly_c hv1) ?_
  refine snil ?_
  refine ccond rfl (fun hc => ?_) (fun hc => ?_)
  · replace h := ite_t hc h
    clear hc
    refine cseq ?_
    refine cregion ?_
    refine sv rfl (opv_fieldAddr_lp fi36_0 rfl) ?_
    refine sv rfl (opv_load1 ti34 rfl (.lp _ _ _ rfl) rfl) ?_
    refine sv rfl (opv_len_sl si34 rfl) ?_
    refine sv rfl (opv_ieql rfl rfl) ?_
    refine sv rfl (opv_as rfl) ?_
    refine snil ?_
    refine cret ?_
    refine then_ret ?_
    obtain rfl := Option.some.inj h
    refine ⟨Or.inr rfl, _, _, _, (resVs_cons (ResV.tmp _ _ rfl) resVs_nil), (pubA_id rfl), ?_⟩
    rfl
  · replace h := ite_f hc h
    clear hc
    refine cskip ?_
    refine then_normal ?_
    refine cseq ?_
    refine cseq ?_
    refine cregion ?_
    refine sv rfl (opv_fieldAddr_lp fi36_1 rfl) ?_
    refine sv rfl (opv_load1 ti29 rfl (.lp _ _ _ rfl) rfl) ?_
    refine sv rfl (opv_ineq rfl rfl) ?_
    refine snil ?_
    refine ccond rfl (fun hc => ?_) (fun hc => ?_)
    · replace h := ite_t hc h
      clear hc
      refine cseq ?_
      refine cregion ?_
      refine sv rfl (opv_as rfl) ?_
      refine snil ?_
      refine cret ?_
      refine then_ret ?_
      obtain rfl := Option.some.inj h
      refine ⟨Or.inr rfl, _, _, _, (resVs_cons (ResV.tmp _ _ rfl) resVs_nil), (pubA_id rfl), ?_⟩
      rfl
    · replace h := ite_f hc h
      clear hc
      refine cskip ?_
      refine then_normal ?_
      refine cseq ?_
      refine cregion ?_
      refine sv rfl (opv_fieldAddr_lp fi36_0 rfl) ?_
      refine sv rfl (opv_load1 ti34 rfl (.lp _ _ _ rfl) rfl) ?_
      obtain ⟨v2, hv2, h⟩ := bind_eq h
      refine scall1 rfl fn48 (opnds_cons rfl (opnds_cons rfl opnds_nil)) (pubA_id rfl) (m48_frame_Read_c hv2) ?_
      refine sv rfl (opv_mvt rfl) ?_
      refine sv rfl (opv_extract rfl rfl) ?_
      refine sv rfl (opv_extract rfl rfl) ?_
      refine sv rfl (opv_extract rfl rfl) ?_
      refine sv rfl (opv_as rfl) ?_
      refine sv rfl (opv_as rfl) ?_
      refine sv rfl (opv_as rfl) ?_
      refine snil ?_
      refine cseq ?_
      refine cregion ?_
      refine sv rfl (opv_fieldAddr_lp fi36_0 rfl) ?_
      refine sv rfl (opv_load1 ti34 rfl (.lp _ _ _ rfl) rfl) ?_
      refine sv rfl (opv_len_sl si34 rfl) ?_
      refine sv rfl (opv_ieql rfl rfl) ?_
      refine sv rfl (opv_mv rfl) ?_
      refine ssplit 27 rfl (fun hc => ?_) (fun hc => ?_)
      · replace h := ite_t hc h
        clear hc
        refine soff rfl rfl rfl rfl ?_
        refine soff rfl rfl rfl rfl ?_
        refine sv rfl (opv_pick_t rfl rfl) ?_
        refine sv rfl (opv_as rfl) ?_
        refine snil ?_
        refine cret ?_
        obtain rfl := Option.some.inj h
        refine ⟨Or.inr rfl, _, _, _, (resVs_cons (ResV.tmp _ _ rfl) resVs_nil), (pubA_id rfl), ?_⟩
        rfl
      · replace h := ite_f hc h
        clear hc
        refine son rfl rfl rfl ?_
        refine sv rfl (opv_mv rfl) ?_
        refine son rfl rfl rfl ?_
        refine sv rfl (opv_ieql rfl rfl) ?_
        refine sv rfl (opv_pick_f rfl rfl) ?_
        refine sv rfl (opv_as rfl) ?_
        refine snil ?_
        refine cret ?_
        obtain rfl := Option.some.inj h
        refine ⟨Or.inr rfl, _, _, _, (resVs_cons (ResV.tmp _ _ rfl) resVs_nil), (pubA_id rfl), ?_⟩
        rfl

def m65_msg_isKind (a0 : Int) : Option Bool :=
  if (decide (1 ≤ a0)) then (some (decide (a0 ≤ 11))) else (some false)

set_option maxRecDepth 100000 in
theorem m65_msg_isKind_c {a0 : Int} {r : Bool} (h : m65_msg_isKind a0 = some r) : CallsA Tryd.prog 65 [.one (.i .i64 a0)] (· = .s (.one (.b r))) := by
  unfold m65_msg_isKind at h
  refine callsA_of Tryd.func65 rfl (nt := 9) rfl (Nat.le_of_ble_eq_true rfl) ?_
  intro w0 S0
  refine cseq ?_
  refine cregion ?_
  refine sv rfl (opv_as rfl) ?_
  refine snil ?_
  refine cseq ?_
  refine cregion ?_
  refine sv rfl (opv_mv rfl) ?_
  refine sv rfl (opv_geq rfl rfl) ?_
  refine sv rfl (opv_mv rfl) ?_
  refine ssplit 5 rfl (fun hc => ?_) (fun hc => ?_)
  · replace h := ite_t hc h
    clear hc
    refine son rfl rfl rfl ?_
    refine sv rfl (opv_mv rfl) ?_
    refine son rfl rfl rfl ?_
    refine sv rfl (opv_leq rfl rfl) ?_
    refine sv rfl (opv_pick_t rfl rfl) ?_
    refine sv rfl (opv_as rfl) ?_
    refine snil ?_
    refine cret ?_
    obtain rfl := Option.some.inj h
    refine ⟨Or.inr rfl, _, _, _, (resVs_cons (ResV.tmp _ _ rfl) resVs_nil), (pubA_id rfl), ?_⟩
    rfl
  · replace h := ite_f hc h
    clear hc
    refine soff rfl rfl rfl rfl ?_
    refine soff rfl rfl rfl rfl ?_
    refine sv rfl (opv_pick_f rfl rfl) ?_
    refine sv rfl (opv_as rfl) ?_
    refine snil ?_
    refine cret ?_
    obtain rfl := Option.some.inj h
    refine ⟨Or.inr rfl, _, _, _, (resVs_cons (ResV.tmp _ _ rfl) resVs_nil), (pubA_id rfl), ?_⟩
    rfl

def m64_msg_partsOf (a0 : Int) : Option GMsgParts :=
  (m65_msg_isKind a0).bind fun v1 => if (!v1) then (some (GMsgParts.mk false false false false false false)) else ((idx tab0 a0).bind fun u2 => some u2)

set_option maxRecDepth 100000 in
theorem m64_msg_partsOf_c {a0 : Int} {r : GMsgParts} (h : m64_msg_partsOf a0 = some r) : CallsA Tryd.prog 64 [.one (.i .i64 a0)] (· = .s (.agg r)) := by
  unfold m64_msg_partsOf at h
  refine callsA_of Tryd.func64 rfl (nt := 10) rfl (Nat.le_of_ble_eq_true rfl) ?_
  intro w0 S0
  refine cseq ?_
  refine cregion ?_
  refine salloc rfl zi135 ?_
  refine snil ?_
  refine cseq ?_
  refine cseq ?_
  refine cregion ?_
  refine sv rfl (opv_mv rfl) ?_
  obtain ⟨v1, hv1, h⟩ := bind_eq h
  refine scall1 rfl fn65 (opnds_cons rfl opnds_nil) (pubA_id rfl) (m65_msg_isKind_c hv1) ?_
  refine sv rfl (opv_not rfl) ?_
  refine snil ?_
  refine ccond rfl (fun hc => ?_) (fun hc => ?_)
  · replace h := ite_t hc h
    clear hc
    refine cseq ?_
    refine cregion ?_
    refine sv rfl (opv_build zi135 pi135 parts_nil (.nil _)) ?_
    refine sstore sz135 rfl rfl rfl rfl (Nat.le_of_ble_eq_true rfl) ?_
    refine smem [.box [.b false, .b false, .b false, .b false, .b false, .b false]] rfl ?_
    refine snil ?_
    refine cret ?_
    refine then_ret ?_
    obtain rfl := Option.some.inj h
    refine ⟨Or.inr rfl, _, _, _, (resVs_cons (ResV.agg _ _ _ _ _ ti135 rfl (.lp _ _ _ rfl) (Nat.le_of_ble_eq_true rfl)) resVs_nil), (pubA_id rfl), ?_⟩
    rfl
  · replace h := ite_f hc h
    clear hc
    refine cskip ?_
    refine then_normal ?_
    refine cseq ?_
    refine cregion ?_
    refine sv rfl (opv_mv rfl) ?_
    obtain ⟨u2, hu2, h⟩ := bind_eq h
    refine sv rfl (opv_gix (f := eGMsgParts) ai148 (fun _ => rfl) tab0_in rfl rfl rfl hu2) ?_
    refine sv rfl (opv_loadNe (ys := [.b u2.token_, .b u2.attempt_, .b u2.ro_, .b u2.key_, .b u2.val_, .b u2.rng_]) ti135 rfl (.cp _) rfl rfl) ?_
    refine sstore sz135 rfl rfl rfl rfl (Nat.le_of_ble_eq_true rfl) ?_
    refine smem [.box u2] rfl ?_
    refine snil ?_
    refine cret ?_
    obtain rfl := Option.some.inj h
    refine ⟨Or.inr rfl, _, _, _, (resVs_cons (ResV.agg _ _ _ _ _ ti135 rfl (.lp _ _ _ rfl) (Nat.le_of_ble_eq_true rfl)) resVs_nil), (pubA_id rfl), ?_⟩
    rfl

def m66_msg_within (a0 : Int) (a1 : Int) : Option Bool :=
  if (decide (0 ≤ a0)) then (some (decide (a0 ≤ a1))) else (some false)

set_option maxRecDepth 100000 in
theorem m66_msg_within_c {a0 : Int} {a1 : Int} {r : Bool} (h : m66_msg_within a0 a1 = some r) : CallsA Tryd.prog 66 [.one (.i .i64 a0), .one (.i .i64 a1)] (· = .s (.one (.b r))) := by
  unfold m66_msg_within at h
  refine callsA_of Tryd.func66 rfl (nt := 12) rfl (Nat.le_of_ble_eq_true rfl) ?_
  intro w0 S0
  refine cseq ?_
  refine cregion ?_
  refine sv rfl (opv_as rfl) ?_
  refine snil ?_
  refine cseq ?_
  refine cregion ?_
  refine sv rfl (opv_mv rfl) ?_
  refine sv rfl (opv_geq rfl rfl) ?_
  refine sv rfl (opv_mv rfl) ?_
  refine ssplit 7 rfl (fun hc => ?_) (fun hc => ?_)
  · replace h := ite_t hc h
    clear hc
    refine son rfl rfl rfl ?_
    refine sv rfl (opv_mv rfl) ?_
    refine son rfl rfl rfl ?_
    refine sv rfl (opv_mv rfl) ?_
    refine son rfl rfl rfl ?_
    refine sv rfl (opv_leq rfl rfl) ?_
    refine sv rfl (opv_pick_t rfl rfl) ?_
    refine sv rfl (opv_as rfl) ?_
    refine snil ?_
    refine cret ?_
    obtain rfl := Option.some.inj h
    refine ⟨Or.inr rfl, _, _, _, (resVs_cons (ResV.tmp _ _ rfl) resVs_nil), (pubA_id rfl), ?_⟩
    rfl
  · replace h := ite_f hc h
    clear hc
    refine soff rfl rfl rfl rfl ?_
    refine soff rfl rfl rfl rfl ?_
    refine soff rfl rfl rfl rfl ?_
    refine sv rfl (opv_pick_f rfl rfl) ?_
    refine sv rfl (opv_as rfl) ?_
    refine snil ?_
    refine cret ?_
    obtain rfl := Option.some.inj h
    refine ⟨Or.inr rfl, _, _, _, (resVs_cons (ResV.tmp _ _ rfl) resVs_nil), (pubA_id rfl), ?_⟩
    rfl

def m67_msg_saneNum (a0 : Bool) (a1 : Int) (a2 : Int) : Option Bool :=
  if (!a0) then (some (decide (a1 = 0))) else ((m66_msg_within a1 a2).bind fun v1 => some v1)

set_option maxRecDepth 100000 in
theorem m67_msg_saneNum_c {a0 : Bool} {a1 : Int} {a2 : Int} {r : Bool} (h : m67_msg_saneNum a0 a1 a2 = some r) : CallsA Tryd.prog 67 [.one (.b a0), .one (.i .i64 a1), .one (.i .i64 a2)] (· = .s (.one (.b r))) := by
  unfold m67_msg_saneNum at h
  refine callsA_of Tryd.func67 rfl (nt := 14) rfl (Nat.le_of_ble_eq_true rfl) ?_
  intro w0 S0
  refine cseq ?_
  refine cregion ?_
  refine sv rfl (opv_as rfl) ?_
  refine snil ?_
  refine cseq ?_
  refine cseq ?_
  refine cregion ?_
  refine sv rfl (opv_mv rfl) ?_
  refine sv rfl (opv_not rfl) ?_
  refine snil ?_
  refine ccond rfl (fun hc => ?_) (fun hc => ?_)
  · replace h := ite_t hc h
    clear hc
    refine cseq ?_
    refine cregion ?_
    refine sv rfl (opv_mv rfl) ?_
    refine sv rfl (opv_ieql rfl rfl) ?_
    refine sv rfl (opv_as rfl) ?_
    refine snil ?_
    refine cret ?_
    refine then_ret ?_
    obtain rfl := Option.some.inj h
    refine ⟨Or.inr rfl, _, _, _, (resVs_cons (ResV.tmp _ _ rfl) resVs_nil), (pubA_id rfl), ?_⟩
    rfl
  · replace h := ite_f hc h
    clear hc
    refine cskip ?_
    refine then_normal ?_
    refine cseq ?_
    refine cregion ?_
    refine sv rfl (opv_mv rfl) ?_
    refine sv rfl (opv_mv rfl) ?_
    obtain ⟨v1, hv1, h⟩ := bind_eq h
    refine scall1 rfl fn66 (opnds_cons rfl (opnds_cons rfl opnds_nil)) (pubA_id rfl) (m66_msg_within_c hv1) ?_
    refine sv rfl (opv_as rfl) ?_
    refine snil ?_
    refine cret ?_
    obtain rfl := Option.some.inj h
    refine ⟨Or.inr rfl, _, _, _, (resVs_cons (ResV.tmp _ _ rfl) resVs_nil), (pubA_id rfl), ?_⟩
    rfl

def m68_msg_saneBytes (a0 : Bool) (a1 : List UInt8) (a2 : Int) (a3 : Int) : Option Bool :=
  if (!a0) then (some (decide ((a1.length : Int) = 0))) else (if (decide (a2 ≤ (a1.length : Int))) then (some (decide ((a1.length : Int) ≤ a3))) else (some false))

set_option maxRecDepth 100000 in
theorem m68_msg_saneBytes_c {a0 : Bool} {a1 : List UInt8} {a2 : Int} {a3 : Int} {r : Bool} (h : m68_msg_saneBytes a0 a1 a2 a3 = some r) : CallsA Tryd.prog 68 [.one (.b a0), .one (.sl a1.length (a1.flatMap eU8)), .one (.i .i64 a2), .one (.i .i64 a3)] (· = .s (.one (.b r))) := by
  unfold m68_msg_saneBytes at h
  refine callsA_of Tryd.func68 rfl (nt := 24) rfl (Nat.le_of_ble_eq_true rfl) ?_
  intro w0 S0
  refine cseq ?_
  refine cregion ?_
  refine sv rfl (opv_as rfl) ?_
  refine snil ?_
  refine cseq ?_
  refine cseq ?_
  refine cregion ?_
  refine sv rfl (opv_mv rfl) ?_
  refine sv rfl (opv_not rfl) ?_
  refine snil ?_
  refine ccond rfl (fun hc => ?_) (fun hc => ?_)
  · replace h := ite_t hc h
    clear hc
    refine cseq ?_
    refine cregion ?_
    refine sv rfl (opv_mv rfl) ?_
    refine sv rfl (opv_len_sl si34 rfl) ?_
    refine sv rfl (opv_ieql rfl rfl) ?_
    refine sv rfl (opv_as rfl) ?_
    refine snil ?_
    refine cret ?_
    refine then_ret ?_
    obtain rfl := Option.some.inj h
    refine ⟨Or.inr rfl, _, _, _, (resVs_cons (ResV.tmp _ _ rfl) resVs_nil), (pubA_id rfl), ?_⟩
    rfl
  · replace h := ite_f hc h
    clear hc
    refine cskip ?_
    refine then_normal ?_
    refine cseq ?_
    refine cregion ?_
    refine sv rfl (opv_mv rfl) ?_
    refine sv rfl (opv_len_sl si34 rfl) ?_
    refine sv rfl (opv_mv rfl) ?_
    refine sv rfl (opv_geq rfl rfl) ?_
    refine sv rfl (opv_mv rfl) ?_
    refine ssplit 18 rfl (fun hc => ?_) (fun hc => ?_)
    · replace h := ite_t hc h
      clear hc
      refine son rfl rfl rfl ?_
      refine sv rfl (opv_mv rfl) ?_
      refine son rfl rfl rfl ?_
      refine sv rfl (opv_len_sl si34 rfl) ?_
      refine son rfl rfl rfl ?_
      refine sv rfl (opv_mv rfl) ?_
      refine son rfl rfl rfl ?_
      refine sv rfl (opv_leq rfl rfl) ?_
      refine sv rfl (opv_pick_t rfl rfl) ?_
      refine sv rfl (opv_as rfl) ?_
      refine snil ?_
      refine cret ?_
      obtain rfl := Option.some.inj h
      refine ⟨Or.inr rfl, _, _, _, (resVs_cons (ResV.tmp _ _ rfl) resVs_nil), (pubA_id rfl), ?_⟩
      rfl
    · replace h := ite_f hc h
      clear hc
      refine soff rfl rfl rfl rfl ?_
      refine soff rfl rfl rfl rfl ?_
      refine soff rfl rfl rfl rfl ?_
      refine soff rfl rfl rfl rfl ?_
      refine sv rfl (opv_pick_f rfl rfl) ?_
      refine sv rfl (opv_as rfl) ?_
      refine snil ?_
      refine cret ?_
      obtain rfl := Option.some.inj h
      refine ⟨Or.inr rfl, _, _, _, (resVs_cons (ResV.tmp _ _ rfl) resVs_nil), (pubA_id rfl), ?_⟩
      rfl

def m69_msg_saneRng (a0 : Bool) (a1 : GApiRange) : Option Bool :=
  if (!a0) then (if (decide ((a1.Lo.length : Int) = 0)) then (if (decide ((a1.Hi.length : Int) = 0)) then (some (!a1.Open)) else (some false)) else (some false)) else (if (decide ((a1.Lo.length : Int) ≤ 16)) then ((m68_msg_saneBytes (!a1.Open) a1.Hi 0 16).bind fun v1 => some v1) else (some false))

set_option maxRecDepth 100000 in
theorem m69_msg_saneRng_c {a0 : Bool} {a1 : GApiRange} {r : Bool} (h : m69_msg_saneRng a0 a1 = some r) : CallsA Tryd.prog 69 [.one (.b a0), .agg a1] (· = .s (.one (.b r))) := by
  unfold m69_msg_saneRng at h
  refine callsA_of Tryd.func69 rfl (nt := 34) rfl (Nat.le_of_ble_eq_true rfl) ?_
  intro w0 S0
  refine cseq ?_
  refine cregion ?_
  refine sbox rfl rfl ?_
  refine sv rfl (opv_as rfl) ?_
  refine snil ?_
  refine cseq ?_
  refine cseq ?_
  refine cregion ?_
  refine sv rfl (opv_mv rfl) ?_
  refine sv rfl (opv_not rfl) ?_
  refine snil ?_
  refine ccond rfl (fun hc => ?_) (fun hc => ?_)
  · replace h := ite_t hc h
    clear hc
    refine cseq ?_
    refine cregion ?_
    refine sv rfl (opv_fieldAddr_lp fi85_0 rfl) ?_
    refine sv rfl (opv_load1 ti34 rfl (.lp _ _ _ rfl) rfl) ?_
    refine sv rfl (opv_len_sl si34 rfl) ?_
    refine sv rfl (opv_ieql rfl rfl) ?_
    refine sv rfl (opv_mv rfl) ?_
    refine ssplit 11 rfl (fun hc => ?_) (fun hc => ?_)
    · replace h := ite_t hc h
      clear hc
      refine son rfl rfl rfl ?_
      refine sv rfl (opv_fieldAddr_lp fi85_1 rfl) ?_
      refine son rfl rfl rfl ?_
      refine sv rfl (opv_load1 ti34 rfl (.lp _ _ _ rfl) rfl) ?_
      refine son rfl rfl rfl ?_
      refine sv rfl (opv_len_sl si34 rfl) ?_
      refine son rfl rfl rfl ?_
      refine sv rfl (opv_ieql rfl rfl) ?_
      refine sv rfl (opv_pick_t rfl rfl) ?_
      refine sv rfl (opv_mv rfl) ?_
      refine ssplit 17 rfl (fun hc => ?_) (fun hc => ?_)
      · replace h := ite_t hc h
        clear hc
        refine son rfl rfl rfl ?_
        refine sv rfl (opv_fieldAddr_lp fi85_2 rfl) ?_
        refine son rfl rfl rfl ?_
        refine sv rfl (opv_load1 ti4 rfl (.lp _ _ _ rfl) rfl) ?_
        refine son rfl rfl rfl ?_
        refine sv rfl (opv_not rfl) ?_
        refine sv rfl (opv_pick_t rfl rfl) ?_
        refine sv rfl (opv_as rfl) ?_
        refine snil ?_
        refine cret ?_
        refine then_ret ?_
        obtain rfl := Option.some.inj h
        refine ⟨Or.inr rfl, _, _, _, (resVs_cons (ResV.tmp _ _ rfl) resVs_nil), (pubA_id rfl), ?_⟩
        rfl
      · replace h := ite_f hc h
        clear hc
        refine soff rfl rfl rfl rfl ?_
        refine soff rfl rfl rfl rfl ?_
        refine soff rfl rfl rfl rfl ?_
        refine sv rfl (opv_pick_f rfl rfl) ?_
        refine sv rfl (opv_as rfl) ?_
        refine snil ?_
        refine cret ?_
        refine then_ret ?_
        obtain rfl := Option.some.inj h
        refine ⟨Or.inr rfl, _, _, _, (resVs_cons (ResV.tmp _ _ rfl) resVs_nil), (pubA_id rfl), ?_⟩
        rfl
    · replace h := ite_f hc h
      clear hc
      refine soff rfl rfl rfl rfl ?_
      refine soff rfl rfl rfl rfl ?_
      refine soff rfl rfl rfl rfl ?_
      refine soff rfl rfl rfl rfl ?_
      refine sv rfl (opv_pick_f rfl rfl) ?_
      refine sv rfl (opv_mv rfl) ?_
      refine soff rfl rfl rfl rfl ?_
      refine soff rfl rfl rfl rfl ?_
      refine soff rfl rfl rfl rfl ?_
      refine sv rfl (opv_pick_f rfl rfl) ?_
      refine sv rfl (opv_as rfl) ?_
      refine snil ?_
      refine cret ?_
      refine then_ret ?_
      obtain rfl := Option.some.inj h
      refine ⟨Or.inr rfl, _, _, _, (resVs_cons (ResV.tmp _ _ rfl) resVs_nil), (pubA_id rfl), ?_⟩
      rfl
  · replace h := ite_f hc h
    clear hc
    refine cskip ?_
    refine then_normal ?_
    refine cseq ?_
    refine cregion ?_
    refine sv rfl (opv_fieldAddr_lp fi85_0 rfl) ?_
    refine sv rfl (opv_load1 ti34 rfl (.lp _ _ _ rfl) rfl) ?_
    refine sv rfl (opv_len_sl si34 rfl) ?_
    refine sv rfl (opv_leq rfl rfl) ?_
    refine sv rfl (opv_mv rfl) ?_
    refine ssplit 26 rfl (fun hc => ?_) (fun hc => ?_)
    · replace h := ite_t hc h
      clear hc
      refine son rfl rfl rfl ?_
      refine sv rfl (opv_fieldAddr_lp fi85_2 rfl) ?_
      refine son rfl rfl rfl ?_
      refine sv rfl (opv_load1 ti4 rfl (.lp _ _ _ rfl) rfl) ?_
      refine son rfl rfl rfl ?_
      refine sv rfl (opv_not rfl) ?_
      refine son rfl rfl rfl ?_
      refine sv rfl (opv_fieldAddr_lp fi85_1 rfl) ?_
      refine son rfl rfl rfl ?_
      refine sv rfl (opv_load1 ti34 rfl (.lp _ _ _ rfl) rfl) ?_
      refine son rfl rfl rfl ?_
      obtain ⟨v1, hv1, h⟩ := bind_eq h
      refine scall1 rfl fn68 (opnds_cons rfl (opnds_cons rfl (opnds_cons rfl (opnds_cons rfl opnds_nil)))) (pubA_id rfl) (m68_msg_saneBytes_c hv1) ?_
      refine sv rfl (opv_pick_t rfl rfl) ?_
      refine sv rfl (opv_as rfl) ?_
      refine snil ?_
      refine cret ?_
      obtain rfl := Option.some.inj h
      refine ⟨Or.inr rfl, _, _, _, (resVs_cons (ResV.tmp _ _ rfl) resVs_nil), (pubA_id rfl), ?_⟩
      rfl
    · replace h := ite_f hc h
      clear hc
      refine soff rfl rfl rfl rfl ?_
      refine soff rfl rfl rfl rfl ?_
      refine soff rfl rfl rfl rfl ?_
      refine soff rfl rfl rfl rfl ?_
      refine soff rfl rfl rfl rfl ?_
      refine soff rfl rfl rfl rfl ?_
      refine sv rfl (opv_pick_f rfl rfl) ?_
      refine sv rfl (opv_as rfl) ?_
      refine snil ?_
      refine cret ?_
      obtain rfl := Option.some.inj h
      refine ⟨Or.inr rfl, _, _, _, (resVs_cons (ResV.tmp _ _ rfl) resVs_nil), (pubA_id rfl), ?_⟩
      rfl

def m55_msg_SaneReq (a0 : GMsgReq) : Option Bool :=
  (m64_msg_partsOf a0.Kind).bind fun v1 => (m65_msg_isKind a0.Kind).bind fun v2 => if v2 then ((m66_msg_within a0.Seq 4294967295).bind fun v3 => if v3 then ((m67_msg_saneNum v1.token_ a0.Token 1099511627776).bind fun v4 => if v4 then ((m67_msg_saneNum v1.attempt_ a0.Attempt 65535).bind fun v5 => if v5 then (if v1.ro_ then ((m68_msg_saneBytes v1.key_ a0.Key 1 16).bind fun v6 => if v6 then ((m68_msg_saneBytes v1.val_ a0.Val 0 32).bind fun v7 => if v7 then ((m69_msg_saneRng v1.rng_ (GApiRange.mk a0.Rng.Lo a0.Rng.Hi a0.Rng.Open)).bind fun v8 => some v8) else (some false)) else (some false)) else (if (!a0.RO) then ((m68_msg_saneBytes v1.key_ a0.Key 1 16).bind fun v9 => if v9 then ((m68_msg_saneBytes v1.val_ a0.Val 0 32).bind fun v10 => if v10 then ((m69_msg_saneRng v1.rng_ (GApiRange.mk a0.Rng.Lo a0.Rng.Hi a0.Rng.Open)).bind fun v11 => some v11) else (some false)) else (some false)) else (some false))) else (some false)) else (some false)) else (some false)) else (some false)

set_option maxRecDepth 100000 in
theorem m55_msg_SaneReq_c {a0 : GMsgReq} {r : Bool} (h : m55_msg_SaneReq a0 = some r) : CallsA Tryd.prog 55 [.agg a0] (· = .s (.one (.b r))) := by
  unfold m55_msg_SaneReq at h
  refine callsA_of Tryd.func55 rfl (nt := 59) rfl (Nat.le_of_ble_eq_true rfl) ?_
  intro w0 S0
  refine cseq ?_
  refine cregion ?_
  refine sbox rfl rfl ?_
  refine sv rfl (opv_as rfl) ?_
  refine snil ?_
  refine cseq ?_
  refine cregion ?_
  refine sv rfl (opv_fieldAddr_lp fi87_0 rfl) ?_
  refine sv rfl (opv_load1 ti3 rfl (.lp _ _ _ rfl) rfl) ?_
  obtain ⟨v1, hv1, h⟩ := bind_eq h
  refine scall1 rfl fn64 (opnds_cons rfl opnds_nil) (pubA_id rfl) (m64_msg_partsOf_c hv1) ?_
  refine salloc rfl zi135 ?_
  refine sstore sz135 rfl rfl rfl rfl (Nat.le_of_ble_eq_true rfl) ?_
  refine smem [.box a0, .box v1] rfl ?_
  refine snil ?_
  refine cseq ?_
  refine cregion ?_
  refine sv rfl (opv_fieldAddr_lp fi87_0 rfl) ?_
  refine sv rfl (opv_load1 ti3 rfl (.lp _ _ _ rfl) rfl) ?_
  obtain ⟨v2, hv2, h⟩ := bind_eq h
  refine scall1 rfl fn65 (opnds_cons rfl opnds_nil) (pubA_id rfl) (m65_msg_isKind_c hv2) ?_
  refine sv rfl (opv_mv rfl) ?_
  refine ssplit 10 rfl (fun hc => ?_) (fun hc => ?_)
  · replace h := ite_t hc h
    clear hc
    refine son rfl rfl rfl ?_
    refine sv rfl (opv_fieldAddr_lp fi87_1 rfl) ?_
    refine son rfl rfl rfl ?_
    refine sv rfl (opv_load1 ti3 rfl (.lp _ _ _ rfl) rfl) ?_
    refine son rfl rfl rfl ?_
    obtain ⟨v3, hv3, h⟩ := bind_eq h
    refine scall1 rfl fn66 (opnds_cons rfl (opnds_cons rfl opnds_nil)) (pubA_id rfl) (m66_msg_within_c hv3) ?_
    refine sv rfl (opv_pick_t rfl rfl) ?_
    refine sv rfl (opv_mv rfl) ?_
    refine ssplit 15 rfl (fun hc => ?_) (fun hc => ?_)
    · replace h := ite_t hc h
      clear hc
      refine son rfl rfl rfl ?_
      refine sv rfl (opv_fieldAddr_lp fi135_0 rfl) ?_
      refine son rfl rfl rfl ?_
      refine sv rfl (opv_load1 ti4 rfl (.lp _ _ _ rfl) rfl) ?_
      refine son rfl rfl rfl ?_
      refine sv rfl (opv_fieldAddr_lp fi87_2 rfl) ?_
      refine son rfl rfl rfl ?_
      refine sv rfl (opv_load1 ti3 rfl (.lp _ _ _ rfl) rfl) ?_
      refine son rfl rfl rfl ?_
      obtain ⟨v4, hv4, h⟩ := bind_eq h
      refine scall1 rfl fn67 (opnds_cons rfl (opnds_cons rfl (opnds_cons rfl opnds_nil))) (pubA_id rfl) (m67_msg_saneNum_c hv4) ?_
      refine sv rfl (opv_pick_t rfl rfl) ?_
      refine sv rfl (opv_mv rfl) ?_
      refine ssplit 22 rfl (fun hc => ?_) (fun hc => ?_)
      · replace h := ite_t hc h
        clear hc
        refine son rfl rfl rfl ?_
        refine sv rfl (opv_fieldAddr_lp fi135_1 rfl) ?_
        refine son rfl rfl rfl ?_
        refine sv rfl (opv_load1 ti4 rfl (.lp _ _ _ rfl) rfl) ?_
        refine son rfl rfl rfl ?_
        refine sv rfl (opv_fieldAddr_lp fi87_3 rfl) ?_
        refine son rfl rfl rfl ?_
        refine sv rfl (opv_load1 ti3 rfl (.lp _ _ _ rfl) rfl) ?_
        refine son rfl rfl rfl ?_
        obtain ⟨v5, hv5, h⟩ := bind_eq h
        refine scall1 rfl fn67 (opnds_cons rfl (opnds_cons rfl (opnds_cons rfl opnds_nil))) (pubA_id rfl) (m67_msg_saneNum_c hv5) ?_
        refine sv rfl (opv_pick_t rfl rfl) ?_
        refine sv rfl (opv_mv rfl) ?_
        refine ssplit 29 rfl (fun hc => ?_) (fun hc => ?_)
        · replace h := ite_t hc h
          clear hc
          refine son rfl rfl rfl ?_
          refine sv rfl (opv_fieldAddr_lp fi135_2 rfl) ?_
          refine son rfl rfl rfl ?_
          refine sv rfl (opv_load1 ti4 rfl (.lp _ _ _ rfl) rfl) ?_
          refine son rfl rfl rfl ?_
          refine sv rfl (opv_mv rfl) ?_
          refine ssplit 32 rfl (fun hc => ?_) (fun hc => ?_)
          · replace h := ite_t hc h
            clear hc
            refine soff rfl rfl rfl rfl ?_
            refine soff rfl rfl rfl rfl ?_
            refine soff rfl rfl rfl rfl ?_
            refine son rfl rfl rfl ?_
            refine sv rfl (opv_pick_t rfl rfl) ?_
            refine sv rfl (opv_pick_t rfl rfl) ?_
            refine sv rfl (opv_mv rfl) ?_
            refine son rfl rfl rfl ?_
            refine sv rfl (opv_fieldAddr_lp fi135_3 rfl) ?_
            refine son rfl rfl rfl ?_
            refine sv rfl (opv_load1 ti4 rfl (.lp _ _ _ rfl) rfl) ?_
            refine son rfl rfl rfl ?_
            refine sv rfl (opv_fieldAddr_lp fi87_5 rfl) ?_
            refine son rfl rfl rfl ?_
            refine sv rfl (opv_load1 ti34 rfl (.lp _ _ _ rfl) rfl) ?_
            refine son rfl rfl rfl ?_
            obtain ⟨v6, hv6, h⟩ := bind_eq h
            refine scall1 rfl fn68 (opnds_cons rfl (opnds_cons rfl (opnds_cons rfl (opnds_cons rfl opnds_nil)))) (pubA_id rfl) (m68_msg_saneBytes_c hv6) ?_
            refine sv rfl (opv_pick_t rfl rfl) ?_
            refine sv rfl (opv_mv rfl) ?_
            refine ssplit 45 rfl (fun hc => ?_) (fun hc => ?_)
            · replace h := ite_t hc h
              clear hc
              refine son rfl rfl rfl ?_
              refine sv rfl (opv_fieldAddr_lp fi135_4 rfl) ?_
              refine son rfl rfl rfl ?_
              refine sv rfl (opv_load1 ti4 rfl (.lp _ _ _ rfl) rfl) ?_
              refine son rfl rfl rfl ?_
              refine sv rfl (opv_fieldAddr_lp fi87_6 rfl) ?_
              refine son rfl rfl rfl ?_
              refine sv rfl (opv_load1 ti34 rfl (.lp _ _ _ rfl) rfl) ?_
              refine son rfl rfl rfl ?_
              obtain ⟨v7, hv7, h⟩ := bind_eq h
              refine scall1 rfl fn68 (opnds_cons rfl (opnds_cons rfl (opnds_cons rfl (opnds_cons rfl opnds_nil)))) (pubA_id rfl) (m68_msg_saneBytes_c hv7) ?_
              refine sv rfl (opv_pick_t rfl rfl) ?_
              refine sv rfl (opv_mv rfl) ?_
              refine ssplit 52 rfl (fun hc => ?_) (fun hc => ?_)
              · replace h := ite_t hc h
                clear hc
                refine son rfl rfl rfl ?_
                refine sv rfl (opv_fieldAddr_lp fi135_5 rfl) ?_
                refine son rfl rfl rfl ?_
                refine sv rfl (opv_load1 ti4 rfl (.lp _ _ _ rfl) rfl) ?_
                refine son rfl rfl rfl ?_
                refine sv rfl (opv_fieldAddr_lp fi87_7 rfl) ?_
                refine son rfl rfl rfl ?_
                refine sv rfl (opv_loadN ti85 rfl (.lp _ _ _ rfl) (Nat.le_of_ble_eq_true rfl)) ?_
                refine son rfl rfl rfl ?_
                obtain ⟨v8, hv8, h⟩ := bind_eq h
                refine scall1 rfl fn69 (opnds_cons rfl (opnds_cons rfl opnds_nil)) (pubA_id rfl) (m69_msg_saneRng_c hv8) ?_
                refine sv rfl (opv_pick_t rfl rfl) ?_
                refine sv rfl (opv_as rfl) ?_
                refine snil ?_
                refine cret ?_
                obtain rfl := Option.some.inj h
                refine ⟨Or.inr rfl, _, _, _, (resVs_cons (ResV.tmp _ _ rfl) resVs_nil), (pubA_id rfl), ?_⟩
                rfl
              · replace h := ite_f hc h
                clear hc
                refine soff rfl rfl rfl rfl ?_
                refine soff rfl rfl rfl rfl ?_
                refine soff rfl rfl rfl rfl ?_
                refine soff rfl rfl rfl rfl ?_
                refine soff rfl rfl rfl rfl ?_
                refine sv rfl (opv_pick_f rfl rfl) ?_
                refine sv rfl (opv_as rfl) ?_
                refine snil ?_
                refine cret ?_
                obtain rfl := Option.some.inj h
                refine ⟨Or.inr rfl, _, _, _, (resVs_cons (ResV.tmp _ _ rfl) resVs_nil), (pubA_id rfl), ?_⟩
                rfl
            · replace h := ite_f hc h
              clear hc
              refine soff rfl rfl rfl rfl ?_
              refine soff rfl rfl rfl rfl ?_
              refine soff rfl rfl rfl rfl ?_
              refine soff rfl rfl rfl rfl ?_
              refine soff rfl rfl rfl rfl ?_
              refine sv rfl (opv_pick_f rfl rfl) ?_
              refine sv rfl (opv_mv rfl) ?_
              refine soff rfl rfl rfl rfl ?_
              refine soff rfl rfl rfl rfl ?_
              refine soff rfl rfl rfl rfl ?_
              refine soff rfl rfl rfl rfl ?_
              refine soff rfl rfl rfl rfl ?_
              refine sv rfl (opv_pick_f rfl rfl) ?_
              refine sv rfl (opv_as rfl) ?_
              refine snil ?_
              refine cret ?_
              obtain rfl := Option.some.inj h
              refine ⟨Or.inr rfl, _, _, _, (resVs_cons (ResV.tmp _ _ rfl) resVs_nil), (pubA_id rfl), ?_⟩
              rfl
          · replace h := ite_f hc h
            clear hc
            refine son rfl rfl rfl ?_
            refine sv rfl (opv_fieldAddr_lp fi87_4 rfl) ?_
            refine son rfl rfl rfl ?_
            refine sv rfl (opv_load1 ti4 rfl (.lp _ _ _ rfl) rfl) ?_
            refine son rfl rfl rfl ?_
            refine sv rfl (opv_not rfl) ?_
            refine son rfl rfl rfl ?_
            refine sv rfl (opv_pick_f rfl rfl) ?_
            refine sv rfl (opv_pick_t rfl rfl) ?_
            refine sv rfl (opv_mv rfl) ?_
            refine ssplit 38 rfl (fun hc => ?_) (fun hc => ?_)
            · replace h := ite_t hc h
              clear hc
              refine son rfl rfl rfl ?_
              refine sv rfl (opv_fieldAddr_lp fi135_3 rfl) ?_
              refine son rfl rfl rfl ?_
              refine sv rfl (opv_load1 ti4 rfl (.lp _ _ _ rfl) rfl) ?_
              refine son rfl rfl rfl ?_
              refine sv rfl (opv_fieldAddr_lp fi87_5 rfl) ?_
              refine son rfl rfl rfl ?_
              refine sv rfl (opv_load1 ti34 rfl (.lp _ _ _ rfl) rfl) ?_
              refine son rfl rfl rfl ?_
              obtain ⟨v9, hv9, h⟩ := bind_eq h
              refine scall1 rfl fn68 (opnds_cons rfl (opnds_cons rfl (opnds_cons rfl (opnds_cons rfl opnds_nil)))) (pubA_id rfl) (m68_msg_saneBytes_c hv9) ?_
              refine sv rfl (opv_pick_t rfl rfl) ?_
              refine sv rfl (opv_mv rfl) ?_
              refine ssplit 45 rfl (fun hc => ?_) (fun hc => ?_)
              · replace h := ite_t hc h
                clear hc
                refine son rfl rfl rfl ?_
                refine sv rfl (opv_fieldAddr_lp fi135_4 rfl) ?_
                refine son rfl rfl rfl ?_
                refine sv rfl (opv_load1 ti4 rfl (.lp _ _ _ rfl) rfl) ?_
                refine son rfl rfl rfl ?_
                refine sv rfl (opv_fieldAddr_lp fi87_6 rfl) ?_
                refine son rfl rfl rfl ?_
                refine sv rfl (opv_load1 ti34 rfl (.lp _ _ _ rfl) rfl) ?_
                refine son rfl rfl rfl ?_
                obtain ⟨v10, hv10, h⟩ := bind_eq h
                refine scall1 rfl fn68 (opnds_cons rfl (opnds_cons rfl (opnds_cons rfl (opnds_cons rfl opnds_nil)))) (pubA_id rfl) (m68_msg_saneBytes_c hv10) ?_
                refine sv rfl (opv_pick_t rfl rfl) ?_
                refine sv rfl (opv_mv rfl) ?_
                refine ssplit 52 rfl (fun hc => ?_) (fun hc => ?_)
                · replace h := ite_t hc h
                  clear hc
                  refine son rfl rfl rfl ?_
                  refine sv rfl (opv_fieldAddr_lp fi135_5 rfl) ?_
                  refine son rfl rfl rfl ?_
                  refine sv rfl (opv_load1 ti4 rfl (.lp _ _ _ rfl) rfl) ?_
                  refine son rfl rfl rfl ?_
                  refine sv rfl (opv_fieldAddr_lp fi87_7 rfl) ?_
                  refine son rfl rfl rfl ?_
                  refine sv rfl (opv_loadN ti85 rfl (.lp _ _ _ rfl) (Nat.le_of_ble_eq_true rfl)) ?_
                  refine son rfl rfl rfl ?_
                  obtain ⟨v11, hv11, h⟩ := bind_eq h
                  refine scall1 rfl fn69 (opnds_cons rfl (opnds_cons rfl opnds_nil)) (pubA_id rfl) (m69_msg_saneRng_c hv11) ?_
                  refine sv rfl (opv_pick_t rfl rfl) ?_
                  refine sv rfl (opv_as rfl) ?_
                  refine snil ?_
                  refine cret ?_
                  obtain rfl := Option.some.inj h
                  refine ⟨Or.inr rfl, _, _, _, (resVs_cons (ResV.tmp _ _ rfl) resVs_nil), (pubA_id rfl), ?_⟩
                  rfl
                · replace h := ite_f hc h
                  clear hc
                  refine soff rfl rfl rfl rfl ?_
                  refine soff rfl rfl rfl rfl ?_
                  refine soff rfl rfl rfl rfl ?_
                  refine soff rfl rfl rfl rfl ?_
                  refine soff rfl rfl rfl rfl ?_
                  refine sv rfl (opv_pick_f rfl rfl) ?_
                  refine sv rfl (opv_as rfl) ?_
                  refine snil ?_
                  refine cret ?_
                  obtain rfl := Option.some.inj h
                  refine ⟨Or.inr rfl, _, _, _, (resVs_cons (ResV.tmp _ _ rfl) resVs_nil), (pubA_id rfl), ?_⟩
                  rfl
              · replace h := ite_f hc h
                clear hc
                refine soff rfl rfl rfl rfl ?_
                refine soff rfl rfl rfl rfl ?_
                refine soff rfl rfl rfl rfl ?_
                refine soff rfl rfl rfl rfl ?_
                refine soff rfl rfl rfl rfl ?_
                refine sv rfl (opv_pick_f rfl rfl) ?_
                refine sv rfl (opv_mv rfl) ?_
                refine soff rfl rfl rfl rfl ?_
                refine soff rfl rfl rfl rfl ?_
                refine soff rfl rfl rfl rfl ?_
                refine soff rfl rfl rfl rfl ?_
                refine soff rfl rfl rfl rfl ?_
                refine sv rfl (opv_pick_f rfl rfl) ?_
                refine sv rfl (opv_as rfl) ?_
                refine snil ?_
                refine cret ?_
                obtain rfl := Option.some.inj h
                refine ⟨Or.inr rfl, _, _, _, (resVs_cons (ResV.tmp _ _ rfl) resVs_nil), (pubA_id rfl), ?_⟩
                rfl
            · replace h := ite_f hc h
              clear hc
              refine soff rfl rfl rfl rfl ?_
              refine soff rfl rfl rfl rfl ?_
              refine soff rfl rfl rfl rfl ?_
              refine soff rfl rfl rfl rfl ?_
              refine soff rfl rfl rfl rfl ?_
              refine sv rfl (opv_pick_f rfl rfl) ?_
              refine sv rfl (opv_mv rfl) ?_
              refine soff rfl rfl rfl rfl ?_
              refine soff rfl rfl rfl rfl ?_
              refine soff rfl rfl rfl rfl ?_
              refine soff rfl rfl rfl rfl ?_
              refine soff rfl rfl rfl rfl ?_
              refine sv rfl (opv_pick_f rfl rfl) ?_
              refine sv rfl (opv_mv rfl) ?_
              refine soff rfl rfl rfl rfl ?_
              refine soff rfl rfl rfl rfl ?_
              refine soff rfl rfl rfl rfl ?_
              refine soff rfl rfl rfl rfl ?_
              refine soff rfl rfl rfl rfl ?_
              refine sv rfl (opv_pick_f rfl rfl) ?_
              refine sv rfl (opv_as rfl) ?_
              refine snil ?_
              refine cret ?_
              obtain rfl := Option.some.inj h
              refine ⟨Or.inr rfl, _, _, _, (resVs_cons (ResV.tmp _ _ rfl) resVs_nil), (pubA_id rfl), ?_⟩
              rfl
        · replace h := ite_f hc h
          clear hc
          refine soff rfl rfl rfl rfl ?_
          refine soff rfl rfl rfl rfl ?_
          refine soff rfl rfl rfl rfl ?_
          refine soffu rfl rfl rfl ?_
          refine soffu rfl rfl rfl ?_
          refine soffu rfl rfl rfl ?_
          refine soff rfl rfl rfl rfl ?_
          refine sv rfl (opv_pick_f rfl rfl) ?_
          refine sv rfl (opv_mv rfl) ?_
          refine soff rfl rfl rfl rfl ?_
          refine soff rfl rfl rfl rfl ?_
          refine soff rfl rfl rfl rfl ?_
          refine soff rfl rfl rfl rfl ?_
          refine soff rfl rfl rfl rfl ?_
          refine sv rfl (opv_pick_f rfl rfl) ?_
          refine sv rfl (opv_mv rfl) ?_
          refine soff rfl rfl rfl rfl ?_
          refine soff rfl rfl rfl rfl ?_
          refine soff rfl rfl rfl rfl ?_
          refine soff rfl rfl rfl rfl ?_
          refine soff rfl rfl rfl rfl ?_
          refine sv rfl (opv_pick_f rfl rfl) ?_
          refine sv rfl (opv_mv rfl) ?_
          refine soff rfl rfl rfl rfl ?_
          refine soff rfl rfl rfl rfl ?_
          refine soff rfl rfl rfl rfl ?_
          refine soff rfl rfl rfl rfl ?_
          refine soff rfl rfl rfl rfl ?_
          refine sv rfl (opv_pick_f rfl rfl) ?_
          refine sv rfl (opv_as rfl) ?_
          refine snil ?_
          refine cret ?_
          obtain rfl := Option.some.inj h
          refine ⟨Or.inr rfl, _, _, _, (resVs_cons (ResV.tmp _ _ rfl) resVs_nil), (pubA_id rfl), ?_⟩
          rfl
      · replace h := ite_f hc h
        clear hc
        refine soff rfl rfl rfl rfl ?_
        refine soff rfl rfl rfl rfl ?_
        refine soff rfl rfl rfl rfl ?_
        refine soff rfl rfl rfl rfl ?_
        refine soff rfl rfl rfl rfl ?_
        refine sv rfl (opv_pick_f rfl rfl) ?_
        refine sv rfl (opv_mv rfl) ?_
        refine soff rfl rfl rfl rfl ?_
        refine soff rfl rfl rfl rfl ?_
        refine soff rfl rfl rfl rfl ?_
        refine soffu rfl rfl rfl ?_
        refine soffu rfl rfl rfl ?_
        refine soffu rfl rfl rfl ?_
        refine soff rfl rfl rfl rfl ?_
        refine sv rfl (opv_pick_f rfl rfl) ?_
        refine sv rfl (opv_mv rfl) ?_
        refine soff rfl rfl rfl rfl ?_
        refine soff rfl rfl rfl rfl ?_
        refine soff rfl rfl rfl rfl ?_
        refine soff rfl rfl rfl rfl ?_
        refine soff rfl rfl rfl rfl ?_
        refine sv rfl (opv_pick_f rfl rfl) ?_
        refine sv rfl (opv_mv rfl) ?_
        refine soff rfl rfl rfl rfl ?_
        refine soff rfl rfl rfl rfl ?_
        refine soff rfl rfl rfl rfl ?_
        refine soff rfl rfl rfl rfl ?_
        refine soff rfl rfl rfl rfl ?_
        refine sv rfl (opv_pick_f rfl rfl) ?_
        refine sv rfl (opv_mv rfl) ?_
        refine soff rfl rfl rfl rfl ?_
        refine soff rfl rfl rfl rfl ?_
        refine soff rfl rfl rfl rfl ?_
        refine soff rfl rfl rfl rfl ?_
        refine soff rfl rfl rfl rfl ?_
        refine sv rfl (opv_pick_f rfl rfl) ?_
        refine sv rfl (opv_as rfl) ?_
        refine snil ?_
        refine cret ?_
        obtain rfl := Option.some.inj h
        refine ⟨Or.inr rfl, _, _, _, (resVs_cons (ResV.tmp _ _ rfl) resVs_nil), (pubA_id rfl), ?_⟩
        rfl
    · replace h := ite_f hc h
      clear hc
      refine soff rfl rfl rfl rfl ?_
      refine soff rfl rfl rfl rfl ?_
      refine soff rfl rfl rfl rfl ?_
      refine soff rfl rfl rfl rfl ?_
      refine soff rfl rfl rfl rfl ?_
      refine sv rfl (opv_pick_f rfl rfl) ?_
      refine sv rfl (opv_mv rfl) ?_
      refine soff rfl rfl rfl rfl ?_
      refine soff rfl rfl rfl rfl ?_
      refine soff rfl rfl rfl rfl ?_
      refine soff rfl rfl rfl rfl ?_
      refine soff rfl rfl rfl rfl ?_
      refine sv rfl (opv_pick_f rfl rfl) ?_
      refine sv rfl (opv_mv rfl) ?_
      refine soff rfl rfl rfl rfl ?_
      refine soff rfl rfl rfl rfl ?_
      refine soff rfl rfl rfl rfl ?_
      refine soffu rfl rfl rfl ?_
      refine soffu rfl rfl rfl ?_
      refine soffu rfl rfl rfl ?_
      refine soff rfl rfl rfl rfl ?_
      refine sv rfl (opv_pick_f rfl rfl) ?_
      refine sv rfl (opv_mv rfl) ?_
      refine soff rfl rfl rfl rfl ?_
      refine soff rfl rfl rfl rfl ?_
      refine soff rfl rfl rfl rfl ?_
      refine soff rfl rfl rfl rfl ?_
      refine soff rfl rfl rfl rfl ?_
      refine sv rfl (opv_pick_f rfl rfl) ?_
      refine sv rfl (opv_mv rfl) ?_
      refine soff rfl rfl rfl rfl ?_
      refine soff rfl rfl rfl rfl ?_
      refine soff rfl rfl rfl rfl ?_
      refine soff rfl rfl rfl rfl ?_
      refine soff rfl rfl rfl rfl ?_
      refine sv rfl (opv_pick_f rfl rfl) ?_
      refine sv rfl (opv_mv rfl) ?_
      refine soff rfl rfl rfl rfl ?_
      refine soff rfl rfl rfl rfl ?_
      refine soff rfl rfl rfl rfl ?_
      refine soff rfl rfl rfl rfl ?_
      refine soff rfl rfl rfl rfl ?_
      refine sv rfl (opv_pick_f rfl rfl) ?_
      refine sv rfl (opv_as rfl) ?_
      refine snil ?_
      refine cret ?_
      obtain rfl := Option.some.inj h
      refine ⟨Or.inr rfl, _, _, _, (resVs_cons (ResV.tmp _ _ rfl) resVs_nil), (pubA_id rfl), ?_⟩
      rfl
  · replace h := ite_f hc h
    clear hc
    refine soff rfl rfl rfl rfl ?_
    refine soff rfl rfl rfl rfl ?_
    refine soff rfl rfl rfl rfl ?_
    refine sv rfl (opv_pick_f rfl rfl) ?_
    refine sv rfl (opv_mv rfl) ?_
    refine soff rfl rfl rfl rfl ?_
    refine soff rfl rfl rfl rfl ?_
    refine soff rfl rfl rfl rfl ?_
    refine soff rfl rfl rfl rfl ?_
    refine soff rfl rfl rfl rfl ?_
    refine sv rfl (opv_pick_f rfl rfl) ?_
    refine sv rfl (opv_mv rfl) ?_
    refine soff rfl rfl rfl rfl ?_
    refine soff rfl rfl rfl rfl ?_
    refine soff rfl rfl rfl rfl ?_
    refine soff rfl rfl rfl rfl ?_
    refine soff rfl rfl rfl rfl ?_
    refine sv rfl (opv_pick_f rfl rfl) ?_
    refine sv rfl (opv_mv rfl) ?_
    refine soff rfl rfl rfl rfl ?_
    refine soff rfl rfl rfl rfl ?_
    refine soff rfl rfl rfl rfl ?_
    refine soffu rfl rfl rfl ?_
    refine soffu rfl rfl rfl ?_
    refine soffu rfl rfl rfl ?_
    refine soff rfl rfl rfl rfl ?_
    refine sv rfl (opv_pick_f rfl rfl) ?_
    refine sv rfl (opv_mv rfl) ?_
    refine soff rfl rfl rfl rfl ?_
    refine soff rfl rfl rfl rfl ?_
    refine soff rfl rfl rfl rfl ?_
    refine soff rfl rfl rfl rfl ?_
    refine soff rfl rfl rfl rfl ?_
    refine sv rfl (opv_pick_f rfl rfl) ?_
    refine sv rfl (opv_mv rfl) ?_
    refine soff rfl rfl rfl rfl ?_
    refine soff rfl rfl rfl rfl ?_
    refine soff rfl rfl rfl rfl ?_
    refine soff rfl rfl rfl rfl ?_
    refine soff rfl rfl rfl rfl ?_
    refine sv rfl (opv_pick_f rfl rfl) ?_
    refine sv rfl (opv_mv rfl) ?_
    refine soff rfl rfl rfl rfl ?_
    refine soff rfl rfl rfl rfl ?_
    refine soff rfl rfl rfl rfl ?_
    refine soff rfl rfl rfl rfl ?_
    refine soff rfl rfl rfl rfl ?_
    refine sv rfl (opv_pick_f rfl rfl) ?_
    refine sv rfl (opv_as rfl) ?_
    refine snil ?_
    refine cret ?_
    obtain rfl := Option.some.inj h
    refine ⟨Or.inr rfl, _, _, _, (resVs_cons (ResV.tmp _ _ rfl) resVs_nil), (pubA_id rfl), ?_⟩
    rfl

def m49_pipe_saneWait_k1 (a0 : GPipePipe) (b1 : Unit) : Option Bool :=
  some (decide ((a0.Wait.length : Int) ≤ 8))

def m49_pipe_saneWait_k4 (s2 : Int × Int) (u3 : GMsgReq) (b4 : Unit) : Option (LR (Int × Int) (Unit) (Bool)) :=
  some (.cont ((wI (u3.Seq + 1)), (wI (s2.2 + 1))))

def m49_pipe_saneWait_s2 (a0 : GPipePipe) (s2 : Int × Int) : Option (LR (Int × Int) (Unit) (Bool)) :=
  if (decide (s2.2 < (a0.Wait.length : Int))) then ((idx a0.Wait s2.2).bind fun u3 => (m55_msg_SaneReq (GMsgReq.mk u3.Kind u3.Seq u3.Token u3.Attempt u3.RO u3.Key u3.Val (GApiRange.mk u3.Rng.Lo u3.Rng.Hi u3.Rng.Open))).bind fun v5 => if (!v5) then (some (.ret false)) else (if (decide (u3.Seq < s2.1)) then (some (.ret false)) else (if (decide ((wI (a0.Next + 8)) ≤ u3.Seq)) then (some (.ret false)) else (m49_pipe_saneWait_k4 s2 u3 ())))) else (some (.brk ()))
def m49_pipe_saneWait (a0 : GPipePipe) : Option Bool :=
  (iter (m49_pipe_saneWait_s2 a0) fuel (a0.Next, 0)).bind fun x => match x with | .inl r => some r | .inr e6 => m49_pipe_saneWait_k1 a0 e6

set_option maxRecDepth 100000 in
theorem m49_pipe_saneWait_c {a0 : GPipePipe} {r : Bool} (h : m49_pipe_saneWait a0 = some r) : CallsA Tryd.prog 49 [.agg a0] (· = .s (.one (.b r))) := by
  unfold m49_pipe_saneWait at h
  refine callsA_of Tryd.func49 rfl (nt := 40) rfl (Nat.le_of_ble_eq_true rfl) ?_
  intro w0 S0
  refine cseq ?_
  refine cregion ?_
  refine sbox rfl rfl ?_
  refine sv rfl (opv_as rfl) ?_
  refine snil ?_
  refine cseq ?_
  refine cregion ?_
  refine sv rfl (opv_fieldAddr_lp fi43_1 rfl) ?_
  refine sv rfl (opv_load1 ti3 rfl (.lp _ _ _ rfl) rfl) ?_
  refine sv rfl (opv_as rfl) ?_
  refine snil ?_
  refine cseq ?_
  refine cseq ?_
  refine cregion ?_
  refine sv rfl (opv_fieldAddr_lp fi43_2 rfl) ?_
  refine sv rfl (opv_load1 ti40 rfl (.lp _ _ _ rfl) rfl) ?_
  refine sv rfl (opv_len_sl si40 rfl) ?_
  refine sv rfl (opv_mv rfl) ?_
  refine snil ?_
  refine cjoin (Unit) (fun b1 => [(1, .s (.one (.lp 0 0)))]) (fun b1 => [.box a0]) (fun b1 => m49_pipe_saneWait_k1 a0 b1 = some r) (fun _ _ => inbL_of rfl) (fun _ _ => blkinb_of rfl) (fun _ _ => Nat.le_of_ble_eq_true rfl) (fun b1 h => ?_) ?_
  · unfold m49_pipe_saneWait_k1 at h
    refine cseq ?_
    refine cregion ?_
    refine sv rfl (opv_fieldAddr_lp fi43_2 rfl) ?_
    refine sv rfl (opv_load1 ti40 rfl (.lp _ _ _ rfl) rfl) ?_
    refine sv rfl (opv_len_sl si40 rfl) ?_
    refine sv rfl (opv_leq rfl rfl) ?_
    refine sv rfl (opv_as rfl) ?_
    refine snil ?_
    refine cret ?_
    obtain rfl := Option.some.inj h
    refine ⟨Or.inr rfl, _, _, _, (resVs_cons (ResV.tmp _ _ rfl) resVs_nil), (pubA_id rfl), ?_⟩
    rfl
  · skip
    refine cblock ?_
    obtain ⟨x2, hx2, ho2⟩ := bind_eq h
    refine awc_loop (G := Nat × (Int × Int)) (fun g => [(1, .s (.one (.lp 0 0))), (3, .s (.one (.i .i64 g.2.1))), (9, .s (.one (.sl a0.Wait.length (a0.Wait.flatMap eGMsgReq)))), (10, .s (.one (.i .i64 (a0.Wait.length : Int)))), (11, .s (.one (.i .i64 g.2.2)))]) (fun g => [.box a0]) (fun g => iter (m49_pipe_saneWait_s2 a0) g.1 g.2 = some x2) (fun g => g.1) (fuel, (a0.Next, 0)) hx2 ⟨rfl, rfl, rfl, rfl, rfl, trivial⟩ [] rfl (fun _ _ => inbL_of rfl) (fun _ _ => blkinb_of rfl) (fun _ _ => Nat.le_of_ble_eq_true rfl) ?_
    clear hx2 h
    rintro ⟨n2, s2⟩ h
    obtain ⟨n2, y2, rfl, h, hk2⟩ := iter_eq h
    unfold m49_pipe_saneWait_s2 at h
    refine cseq ?_
    refine cregion ?_
    refine sv rfl (opv_lss rfl rfl) ?_
    refine snil ?_
    refine cseq ?_
    refine ccond rfl (fun hc => ?_) (fun hc => ?_)
    · replace h := ite_t hc h
      clear hc
      refine cskip ?_
      refine then_normal ?_
      refine cseq ?_
      refine cblock ?_
      refine cseq ?_
      refine cregion ?_
      obtain ⟨u3, hu3, h⟩ := bind_eq h
      refine sv rfl (opv_ix (f := eGMsgReq) si40 (fun _ => rfl) rfl rfl rfl rfl hu3) ?_
      refine sv rfl (opv_loadNe (ys := [.i .i64 u3.Kind, .i .i64 u3.Seq, .i .i64 u3.Token, .i .i64 u3.Attempt, .b u3.RO, .sl u3.Key.length (u3.Key.flatMap eU8), .sl u3.Val.length (u3.Val.flatMap eU8), .sl u3.Rng.Lo.length (u3.Rng.Lo.flatMap eU8), .sl u3.Rng.Hi.length (u3.Rng.Hi.flatMap eU8), .b u3.Rng.Open]) ti87 rfl (.cp _) rfl rfl) ?_
      refine salloc rfl zi87 ?_
      refine sstore sz87 rfl rfl rfl rfl (Nat.le_of_ble_eq_true rfl) ?_
      refine smem [.box a0, .box u3] rfl ?_
      refine snil ?_
      refine cseq ?_
      refine cseq ?_
      refine cjoin3 (Unit) (fun b4 => [(1, .s (.one (.lp 0 0))), (5, .s (.one (.lp 1 0))), (9, .s (.one (.sl a0.Wait.length (a0.Wait.flatMap eGMsgReq)))), (10, .s (.one (.i .i64 (a0.Wait.length : Int)))), (11, .s (.one (.i .i64 s2.2)))]) (fun b4 => [.box a0, .box u3]) (fun b4 => m49_pipe_saneWait_k4 s2 u3 b4 = some y2) (fun _ _ => inbL_of rfl) (fun _ _ => blkinb_of rfl) (fun _ _ => Nat.le_of_ble_eq_true rfl) (fun b4 h => ?_) ?_
      · unfold m49_pipe_saneWait_k4 at h
        refine cregion ?_
        refine sv rfl (opv_fieldAddr_lp fi87_1 rfl) ?_
        refine sv rfl (opv_load1 ti3 rfl (.lp _ _ _ rfl) rfl) ?_
        refine sv rfl (opv_add rfl rfl) ?_
        refine sv rfl (opv_as rfl) ?_
        refine snil0 ?_
        refine block_normal ?_
        refine then_normal ?_
        refine cregion ?_
        refine sv rfl (opv_add rfl rfl) ?_
        refine sv rfl (opv_mv rfl) ?_
        refine snil ?_
        obtain rfl := Option.some.inj h
        exact ⟨(n2, ((wI (u3.Seq + 1)), (wI (s2.2 + 1)))), _, hk2, ⟨rfl, rfl, rfl, rfl, rfl, trivial⟩, rfl, Nat.lt_succ_self _⟩
      · skip
        refine cregion ?_
        refine sv rfl (opv_loadN ti87 rfl (.lp _ _ _ rfl) (Nat.le_of_ble_eq_true rfl)) ?_
        obtain ⟨v5, hv5, h⟩ := bind_eq h
        refine scall1 rfl fn55 (opnds_cons rfl opnds_nil) (pubA_id rfl) (m55_msg_SaneReq_c hv5) ?_
        refine sv rfl (opv_not rfl) ?_
        refine sv rfl (opv_mv rfl) ?_
        refine ssplit 18 rfl (fun hc => ?_) (fun hc => ?_)
        · replace h := ite_t hc h
          clear hc
          refine soff rfl rfl rfl rfl ?_
          refine soff rfl rfl rfl rfl ?_
          refine soff rfl rfl rfl rfl ?_
          refine soff rfl rfl rfl rfl ?_
          refine sv rfl (opv_pick_t rfl rfl) ?_
          refine sv rfl (opv_mv rfl) ?_
          refine soff rfl rfl rfl rfl ?_
          refine soff rfl rfl rfl rfl ?_
          refine soff rfl rfl rfl rfl ?_
          refine soff rfl rfl rfl rfl ?_
          refine soff rfl rfl rfl rfl ?_
          refine soff rfl rfl rfl rfl ?_
          refine sv rfl (opv_pick_t rfl rfl) ?_
          refine snil ?_
          refine ccond rfl (fun _ => ?_) (fun hx => Bool.noConfusion hx)
          refine cseq ?_
          refine cregion ?_
          refine sv rfl (opv_as rfl) ?_
          refine snil ?_
          refine cret ?_
          refine then_ret ?_
          refine block_ret ?_
          refine then_ret ?_
          refine then_ret ?_
          refine block_ret ?_
          refine then_ret ?_
          obtain rfl := Option.some.inj h
          obtain rfl : Sum.inl _ = x2 := hk2
          replace ho2 : some _ = some _ := ho2
          obtain rfl := Option.some.inj ho2
          refine ⟨Or.inr rfl, _, _, _, (resVs_cons (ResV.tmp _ _ rfl) resVs_nil), (pubA_id rfl), ?_⟩
          rfl
        · replace h := ite_f hc h
          clear hc
          refine son rfl rfl rfl ?_
          refine sv rfl (opv_fieldAddr_lp fi87_1 rfl) ?_
          refine son rfl rfl rfl ?_
          refine sv rfl (opv_load1 ti3 rfl (.lp _ _ _ rfl) rfl) ?_
          refine son rfl rfl rfl ?_
          refine sv rfl (opv_mv rfl) ?_
          refine son rfl rfl rfl ?_
          refine sv rfl (opv_lss rfl rfl) ?_
          refine sv rfl (opv_pick_f rfl rfl) ?_
          refine sv rfl (opv_mv rfl) ?_
          refine ssplit 24 rfl (fun hc => ?_) (fun hc => ?_)
          · replace h := ite_t hc h
            clear hc
            refine soff rfl rfl rfl rfl ?_
            refine soff rfl rfl rfl rfl ?_
            refine soff rfl rfl rfl rfl ?_
            refine soff rfl rfl rfl rfl ?_
            refine soff rfl rfl rfl rfl ?_
            refine soff rfl rfl rfl rfl ?_
            refine sv rfl (opv_pick_t rfl rfl) ?_
            refine snil ?_
            refine ccond rfl (fun _ => ?_) (fun hx => Bool.noConfusion hx)
            refine cseq ?_
            refine cregion ?_
            refine sv rfl (opv_as rfl) ?_
            refine snil ?_
            refine cret ?_
            refine then_ret ?_
            refine block_ret ?_
            refine then_ret ?_
            refine then_ret ?_
            refine block_ret ?_
            refine then_ret ?_
            obtain rfl := Option.some.inj h
            obtain rfl : Sum.inl _ = x2 := hk2
            replace ho2 : some _ = some _ := ho2
            obtain rfl := Option.some.inj ho2
            refine ⟨Or.inr rfl, _, _, _, (resVs_cons (ResV.tmp _ _ rfl) resVs_nil), (pubA_id rfl), ?_⟩
            rfl
          · replace h := ite_f hc h
            clear hc
            refine son rfl rfl rfl ?_
            refine sv rfl (opv_fieldAddr_lp fi87_1 rfl) ?_
            refine son rfl rfl rfl ?_
            refine sv rfl (opv_load1 ti3 rfl (.lp _ _ _ rfl) rfl) ?_
            refine son rfl rfl rfl ?_
            refine sv rfl (opv_fieldAddr_lp fi43_1 rfl) ?_
            refine son rfl rfl rfl ?_
            refine sv rfl (opv_load1 ti3 rfl (.lp _ _ _ rfl) rfl) ?_
            refine son rfl rfl rfl ?_
            refine sv rfl (opv_add rfl rfl) ?_
            refine son rfl rfl rfl ?_
            refine sv rfl (opv_geq rfl rfl) ?_
            refine sv rfl (opv_pick_f rfl rfl) ?_
            refine snil ?_
            refine ccond rfl (fun hc => ?_) (fun hc => ?_)
            · replace h := ite_t hc h
              clear hc
              refine cseq ?_
              refine cregion ?_
              refine sv rfl (opv_as rfl) ?_
              refine snil ?_
              refine cret ?_
              refine then_ret ?_
              refine block_ret ?_
              refine then_ret ?_
              refine then_ret ?_
              refine block_ret ?_
              refine then_ret ?_
              obtain rfl := Option.some.inj h
              obtain rfl : Sum.inl _ = x2 := hk2
              replace ho2 : some _ = some _ := ho2
              obtain rfl := Option.some.inj ho2
              refine ⟨Or.inr rfl, _, _, _, (resVs_cons (ResV.tmp _ _ rfl) resVs_nil), (pubA_id rfl), ?_⟩
              rfl
            · replace h := ite_f hc h
              clear hc
              refine cskip ?_
              refine then_normal ?_
              exact ⟨(), _, h, ⟨rfl, rfl, rfl, rfl, rfl, trivial⟩, rfl⟩
    · replace h := ite_f hc h
      clear hc
      refine cexit ?_
      refine then_exit ?_
      refine then_exit ?_
      refine block_hit ?_
      refine then_normal ?_
      obtain rfl := Option.some.inj h
      obtain rfl : _ = x2 := hk2
      exact ⟨(), _, ho2, ⟨rfl, trivial⟩, rfl⟩

def m56_msg_SaneReply_k1 (a0 : GMsgReply) (b1 : Unit) : Option Bool :=
  if (decide (a0.Kind = 0)) then ((m66_msg_within a0.Seq 4294967295).bind fun v2 => if v2 then ((m66_msg_within a0.Code 255).bind fun v3 => if v3 then ((m66_msg_within a0.N 1099511627776).bind fun v4 => if v4 then ((m68_msg_saneBytes a0.Found a0.Val 0 32).bind fun v5 => if v5 then (some (decide ((a0.List.length : Int) ≤ 8))) else (some false)) else (some false)) else (some false)) else (some false)) else ((m65_msg_isKind a0.Kind).bind fun v6 => if v6 then ((m66_msg_within a0.Seq 4294967295).bind fun v7 => if v7 then ((m66_msg_within a0.Code 255).bind fun v8 => if v8 then ((m66_msg_within a0.N 1099511627776).bind fun v9 => if v9 then ((m68_msg_saneBytes a0.Found a0.Val 0 32).bind fun v10 => if v10 then (some (decide ((a0.List.length : Int) ≤ 8))) else (some false)) else (some false)) else (some false)) else (some false)) else (some false))

def m56_msg_SaneReply_s11 (a0 : GMsgReply) (s11 : Int) : Option (LR (Int) (Unit) (Bool)) :=
  if (decide (s11 < (a0.List.length : Int))) then ((idx a0.List s11).bind fun u12 => (m68_msg_saneBytes true u12.Key 1 16).bind fun v13 => if (!v13) then (some (.ret false)) else (if (decide (32 < (u12.Val.length : Int))) then (some (.ret false)) else (some (.cont (wI (s11 + 1)))))) else (some (.brk ()))
def m56_msg_SaneReply (a0 : GMsgReply) : Option Bool :=
  (iter (m56_msg_SaneReply_s11 a0) fuel 0).bind fun x => match x with | .inl r => some r | .inr e14 => m56_msg_SaneReply_k1 a0 e14

set_option maxRecDepth 100000 in
theorem m56_msg_SaneReply_c {a0 : GMsgReply} {r : Bool} (h : m56_msg_SaneReply a0 = some r) : CallsA Tryd.prog 56 [.agg a0] (· = .s (.one (.b r))) := by
  unfold m56_msg_SaneReply at h
  refine callsA_of Tryd.func56 rfl (nt := 59) rfl (Nat.le_of_ble_eq_true rfl) ?_
  intro w0 S0
  refine cseq ?_
  refine cregion ?_
  refine sbox rfl rfl ?_
  refine sv rfl (opv_as rfl) ?_
  refine snil ?_
  refine cseq ?_
  refine cseq ?_
  refine cregion ?_
  refine sv rfl (opv_fieldAddr_lp fi92_6 rfl) ?_
  refine sv rfl (opv_load1 ti90 rfl (.lp _ _ _ rfl) rfl) ?_
  refine sv rfl (opv_len_sl si90 rfl) ?_
  refine sv rfl (opv_mv rfl) ?_
  refine snil ?_
  refine cjoin (Unit) (fun b1 => [(1, .s (.one (.lp 0 0)))]) (fun b1 => [.box a0]) (fun b1 => m56_msg_SaneReply_k1 a0 b1 = some r) (fun _ _ => inbL_of rfl) (fun _ _ => blkinb_of rfl) (fun _ _ => Nat.le_of_ble_eq_true rfl) (fun b1 h => ?_) ?_
  · unfold m56_msg_SaneReply_k1 at h
    refine cseq ?_
    refine cregion ?_
    refine sv rfl (opv_fieldAddr_lp fi92_0 rfl) ?_
    refine sv rfl (opv_load1 ti3 rfl (.lp _ _ _ rfl) rfl) ?_
    refine sv rfl (opv_ieql rfl rfl) ?_
    refine sv rfl (opv_mv rfl) ?_
    refine ssplit 26 rfl (fun hc => ?_) (fun hc => ?_)
    · replace h := ite_t hc h
      clear hc
      refine soff rfl rfl rfl rfl ?_
      refine soff rfl rfl rfl rfl ?_
      refine soff rfl rfl rfl rfl ?_
      refine sv rfl (opv_pick_t rfl rfl) ?_
      refine sv rfl (opv_mv rfl) ?_
      refine son rfl rfl rfl ?_
      refine sv rfl (opv_fieldAddr_lp fi92_1 rfl) ?_
      refine son rfl rfl rfl ?_
      refine sv rfl (opv_load1 ti3 rfl (.lp _ _ _ rfl) rfl) ?_
      refine son rfl rfl rfl ?_
      obtain ⟨v2, hv2, h⟩ := bind_eq h
      refine scall1 rfl fn66 (opnds_cons rfl (opnds_cons rfl opnds_nil)) (pubA_id rfl) (m66_msg_within_c hv2) ?_
      refine sv rfl (opv_pick_t rfl rfl) ?_
      refine sv rfl (opv_mv rfl) ?_
      refine ssplit 36 rfl (fun hc => ?_) (fun hc => ?_)
      · replace h := ite_t hc h
        clear hc
        refine son rfl rfl rfl ?_
        refine sv rfl (opv_fieldAddr_lp fi92_2 rfl) ?_
        refine son rfl rfl rfl ?_
        refine sv rfl (opv_load1 ti29 rfl (.lp _ _ _ rfl) rfl) ?_
        refine son rfl rfl rfl ?_
        obtain ⟨v3, hv3, h⟩ := bind_eq h
        refine scall1 rfl fn66 (opnds_cons rfl (opnds_cons rfl opnds_nil)) (pubA_id rfl) (m66_msg_within_c hv3) ?_
        refine sv rfl (opv_pick_t rfl rfl) ?_
        refine sv rfl (opv_mv rfl) ?_
        refine ssplit 41 rfl (fun hc => ?_) (fun hc => ?_)
        · replace h := ite_t hc h
          clear hc
          refine son rfl rfl rfl ?_
          refine sv rfl (opv_fieldAddr_lp fi92_3 rfl) ?_
          refine son rfl rfl rfl ?_
          refine sv rfl (opv_load1 ti3 rfl (.lp _ _ _ rfl) rfl) ?_
          refine son rfl rfl rfl ?_
          obtain ⟨v4, hv4, h⟩ := bind_eq h
          refine scall1 rfl fn66 (opnds_cons rfl (opnds_cons rfl opnds_nil)) (pubA_id rfl) (m66_msg_within_c hv4) ?_
          refine sv rfl (opv_pick_t rfl rfl) ?_
          refine sv rfl (opv_mv rfl) ?_
          refine ssplit 46 rfl (fun hc => ?_) (fun hc => ?_)
          · replace h := ite_t hc h
            clear hc
            refine son rfl rfl rfl ?_
            refine sv rfl (opv_fieldAddr_lp fi92_4 rfl) ?_
            refine son rfl rfl rfl ?_
            refine sv rfl (opv_load1 ti4 rfl (.lp _ _ _ rfl) rfl) ?_
            refine son rfl rfl rfl ?_
            refine sv rfl (opv_fieldAddr_lp fi92_5 rfl) ?_
            refine son rfl rfl rfl ?_
            refine sv rfl (opv_load1 ti34 rfl (.lp _ _ _ rfl) rfl) ?_
            refine son rfl rfl rfl ?_
            obtain ⟨v5, hv5, h⟩ := bind_eq h
            refine scall1 rfl fn68 (opnds_cons rfl (opnds_cons rfl (opnds_cons rfl (opnds_cons rfl opnds_nil)))) (pubA_id rfl) (m68_msg_saneBytes_c hv5) ?_
            refine sv rfl (opv_pick_t rfl rfl) ?_
            refine sv rfl (opv_mv rfl) ?_
            refine ssplit 53 rfl (fun hc => ?_) (fun hc => ?_)
            · replace h := ite_t hc h
              clear hc
              refine son rfl rfl rfl ?_
              refine sv rfl (opv_fieldAddr_lp fi92_6 rfl) ?_
              refine son rfl rfl rfl ?_
              refine sv rfl (opv_load1 ti90 rfl (.lp _ _ _ rfl) rfl) ?_
              refine son rfl rfl rfl ?_
              refine sv rfl (opv_len_sl si90 rfl) ?_
              refine son rfl rfl rfl ?_
              refine sv rfl (opv_leq rfl rfl) ?_
              refine sv rfl (opv_pick_t rfl rfl) ?_
              refine sv rfl (opv_as rfl) ?_
              refine snil ?_
              refine cret ?_
              obtain rfl := Option.some.inj h
              refine ⟨Or.inr rfl, _, _, _, (resVs_cons (ResV.tmp _ _ rfl) resVs_nil), (pubA_id rfl), ?_⟩
              rfl
            · replace h := ite_f hc h
              clear hc
              refine soff rfl rfl rfl rfl ?_
              refine soff rfl rfl rfl rfl ?_
              refine soff rfl rfl rfl rfl ?_
              refine soff rfl rfl rfl rfl ?_
              refine sv rfl (opv_pick_f rfl rfl) ?_
              refine sv rfl (opv_as rfl) ?_
              refine snil ?_
              refine cret ?_
              obtain rfl := Option.some.inj h
              refine ⟨Or.inr rfl, _, _, _, (resVs_cons (ResV.tmp _ _ rfl) resVs_nil), (pubA_id rfl), ?_⟩
              rfl
          · replace h := ite_f hc h
            clear hc
            refine soff rfl rfl rfl rfl ?_
            refine soff rfl rfl rfl rfl ?_
            refine soff rfl rfl rfl rfl ?_
            refine soff rfl rfl rfl rfl ?_
            refine soff rfl rfl rfl rfl ?_
            refine sv rfl (opv_pick_f rfl rfl) ?_
            refine sv rfl (opv_mv rfl) ?_
            refine soff rfl rfl rfl rfl ?_
            refine soff rfl rfl rfl rfl ?_
            refine soff rfl rfl rfl rfl ?_
            refine soff rfl rfl rfl rfl ?_
            refine sv rfl (opv_pick_f rfl rfl) ?_
            refine sv rfl (opv_as rfl) ?_
            refine snil ?_
            refine cret ?_
            obtain rfl := Option.some.inj h
            refine ⟨Or.inr rfl, _, _, _, (resVs_cons (ResV.tmp _ _ rfl) resVs_nil), (pubA_id rfl), ?_⟩
            rfl
        · replace h := ite_f hc h
          clear hc
          refine soff rfl rfl rfl rfl ?_
          refine soff rfl rfl rfl rfl ?_
          refine soff rfl rfl rfl rfl ?_
          refine sv rfl (opv_pick_f rfl rfl) ?_
          refine sv rfl (opv_mv rfl) ?_
          refine soff rfl rfl rfl rfl ?_
          refine soff rfl rfl rfl rfl ?_
          refine soff rfl rfl rfl rfl ?_
          refine soff rfl rfl rfl rfl ?_
          refine soff rfl rfl rfl rfl ?_
          refine sv rfl (opv_pick_f rfl rfl) ?_
          refine sv rfl (opv_mv rfl) ?_
          refine soff rfl rfl rfl rfl ?_
          refine soff rfl rfl rfl rfl ?_
          refine soff rfl rfl rfl rfl ?_
          refine soff rfl rfl rfl rfl ?_
          refine sv rfl (opv_pick_f rfl rfl) ?_
          refine sv rfl (opv_as rfl) ?_
          refine snil ?_
          refine cret ?_
          obtain rfl := Option.some.inj h
          refine ⟨Or.inr rfl, _, _, _, (resVs_cons (ResV.tmp _ _ rfl) resVs_nil), (pubA_id rfl), ?_⟩
          rfl
      · replace h := ite_f hc h
        clear hc
        refine soff rfl rfl rfl rfl ?_
        refine soff rfl rfl rfl rfl ?_
        refine soff rfl rfl rfl rfl ?_
        refine sv rfl (opv_pick_f rfl rfl) ?_
        refine sv rfl (opv_mv rfl) ?_
        refine soff rfl rfl rfl rfl ?_
        refine soff rfl rfl rfl rfl ?_
        refine soff rfl rfl rfl rfl ?_
        refine sv rfl (opv_pick_f rfl rfl) ?_
        refine sv rfl (opv_mv rfl) ?_
        refine soff rfl rfl rfl rfl ?_
        refine soff rfl rfl rfl rfl ?_
        refine soff rfl rfl rfl rfl ?_
        refine soff rfl rfl rfl rfl ?_
        refine soff rfl rfl rfl rfl ?_
        refine sv rfl (opv_pick_f rfl rfl) ?_
        refine sv rfl (opv_mv rfl) ?_
        refine soff rfl rfl rfl rfl ?_
        refine soff rfl rfl rfl rfl ?_
        refine soff rfl rfl rfl rfl ?_
        refine soff rfl rfl rfl rfl ?_
        refine sv rfl (opv_pick_f rfl rfl) ?_
        refine sv rfl (opv_as rfl) ?_
        refine snil ?_
        refine cret ?_
        obtain rfl := Option.some.inj h
        refine ⟨Or.inr rfl, _, _, _, (resVs_cons (ResV.tmp _ _ rfl) resVs_nil), (pubA_id rfl), ?_⟩
        rfl
    · replace h := ite_f hc h
      clear hc
      refine son rfl rfl rfl ?_
      refine sv rfl (opv_fieldAddr_lp fi92_0 rfl) ?_
      refine son rfl rfl rfl ?_
      refine sv rfl (opv_load1 ti3 rfl (.lp _ _ _ rfl) rfl) ?_
      refine son rfl rfl rfl ?_
      obtain ⟨v6, hv6, h⟩ := bind_eq h
      refine scall1 rfl fn65 (opnds_cons rfl opnds_nil) (pubA_id rfl) (m65_msg_isKind_c hv6) ?_
      refine sv rfl (opv_pick_f rfl rfl) ?_
      refine sv rfl (opv_mv rfl) ?_
      refine ssplit 31 rfl (fun hc => ?_) (fun hc => ?_)
      · replace h := ite_t hc h
        clear hc
        refine son rfl rfl rfl ?_
        refine sv rfl (opv_fieldAddr_lp fi92_1 rfl) ?_
        refine son rfl rfl rfl ?_
        refine sv rfl (opv_load1 ti3 rfl (.lp _ _ _ rfl) rfl) ?_
        refine son rfl rfl rfl ?_
        obtain ⟨v7, hv7, h⟩ := bind_eq h
        refine scall1 rfl fn66 (opnds_cons rfl (opnds_cons rfl opnds_nil)) (pubA_id rfl) (m66_msg_within_c hv7) ?_
        refine sv rfl (opv_pick_t rfl rfl) ?_
        refine sv rfl (opv_mv rfl) ?_
        refine ssplit 36 rfl (fun hc => ?_) (fun hc => ?_)
        · replace h := ite_t hc h
          clear hc
          refine son rfl rfl rfl ?_
          refine sv rfl (opv_fieldAddr_lp fi92_2 rfl) ?_
          refine son rfl rfl rfl ?_
          refine sv rfl (opv_load1 ti29 rfl (.lp _ _ _ rfl) rfl) ?_
          refine son rfl rfl rfl ?_
          obtain ⟨v8, hv8, h⟩ := bind_eq h
          refine scall1 rfl fn66 (opnds_cons rfl (opnds_cons rfl opnds_nil)) (pubA_id rfl) (m66_msg_within_c hv8) ?_
          refine sv rfl (opv_pick_t rfl rfl) ?_
          refine sv rfl (opv_mv rfl) ?_
          refine ssplit 41 rfl (fun hc => ?_) (fun hc => ?_)
          · replace h := ite_t hc h
            clear hc
            refine son rfl rfl rfl ?_
            refine sv rfl (opv_fieldAddr_lp fi92_3 rfl) ?_
            refine son rfl rfl rfl ?_
            refine sv rfl (opv_load1 ti3 rfl (.lp _ _ _ rfl) rfl) ?_
            refine son rfl rfl rfl ?_
            obtain ⟨v9, hv9, h⟩ := bind_eq h
            refine scall1 rfl fn66 (opnds_cons rfl (opnds_cons rfl opnds_nil)) (pubA_id rfl) (m66_msg_within_c hv9) ?_
            refine sv rfl (opv_pick_t rfl rfl) ?_
            refine sv rfl (opv_mv rfl) ?_
            refine ssplit 46 rfl (fun hc => ?_) (fun hc => ?_)
            · replace h := ite_t hc h
              clear hc
              refine son rfl rfl rfl ?_
              refine sv rfl (opv_fieldAddr_lp fi92_4 rfl) ?_
              refine son rfl rfl rfl ?_
              refine sv rfl (opv_load1 ti4 rfl (.lp _ _ _ rfl) rfl) ?_
              refine son rfl rfl rfl ?_
              refine sv rfl (opv_fieldAddr_lp fi92_5 rfl) ?_
              refine son rfl rfl rfl ?_
              refine sv rfl (opv_load1 ti34 rfl (.lp _ _ _ rfl) rfl) ?_
              refine son rfl rfl rfl ?_
              obtain ⟨v10, hv10, h⟩ := bind_eq h
              refine scall1 rfl fn68 (opnds_cons rfl (opnds_cons rfl (opnds_cons rfl (opnds_cons rfl opnds_nil)))) (pubA_id rfl) (m68_msg_saneBytes_c hv10) ?_
              refine sv rfl (opv_pick_t rfl rfl) ?_
              refine sv rfl (opv_mv rfl) ?_
              refine ssplit 53 rfl (fun hc => ?_) (fun hc => ?_)
              · replace h := ite_t hc h
                clear hc
                refine son rfl rfl rfl ?_
                refine sv rfl (opv_fieldAddr_lp fi92_6 rfl) ?_
                refine son rfl rfl rfl ?_
                refine sv rfl (opv_load1 ti90 rfl (.lp _ _ _ rfl) rfl) ?_
                refine son rfl rfl rfl ?_
                refine sv rfl (opv_len_sl si90 rfl) ?_
                refine son rfl rfl rfl ?_
                refine sv rfl (opv_leq rfl rfl) ?_
                refine sv rfl (opv_pick_t rfl rfl) ?_
                refine sv rfl (opv_as rfl) ?_
                refine snil ?_
                refine cret ?_
                obtain rfl := Option.some.inj h
                refine ⟨Or.inr rfl, _, _, _, (resVs_cons (ResV.tmp _ _ rfl) resVs_nil), (pubA_id rfl), ?_⟩
                rfl
              · replace h := ite_f hc h
                clear hc
                refine soff rfl rfl rfl rfl ?_
                refine soff rfl rfl rfl rfl ?_
                refine soff rfl rfl rfl rfl ?_
                refine soff rfl rfl rfl rfl ?_
                refine sv rfl (opv_pick_f rfl rfl) ?_
                refine sv rfl (opv_as rfl) ?_
                refine snil ?_
                refine cret ?_
                obtain rfl := Option.some.inj h
                refine ⟨Or.inr rfl, _, _, _, (resVs_cons (ResV.tmp _ _ rfl) resVs_nil), (pubA_id rfl), ?_⟩
                rfl
            · replace h := ite_f hc h
              clear hc
              refine soff rfl rfl rfl rfl ?_
              refine soff rfl rfl rfl rfl ?_
              refine soff rfl rfl rfl rfl ?_
              refine soff rfl rfl rfl rfl ?_
              refine soff rfl rfl rfl rfl ?_
              refine sv rfl (opv_pick_f rfl rfl) ?_
              refine sv rfl (opv_mv rfl) ?_
              refine soff rfl rfl rfl rfl ?_
              refine soff rfl rfl rfl rfl ?_
              refine soff rfl rfl rfl rfl ?_
              refine soff rfl rfl rfl rfl ?_
              refine sv rfl (opv_pick_f rfl rfl) ?_
              refine sv rfl (opv_as rfl) ?_
              refine snil ?_
              refine cret ?_
              obtain rfl := Option.some.inj h
              refine ⟨Or.inr rfl, _, _, _, (resVs_cons (ResV.tmp _ _ rfl) resVs_nil), (pubA_id rfl), ?_⟩
              rfl
          · replace h := ite_f hc h
            clear hc
            refine soff rfl rfl rfl rfl ?_
            refine soff rfl rfl rfl rfl ?_
            refine soff rfl rfl rfl rfl ?_
            refine sv rfl (opv_pick_f rfl rfl) ?_
            refine sv rfl (opv_mv rfl) ?_
            refine soff rfl rfl rfl rfl ?_
            refine soff rfl rfl rfl rfl ?_
            refine soff rfl rfl rfl rfl ?_
            refine soff rfl rfl rfl rfl ?_
            refine soff rfl rfl rfl rfl ?_
            refine sv rfl (opv_pick_f rfl rfl) ?_
            refine sv rfl (opv_mv rfl) ?_
            refine soff rfl rfl rfl rfl ?_
            refine soff rfl rfl rfl rfl ?_
            refine soff rfl rfl rfl rfl ?_
            refine soff rfl rfl rfl rfl ?_
            refine sv rfl (opv_pick_f rfl rfl) ?_
            refine sv rfl (opv_as rfl) ?_
            refine snil ?_
            refine cret ?_
            obtain rfl := Option.some.inj h
            refine ⟨Or.inr rfl, _, _, _, (resVs_cons (ResV.tmp _ _ rfl) resVs_nil), (pubA_id rfl), ?_⟩
            rfl
        · replace h := ite_f hc h
          clear hc
          refine soff rfl rfl rfl rfl ?_
          refine soff rfl rfl rfl rfl ?_
          refine soff rfl rfl rfl rfl ?_
          refine sv rfl (opv_pick_f rfl rfl) ?_
          refine sv rfl (opv_mv rfl) ?_
          refine soff rfl rfl rfl rfl ?_
          refine soff rfl rfl rfl rfl ?_
          refine soff rfl rfl rfl rfl ?_
          refine sv rfl (opv_pick_f rfl rfl) ?_
          refine sv rfl (opv_mv rfl) ?_
          refine soff rfl rfl rfl rfl ?_
          refine soff rfl rfl rfl rfl ?_
          refine soff rfl rfl rfl rfl ?_
          refine soff rfl rfl rfl rfl ?_
          refine soff rfl rfl rfl rfl ?_
          refine sv rfl (opv_pick_f rfl rfl) ?_
          refine sv rfl (opv_mv rfl) ?_
          refine soff rfl rfl rfl rfl ?_
          refine soff rfl rfl rfl rfl ?_
          refine soff rfl rfl rfl rfl ?_
          refine soff rfl rfl rfl rfl ?_
          refine sv rfl (opv_pick_f rfl rfl) ?_
          refine sv rfl (opv_as rfl) ?_
          refine snil ?_
          refine cret ?_
          obtain rfl := Option.some.inj h
          refine ⟨Or.inr rfl, _, _, _, (resVs_cons (ResV.tmp _ _ rfl) resVs_nil), (pubA_id rfl), ?_⟩
          rfl
      · replace h := ite_f hc h
        clear hc
        refine soff rfl rfl rfl rfl ?_
        refine soff rfl rfl rfl rfl ?_
        refine soff rfl rfl rfl rfl ?_
        refine sv rfl (opv_pick_f rfl rfl) ?_
        refine sv rfl (opv_mv rfl) ?_
        refine soff rfl rfl rfl rfl ?_
        refine soff rfl rfl rfl rfl ?_
        refine soff rfl rfl rfl rfl ?_
        refine sv rfl (opv_pick_f rfl rfl) ?_
        refine sv rfl (opv_mv rfl) ?_
        refine soff rfl rfl rfl rfl ?_
        refine soff rfl rfl rfl rfl ?_
        refine soff rfl rfl rfl rfl ?_
        refine sv rfl (opv_pick_f rfl rfl) ?_
        refine sv rfl (opv_mv rfl) ?_
        refine soff rfl rfl rfl rfl ?_
        refine soff rfl rfl rfl rfl ?_
        refine soff rfl rfl rfl rfl ?_
        refine soff rfl rfl rfl rfl ?_
        refine soff rfl rfl rfl rfl ?_
        refine sv rfl (opv_pick_f rfl rfl) ?_
        refine sv rfl (opv_mv rfl) ?_
        refine soff rfl rfl rfl rfl ?_
        refine soff rfl rfl rfl rfl ?_
        refine soff rfl rfl rfl rfl ?_
        refine soff rfl rfl rfl rfl ?_
        refine sv rfl (opv_pick_f rfl rfl) ?_
        refine sv rfl (opv_as rfl) ?_
        refine snil ?_
        refine cret ?_
        obtain rfl := Option.some.inj h
        refine ⟨Or.inr rfl, _, _, _, (resVs_cons (ResV.tmp _ _ rfl) resVs_nil), (pubA_id rfl), ?_⟩
        rfl
  · skip
    refine cblock ?_
    obtain ⟨x11, hx11, ho11⟩ := bind_eq h
    refine awc_loop (G := Nat × (Int)) (fun g => [(1, .s (.one (.lp 0 0))), (6, .s (.one (.sl a0.List.length (a0.List.flatMap eGApiKV)))), (7, .s (.one (.i .i64 (a0.List.length : Int)))), (8, .s (.one (.i .i64 g.2)))]) (fun g => [.box a0]) (fun g => iter (m56_msg_SaneReply_s11 a0) g.1 g.2 = some x11) (fun g => g.1) (fuel, 0) hx11 ⟨rfl, rfl, rfl, rfl, trivial⟩ [] rfl (fun _ _ => inbL_of rfl) (fun _ _ => blkinb_of rfl) (fun _ _ => Nat.le_of_ble_eq_true rfl) ?_
    clear hx11 h
    rintro ⟨n11, s11⟩ h
    obtain ⟨n11, y11, rfl, h, hk11⟩ := iter_eq h
    unfold m56_msg_SaneReply_s11 at h
    refine cseq ?_
    refine cregion ?_
    refine sv rfl (opv_lss rfl rfl) ?_
    refine snil ?_
    refine cseq ?_
    refine ccond rfl (fun hc => ?_) (fun hc => ?_)
    · replace h := ite_t hc h
      clear hc
      refine cskip ?_
      refine then_normal ?_
      refine cseq ?_
      refine cblock ?_
      refine cseq ?_
      refine cregion ?_
      obtain ⟨u12, hu12, h⟩ := bind_eq h
      refine sv rfl (opv_ix (f := eGApiKV) si90 (fun _ => rfl) rfl rfl rfl rfl hu12) ?_
      refine sv rfl (opv_loadNe (ys := [.sl u12.Key.length (u12.Key.flatMap eU8), .sl u12.Val.length (u12.Val.flatMap eU8)]) ti114 rfl (.cp _) rfl rfl) ?_
      refine salloc rfl zi114 ?_
      refine sstore sz114 rfl rfl rfl rfl (Nat.le_of_ble_eq_true rfl) ?_
      refine smem [.box a0, .box u12] rfl ?_
      refine snil ?_
      refine cseq ?_
      refine cregion ?_
      refine sv rfl (opv_fieldAddr_lp fi114_0 rfl) ?_
      refine sv rfl (opv_load1 ti34 rfl (.lp _ _ _ rfl) rfl) ?_
      obtain ⟨v13, hv13, h⟩ := bind_eq h
      refine scall1 rfl fn68 (opnds_cons rfl (opnds_cons rfl (opnds_cons rfl (opnds_cons rfl opnds_nil)))) (pubA_id rfl) (m68_msg_saneBytes_c hv13) ?_
      refine sv rfl (opv_not rfl) ?_
      refine sv rfl (opv_mv rfl) ?_
      refine ssplit 16 rfl (fun hc => ?_) (fun hc => ?_)
      · replace h := ite_t hc h
        clear hc
        refine soff rfl rfl rfl rfl ?_
        refine soff rfl rfl rfl rfl ?_
        refine soff rfl rfl rfl rfl ?_
        refine soff rfl rfl rfl rfl ?_
        refine sv rfl (opv_pick_t rfl rfl) ?_
        refine snil ?_
        refine ccond rfl (fun _ => ?_) (fun hx => Bool.noConfusion hx)
        refine cseq ?_
        refine cregion ?_
        refine sv rfl (opv_as rfl) ?_
        refine snil ?_
        refine cret ?_
        refine block_ret ?_
        refine then_ret ?_
        refine then_ret ?_
        refine block_ret ?_
        refine then_ret ?_
        obtain rfl := Option.some.inj h
        obtain rfl : Sum.inl _ = x11 := hk11
        replace ho11 : some _ = some _ := ho11
        obtain rfl := Option.some.inj ho11
        refine ⟨Or.inr rfl, _, _, _, (resVs_cons (ResV.tmp _ _ rfl) resVs_nil), (pubA_id rfl), ?_⟩
        rfl
      · replace h := ite_f hc h
        clear hc
        refine son rfl rfl rfl ?_
        refine sv rfl (opv_fieldAddr_lp fi114_1 rfl) ?_
        refine son rfl rfl rfl ?_
        refine sv rfl (opv_load1 ti34 rfl (.lp _ _ _ rfl) rfl) ?_
        refine son rfl rfl rfl ?_
        refine sv rfl (opv_len_sl si34 rfl) ?_
        refine son rfl rfl rfl ?_
        refine sv rfl (opv_gtr rfl rfl) ?_
        refine sv rfl (opv_pick_f rfl rfl) ?_
        refine snil ?_
        refine ccond rfl (fun hc => ?_) (fun hc => ?_)
        · replace h := ite_t hc h
          clear hc
          refine cseq ?_
          refine cregion ?_
          refine sv rfl (opv_as rfl) ?_
          refine snil ?_
          refine cret ?_
          refine block_ret ?_
          refine then_ret ?_
          refine then_ret ?_
          refine block_ret ?_
          refine then_ret ?_
          obtain rfl := Option.some.inj h
          obtain rfl : Sum.inl _ = x11 := hk11
          replace ho11 : some _ = some _ := ho11
          obtain rfl := Option.some.inj ho11
          refine ⟨Or.inr rfl, _, _, _, (resVs_cons (ResV.tmp _ _ rfl) resVs_nil), (pubA_id rfl), ?_⟩
          rfl
        · replace h := ite_f hc h
          clear hc
          refine cskip ?_
          refine block_normal ?_
          refine then_normal ?_
          refine cregion ?_
          refine sv rfl (opv_add rfl rfl) ?_
          refine sv rfl (opv_mv rfl) ?_
          refine snil ?_
          obtain rfl := Option.some.inj h
          exact ⟨(n11, (wI (s11 + 1))), _, hk11, ⟨rfl, rfl, rfl, rfl, trivial⟩, rfl, Nat.lt_succ_self _⟩
    · replace h := ite_f hc h
      clear hc
      refine cexit ?_
      refine then_exit ?_
      refine then_exit ?_
      refine block_hit ?_
      refine then_normal ?_
      obtain rfl := Option.some.inj h
      obtain rfl : _ = x11 := hk11
      exact ⟨(), _, ho11, ⟨rfl, trivial⟩, rfl⟩

def m50_pipe_sanePast_k1 (a0 : GPipePipe) (b1 : Unit) : Option Bool :=
  some (decide ((a0.Past.length : Int) ≤ 8))

def m50_pipe_sanePast_s2 (a0 : GPipePipe) (s2 : Int) : Option (LR (Int) (Unit) (Bool)) :=
  if (decide (s2 < (a0.Past.length : Int))) then ((idx a0.Past s2).bind fun u3 => (m56_msg_SaneReply u3).bind fun v4 => if (!v4) then (some (.ret false)) else (if (!decide (u3.Seq = (wI ((wI (a0.Next - (a0.Past.length : Int))) + s2)))) then (some (.ret false)) else (some (.cont (wI (s2 + 1)))))) else (some (.brk ()))
def m50_pipe_sanePast (a0 : GPipePipe) : Option Bool :=
  (iter (m50_pipe_sanePast_s2 a0) fuel 0).bind fun x => match x with | .inl r => some r | .inr e5 => m50_pipe_sanePast_k1 a0 e5

set_option maxRecDepth 100000 in
theorem m50_pipe_sanePast_c {a0 : GPipePipe} {r : Bool} (h : m50_pipe_sanePast a0 = some r) : CallsA Tryd.prog 50 [.agg a0] (· = .s (.one (.b r))) := by
  unfold m50_pipe_sanePast at h
  refine callsA_of Tryd.func50 rfl (nt := 34) rfl (Nat.le_of_ble_eq_true rfl) ?_
  intro w0 S0
  refine cseq ?_
  refine cregion ?_
  refine sbox rfl rfl ?_
  refine sv rfl (opv_as rfl) ?_
  refine snil ?_
  refine cseq ?_
  refine cseq ?_
  refine cregion ?_
  refine sv rfl (opv_fieldAddr_lp fi43_3 rfl) ?_
  refine sv rfl (opv_load1 ti41 rfl (.lp _ _ _ rfl) rfl) ?_
  refine sv rfl (opv_len_sl si41 rfl) ?_
  refine sv rfl (opv_mv rfl) ?_
  refine snil ?_
  refine cjoin (Unit) (fun b1 => [(1, .s (.one (.lp 0 0)))]) (fun b1 => [.box a0]) (fun b1 => m50_pipe_sanePast_k1 a0 b1 = some r) (fun _ _ => inbL_of rfl) (fun _ _ => blkinb_of rfl) (fun _ _ => Nat.le_of_ble_eq_true rfl) (fun b1 h => ?_) ?_
  · unfold m50_pipe_sanePast_k1 at h
    refine cseq ?_
    refine cregion ?_
    refine sv rfl (opv_fieldAddr_lp fi43_3 rfl) ?_
    refine sv rfl (opv_load1 ti41 rfl (.lp _ _ _ rfl) rfl) ?_
    refine sv rfl (opv_len_sl si41 rfl) ?_
    refine sv rfl (opv_leq rfl rfl) ?_
    refine sv rfl (opv_as rfl) ?_
    refine snil ?_
    refine cret ?_
    obtain rfl := Option.some.inj h
    refine ⟨Or.inr rfl, _, _, _, (resVs_cons (ResV.tmp _ _ rfl) resVs_nil), (pubA_id rfl), ?_⟩
    rfl
  · skip
    refine cblock ?_
    obtain ⟨x2, hx2, ho2⟩ := bind_eq h
    refine awc_loop (G := Nat × (Int)) (fun g => [(1, .s (.one (.lp 0 0))), (6, .s (.one (.sl a0.Past.length (a0.Past.flatMap eGMsgReply)))), (7, .s (.one (.i .i64 (a0.Past.length : Int)))), (8, .s (.one (.i .i64 g.2)))]) (fun g => [.box a0]) (fun g => iter (m50_pipe_sanePast_s2 a0) g.1 g.2 = some x2) (fun g => g.1) (fuel, 0) hx2 ⟨rfl, rfl, rfl, rfl, trivial⟩ [] rfl (fun _ _ => inbL_of rfl) (fun _ _ => blkinb_of rfl) (fun _ _ => Nat.le_of_ble_eq_true rfl) ?_
    clear hx2 h
    rintro ⟨n2, s2⟩ h
    obtain ⟨n2, y2, rfl, h, hk2⟩ := iter_eq h
    unfold m50_pipe_sanePast_s2 at h
    refine cseq ?_
    refine cregion ?_
    refine sv rfl (opv_lss rfl rfl) ?_
    refine snil ?_
    refine cseq ?_
    refine ccond rfl (fun hc => ?_) (fun hc => ?_)
    · replace h := ite_t hc h
      clear hc
      refine cskip ?_
      refine then_normal ?_
      refine cseq ?_
      refine cblock ?_
      refine cseq ?_
      refine cregion ?_
      refine sv rfl (opv_mv rfl) ?_
      obtain ⟨u3, hu3, h⟩ := bind_eq h
      refine sv rfl (opv_ix (f := eGMsgReply) si41 (fun _ => rfl) rfl rfl rfl rfl hu3) ?_
      refine sv rfl (opv_loadNe (ys := [.i .i64 u3.Kind, .i .i64 u3.Seq, .i .i64 u3.Code, .i .i64 u3.N, .b u3.Found, .sl u3.Val.length (u3.Val.flatMap eU8), .sl u3.List.length (u3.List.flatMap eGApiKV)]) ti92 rfl (.cp _) rfl rfl) ?_
      refine salloc rfl zi92 ?_
      refine sv rfl (opv_as rfl) ?_
      refine sstore sz92 rfl rfl rfl rfl (Nat.le_of_ble_eq_true rfl) ?_
      refine smem [.box a0, .box u3] rfl ?_
      refine snil ?_
      refine cseq ?_
      refine cregion ?_
      refine sv rfl (opv_loadN ti92 rfl (.lp _ _ _ rfl) (Nat.le_of_ble_eq_true rfl)) ?_
      obtain ⟨v4, hv4, h⟩ := bind_eq h
      refine scall1 rfl fn56 (opnds_cons rfl opnds_nil) (pubA_id rfl) (m56_msg_SaneReply_c hv4) ?_
      refine sv rfl (opv_not rfl) ?_
      refine sv rfl (opv_mv rfl) ?_
      refine ssplit 16 rfl (fun hc => ?_) (fun hc => ?_)
      · replace h := ite_t hc h
        clear hc
        refine soff rfl rfl rfl rfl ?_
        refine soff rfl rfl rfl rfl ?_
        refine soff rfl rfl rfl rfl ?_
        refine soff rfl rfl rfl rfl ?_
        refine soff rfl rfl rfl rfl ?_
        refine soff rfl rfl rfl rfl ?_
        refine soff rfl rfl rfl rfl ?_
        refine soff rfl rfl rfl rfl ?_
        refine soff rfl rfl rfl rfl ?_
        refine soff rfl rfl rfl rfl ?_
        refine soff rfl rfl rfl rfl ?_
        refine sv rfl (opv_pick_t rfl rfl) ?_
        refine snil ?_
        refine ccond rfl (fun _ => ?_) (fun hx => Bool.noConfusion hx)
        refine cseq ?_
        refine cregion ?_
        refine sv rfl (opv_as rfl) ?_
        refine snil ?_
        refine cret ?_
        refine block_ret ?_
        refine then_ret ?_
        refine then_ret ?_
        refine block_ret ?_
        refine then_ret ?_
        obtain rfl := Option.some.inj h
        obtain rfl : Sum.inl _ = x2 := hk2
        replace ho2 : some _ = some _ := ho2
        obtain rfl := Option.some.inj ho2
        refine ⟨Or.inr rfl, _, _, _, (resVs_cons (ResV.tmp _ _ rfl) resVs_nil), (pubA_id rfl), ?_⟩
        rfl
      · replace h := ite_f hc h
        clear hc
        refine son rfl rfl rfl ?_
        refine sv rfl (opv_fieldAddr_lp fi92_1 rfl) ?_
        refine son rfl rfl rfl ?_
        refine sv rfl (opv_load1 ti3 rfl (.lp _ _ _ rfl) rfl) ?_
        refine son rfl rfl rfl ?_
        refine sv rfl (opv_fieldAddr_lp fi43_1 rfl) ?_
        refine son rfl rfl rfl ?_
        refine sv rfl (opv_load1 ti3 rfl (.lp _ _ _ rfl) rfl) ?_
        refine son rfl rfl rfl ?_
        refine sv rfl (opv_fieldAddr_lp fi43_3 rfl) ?_
        refine son rfl rfl rfl ?_
        refine sv rfl (opv_load1 ti41 rfl (.lp _ _ _ rfl) rfl) ?_
        refine son rfl rfl rfl ?_
        refine sv rfl (opv_len_sl si41 rfl) ?_
        refine son rfl rfl rfl ?_
        refine sv rfl (opv_sub rfl rfl) ?_
        refine son rfl rfl rfl ?_
        refine sv rfl (opv_mv rfl) ?_
        refine son rfl rfl rfl ?_
        refine sv rfl (opv_add rfl rfl) ?_
        refine son rfl rfl rfl ?_
        refine sv rfl (opv_ineq rfl rfl) ?_
        refine sv rfl (opv_pick_f rfl rfl) ?_
        refine snil ?_
        refine ccond rfl (fun hc => ?_) (fun hc => ?_)
        · replace h := ite_t hc h
          clear hc
          refine cseq ?_
          refine cregion ?_
          refine sv rfl (opv_as rfl) ?_
          refine snil ?_
          refine cret ?_
          refine block_ret ?_
          refine then_ret ?_
          refine then_ret ?_
          refine block_ret ?_
          refine then_ret ?_
          obtain rfl := Option.some.inj h
          obtain rfl : Sum.inl _ = x2 := hk2
          replace ho2 : some _ = some _ := ho2
          obtain rfl := Option.some.inj ho2
          refine ⟨Or.inr rfl, _, _, _, (resVs_cons (ResV.tmp _ _ rfl) resVs_nil), (pubA_id rfl), ?_⟩
          rfl
        · replace h := ite_f hc h
          clear hc
          refine cskip ?_
          refine block_normal ?_
          refine then_normal ?_
          refine cregion ?_
          refine sv rfl (opv_add rfl rfl) ?_
          refine sv rfl (opv_mv rfl) ?_
          refine snil ?_
          obtain rfl := Option.some.inj h
          exact ⟨(n2, (wI (s2 + 1))), _, hk2, ⟨rfl, rfl, rfl, rfl, trivial⟩, rfl, Nat.lt_succ_self _⟩
    · replace h := ite_f hc h
      clear hc
      refine cexit ?_
      refine then_exit ?_
      refine then_exit ?_
      refine block_hit ?_
      refine then_normal ?_
      obtain rfl := Option.some.inj h
      obtain rfl : _ = x2 := hk2
      exact ⟨(), _, ho2, ⟨rfl, trivial⟩, rfl⟩

def m70_seqs_digit (a0 : BitVec 64) (a1 : Int) : Option Bool :=
  if 0 ≤ a1 then (some (decide ((((a0 >>> a1.toNat) &&& (1#64)).toNat : Int) = (1 : Int)))) else none

set_option maxRecDepth 100000 in
theorem m70_seqs_digit_c {a0 : BitVec 64} {a1 : Int} {r : Bool} (h : m70_seqs_digit a0 a1 = some r) : CallsA Tryd.prog 70 [.one (.i .u64 (a0.toNat : Int)), .one (.i .i64 a1)] (· = .s (.one (.b r))) := by
  unfold m70_seqs_digit at h
  refine callsA_of Tryd.func70 rfl (nt := 10) rfl (Nat.le_of_ble_eq_true rfl) ?_
  intro w0 S0
  refine cseq ?_
  refine cregion ?_
  refine sv rfl (opv_as rfl) ?_
  refine snil ?_
  refine cseq ?_
  refine cregion ?_
  refine sv rfl (opv_mv rfl) ?_
  refine sv rfl (opv_mv rfl) ?_
  obtain ⟨hz1, h⟩ := chk_eq h
  refine sv rfl (opv_shr_u64 (a := a0) rfl rfl rfl hz1) ?_
  refine sv rfl (opv_and_u64 (a := (a0 >>> a1.toNat)) (b := 1#64) rfl rfl rfl rfl) ?_
  refine sv rfl (opv_ieql rfl rfl) ?_
  refine sv rfl (opv_as rfl) ?_
  refine snil ?_
  refine cret ?_
  obtain rfl := Option.some.inj h
  refine ⟨Or.inr rfl, _, _, _, (resVs_cons (ResV.tmp _ _ rfl) resVs_nil), (pubA_id rfl), ?_⟩
  rfl

def m57_seqs_Sane_k1 (a0 : GSeqsWindow) (b1 : Unit) : Option Bool :=
  if 0 ≤ (wI (4294967296 - a0.Base)) then (some (decide (((a0.Bits >>> (wI (4294967296 - a0.Base)).toNat).toNat : Int) = (0 : Int)))) else none
def m57_seqs_Sane (a0 : GSeqsWindow) : Option Bool :=
  if (decide (a0.Base < 0)) then (some false) else (if (decide (4294967296 < a0.Base)) then (some false) else ((m70_seqs_digit a0.Bits 0).bind fun v3 => if v3 then (some false) else (m57_seqs_Sane_k1 a0 ())))

set_option maxRecDepth 100000 in
theorem m57_seqs_Sane_c {a0 : GSeqsWindow} {r : Bool} (h : m57_seqs_Sane a0 = some r) : CallsA Tryd.prog 57 [.agg a0] (· = .s (.one (.b r))) := by
  unfold m57_seqs_Sane at h
  refine callsA_of Tryd.func57 rfl (nt := 23) rfl (Nat.le_of_ble_eq_true rfl) ?_
  intro w0 S0
  refine cseq ?_
  refine cregion ?_
  refine sbox rfl rfl ?_
  refine sv rfl (opv_as rfl) ?_
  refine snil ?_
  refine cseq ?_
  refine cseq ?_
  refine cjoin3 (Unit) (fun b1 => [(1, .s (.one (.lp 0 0)))]) (fun b1 => [.box a0]) (fun b1 => m57_seqs_Sane_k1 a0 b1 = some r) (fun _ _ => inbL_of rfl) (fun _ _ => blkinb_of rfl) (fun _ _ => Nat.le_of_ble_eq_true rfl) (fun b1 h => ?_) ?_
  · unfold m57_seqs_Sane_k1 at h
    refine cseq ?_
    refine cregion ?_
    refine sv rfl (opv_fieldAddr_lp fi39_1 rfl) ?_
    refine sv rfl (opv_load1 ti37 rfl (.lp _ _ _ rfl) rfl) ?_
    refine sv rfl (opv_fieldAddr_lp fi39_0 rfl) ?_
    refine sv rfl (opv_load1 ti3 rfl (.lp _ _ _ rfl) rfl) ?_
    refine sv rfl (opv_sub rfl rfl) ?_
    obtain ⟨hz2, h⟩ := chk_eq h
    refine sv rfl (opv_shr_u64 (a := a0.Bits) rfl rfl rfl hz2) ?_
    refine sv rfl (opv_ieql rfl rfl) ?_
    refine sv rfl (opv_as rfl) ?_
    refine snil ?_
    refine cret ?_
    obtain rfl := Option.some.inj h
    refine ⟨Or.inr rfl, _, _, _, (resVs_cons (ResV.tmp _ _ rfl) resVs_nil), (pubA_id rfl), ?_⟩
    rfl
  · skip
    refine cregion ?_
    refine sv rfl (opv_fieldAddr_lp fi39_0 rfl) ?_
    refine sv rfl (opv_load1 ti3 rfl (.lp _ _ _ rfl) rfl) ?_
    refine sv rfl (opv_lss rfl rfl) ?_
    refine sv rfl (opv_mv rfl) ?_
    refine ssplit 6 rfl (fun hc => ?_) (fun hc => ?_)
    · replace h := ite_t hc h
      clear hc
      refine soff rfl rfl rfl rfl ?_
      refine soff rfl rfl rfl rfl ?_
      refine soff rfl rfl rfl rfl ?_
      refine sv rfl (opv_pick_t rfl rfl) ?_
      refine sv rfl (opv_mv rfl) ?_
      refine soff rfl rfl rfl rfl ?_
      refine soff rfl rfl rfl rfl ?_
      refine soff rfl rfl rfl rfl ?_
      refine sv rfl (opv_pick_t rfl rfl) ?_
      refine snil ?_
      refine ccond rfl (fun _ => ?_) (fun hx => Bool.noConfusion hx)
      refine cseq ?_
      refine cregion ?_
      refine sv rfl (opv_as rfl) ?_
      refine snil ?_
      refine cret ?_
      refine then_ret ?_
      obtain rfl := Option.some.inj h
      refine ⟨Or.inr rfl, _, _, _, (resVs_cons (ResV.tmp _ _ rfl) resVs_nil), (pubA_id rfl), ?_⟩
      rfl
    · replace h := ite_f hc h
      clear hc
      refine son rfl rfl rfl ?_
      refine sv rfl (opv_fieldAddr_lp fi39_0 rfl) ?_
      refine son rfl rfl rfl ?_
      refine sv rfl (opv_load1 ti3 rfl (.lp _ _ _ rfl) rfl) ?_
      refine son rfl rfl rfl ?_
      refine sv rfl (opv_gtr rfl rfl) ?_
      refine sv rfl (opv_pick_f rfl rfl) ?_
      refine sv rfl (opv_mv rfl) ?_
      refine ssplit 11 rfl (fun hc => ?_) (fun hc => ?_)
      · replace h := ite_t hc h
        clear hc
        refine soff rfl rfl rfl rfl ?_
        refine soff rfl rfl rfl rfl ?_
        refine soff rfl rfl rfl rfl ?_
        refine sv rfl (opv_pick_t rfl rfl) ?_
        refine snil ?_
        refine ccond rfl (fun _ => ?_) (fun hx => Bool.noConfusion hx)
        refine cseq ?_
        refine cregion ?_
        refine sv rfl (opv_as rfl) ?_
        refine snil ?_
        refine cret ?_
        refine then_ret ?_
        obtain rfl := Option.some.inj h
        refine ⟨Or.inr rfl, _, _, _, (resVs_cons (ResV.tmp _ _ rfl) resVs_nil), (pubA_id rfl), ?_⟩
        rfl
      · replace h := ite_f hc h
        clear hc
        refine son rfl rfl rfl ?_
        refine sv rfl (opv_fieldAddr_lp fi39_1 rfl) ?_
        refine son rfl rfl rfl ?_
        refine sv rfl (opv_load1 ti37 rfl (.lp _ _ _ rfl) rfl) ?_
        refine son rfl rfl rfl ?_
        obtain ⟨v3, hv3, h⟩ := bind_eq h
        refine scall1 rfl fn70 (opnds_cons rfl (opnds_cons rfl opnds_nil)) (pubA_id rfl) (m70_seqs_digit_c hv3) ?_
        refine sv rfl (opv_pick_f rfl rfl) ?_
        refine snil ?_
        refine ccond rfl (fun hc => ?_) (fun hc => ?_)
        · replace h := ite_t hc h
          clear hc
          refine cseq ?_
          refine cregion ?_
          refine sv rfl (opv_as rfl) ?_
          refine snil ?_
          refine cret ?_
          refine then_ret ?_
          obtain rfl := Option.some.inj h
          refine ⟨Or.inr rfl, _, _, _, (resVs_cons (ResV.tmp _ _ rfl) resVs_nil), (pubA_id rfl), ?_⟩
          rfl
        · replace h := ite_f hc h
          clear hc
          refine cskip ?_
          refine then_normal ?_
          exact ⟨(), _, h, ⟨rfl, trivial⟩, rfl⟩

def m71_seqs_saneSeq (a0 : Int) : Option Bool :=
  if (decide (0 ≤ a0)) then (some (decide (a0 ≤ 4294967295))) else (some false)

set_option maxRecDepth 100000 in
theorem m71_seqs_saneSeq_c {a0 : Int} {r : Bool} (h : m71_seqs_saneSeq a0 = some r) : CallsA Tryd.prog 71 [.one (.i .i64 a0)] (· = .s (.one (.b r))) := by
  unfold m71_seqs_saneSeq at h
  refine callsA_of Tryd.func71 rfl (nt := 9) rfl (Nat.le_of_ble_eq_true rfl) ?_
  intro w0 S0
  refine cseq ?_
  refine cregion ?_
  refine sv rfl (opv_as rfl) ?_
  refine snil ?_
  refine cseq ?_
  refine cregion ?_
  refine sv rfl (opv_mv rfl) ?_
  refine sv rfl (opv_geq rfl rfl) ?_
  refine sv rfl (opv_mv rfl) ?_
  refine ssplit 5 rfl (fun hc => ?_) (fun hc => ?_)
  · replace h := ite_t hc h
    clear hc
    refine son rfl rfl rfl ?_
    refine sv rfl (opv_mv rfl) ?_
    refine son rfl rfl rfl ?_
    refine sv rfl (opv_leq rfl rfl) ?_
    refine sv rfl (opv_pick_t rfl rfl) ?_
    refine sv rfl (opv_as rfl) ?_
    refine snil ?_
    refine cret ?_
    obtain rfl := Option.some.inj h
    refine ⟨Or.inr rfl, _, _, _, (resVs_cons (ResV.tmp _ _ rfl) resVs_nil), (pubA_id rfl), ?_⟩
    rfl
  · replace h := ite_f hc h
    clear hc
    refine soff rfl rfl rfl rfl ?_
    refine soff rfl rfl rfl rfl ?_
    refine sv rfl (opv_pick_f rfl rfl) ?_
    refine sv rfl (opv_as rfl) ?_
    refine snil ?_
    refine cret ?_
    obtain rfl := Option.some.inj h
    refine ⟨Or.inr rfl, _, _, _, (resVs_cons (ResV.tmp _ _ rfl) resVs_nil), (pubA_id rfl), ?_⟩
    rfl

def m58_seqs_Seen_k1 (a0 : GSeqsWindow) (a1 : Int) (b1 : Unit) : Option Bool :=
  if (decide (a1 < a0.Base)) then (some true) else (if (decide ((wI (a1 - a0.Base)) < 64)) then ((m70_seqs_digit a0.Bits (wI (a1 - a0.Base))).bind fun v2 => some v2) else (some false))
def m58_seqs_Seen (a0 : GSeqsWindow) (a1 : Int) : Option Bool :=
  (m57_seqs_Sane (GSeqsWindow.mk a0.Base a0.Bits)).bind fun v3 => if (!v3) then (some false) else ((m71_seqs_saneSeq a1).bind fun v4 => if (!v4) then (some false) else (m58_seqs_Seen_k1 a0 a1 ()))

set_option maxRecDepth 100000 in
theorem m58_seqs_Seen_c {a0 : GSeqsWindow} {a1 : Int} {r : Bool} (h : m58_seqs_Seen a0 a1 = some r) : CallsA Tryd.prog 58 [.agg a0, .one (.i .i64 a1)] (· = .s (.one (.b r))) := by
  unfold m58_seqs_Seen at h
  refine callsA_of Tryd.func58 rfl (nt := 31) rfl (Nat.le_of_ble_eq_true rfl) ?_
  intro w0 S0
  refine cseq ?_
  refine cregion ?_
  refine sbox rfl rfl ?_
  refine sv rfl (opv_as rfl) ?_
  refine snil ?_
  refine cseq ?_
  refine cseq ?_
  refine cjoin3 (Unit) (fun b1 => [(1, .s (.one (.i .i64 a1))), (2, .s (.one (.lp 0 0)))]) (fun b1 => [.box a0]) (fun b1 => m58_seqs_Seen_k1 a0 a1 b1 = some r) (fun _ _ => inbL_of rfl) (fun _ _ => blkinb_of rfl) (fun _ _ => Nat.le_of_ble_eq_true rfl) (fun b1 h => ?_) ?_
  · unfold m58_seqs_Seen_k1 at h
    refine cseq ?_
    refine cseq ?_
    refine cregion ?_
    refine sv rfl (opv_mv rfl) ?_
    refine sv rfl (opv_fieldAddr_lp fi39_0 rfl) ?_
    refine sv rfl (opv_load1 ti3 rfl (.lp _ _ _ rfl) rfl) ?_
    refine sv rfl (opv_lss rfl rfl) ?_
    refine snil ?_
    refine ccond rfl (fun hc => ?_) (fun hc => ?_)
    · replace h := ite_t hc h
      clear hc
      refine cseq ?_
      refine cregion ?_
      refine sv rfl (opv_as rfl) ?_
      refine snil ?_
      refine cret ?_
      refine then_ret ?_
      obtain rfl := Option.some.inj h
      refine ⟨Or.inr rfl, _, _, _, (resVs_cons (ResV.tmp _ _ rfl) resVs_nil), (pubA_id rfl), ?_⟩
      rfl
    · replace h := ite_f hc h
      clear hc
      refine cskip ?_
      refine then_normal ?_
      refine cseq ?_
      refine cregion ?_
      refine sv rfl (opv_mv rfl) ?_
      refine sv rfl (opv_fieldAddr_lp fi39_0 rfl) ?_
      refine sv rfl (opv_load1 ti3 rfl (.lp _ _ _ rfl) rfl) ?_
      refine sv rfl (opv_sub rfl rfl) ?_
      refine sv rfl (opv_lss rfl rfl) ?_
      refine sv rfl (opv_mv rfl) ?_
      refine ssplit 22 rfl (fun hc => ?_) (fun hc => ?_)
      · replace h := ite_t hc h
        clear hc
        refine son rfl rfl rfl ?_
        refine sv rfl (opv_fieldAddr_lp fi39_1 rfl) ?_
        refine son rfl rfl rfl ?_
        refine sv rfl (opv_load1 ti37 rfl (.lp _ _ _ rfl) rfl) ?_
        refine son rfl rfl rfl ?_
        refine sv rfl (opv_mv rfl) ?_
        refine son rfl rfl rfl ?_
        refine sv rfl (opv_fieldAddr_lp fi39_0 rfl) ?_
        refine son rfl rfl rfl ?_
        refine sv rfl (opv_load1 ti3 rfl (.lp _ _ _ rfl) rfl) ?_
        refine son rfl rfl rfl ?_
        refine sv rfl (opv_sub rfl rfl) ?_
        refine son rfl rfl rfl ?_
        obtain ⟨v2, hv2, h⟩ := bind_eq h
        refine scall1 rfl fn70 (opnds_cons rfl (opnds_cons rfl opnds_nil)) (pubA_id rfl) (m70_seqs_digit_c hv2) ?_
        refine sv rfl (opv_pick_t rfl rfl) ?_
        refine sv rfl (opv_as rfl) ?_
        refine snil ?_
        refine cret ?_
        obtain rfl := Option.some.inj h
        refine ⟨Or.inr rfl, _, _, _, (resVs_cons (ResV.tmp _ _ rfl) resVs_nil), (pubA_id rfl), ?_⟩
        rfl
      · replace h := ite_f hc h
        clear hc
        refine soff rfl rfl rfl rfl ?_
        refine soff rfl rfl rfl rfl ?_
        refine soff rfl rfl rfl rfl ?_
        refine soff rfl rfl rfl rfl ?_
        refine soff rfl rfl rfl rfl ?_
        refine soff rfl rfl rfl rfl ?_
        refine soff rfl rfl rfl rfl ?_
        refine sv rfl (opv_pick_f rfl rfl) ?_
        refine sv rfl (opv_as rfl) ?_
        refine snil ?_
        refine cret ?_
        obtain rfl := Option.some.inj h
        refine ⟨Or.inr rfl, _, _, _, (resVs_cons (ResV.tmp _ _ rfl) resVs_nil), (pubA_id rfl), ?_⟩
        rfl
  · skip
    refine cregion ?_
    refine sv rfl (opv_loadN ti39 rfl (.lp _ _ _ rfl) (Nat.le_of_ble_eq_true rfl)) ?_
    obtain ⟨v3, hv3, h⟩ := bind_eq h
    refine scall1 rfl fn57 (opnds_cons rfl opnds_nil) (pubA_id rfl) (m57_seqs_Sane_c hv3) ?_
    refine sv rfl (opv_not rfl) ?_
    refine sv rfl (opv_mv rfl) ?_
    refine ssplit 8 rfl (fun hc => ?_) (fun hc => ?_)
    · replace h := ite_t hc h
      clear hc
      refine soff rfl rfl rfl rfl ?_
      refine soff rfl rfl rfl rfl ?_
      refine soff rfl rfl rfl rfl ?_
      refine sv rfl (opv_pick_t rfl rfl) ?_
      refine snil ?_
      refine ccond rfl (fun _ => ?_) (fun hx => Bool.noConfusion hx)
      refine cseq ?_
      refine cregion ?_
      refine sv rfl (opv_as rfl) ?_
      refine snil ?_
      refine cret ?_
      refine then_ret ?_
      obtain rfl := Option.some.inj h
      refine ⟨Or.inr rfl, _, _, _, (resVs_cons (ResV.tmp _ _ rfl) resVs_nil), (pubA_id rfl), ?_⟩
      rfl
    · replace h := ite_f hc h
      clear hc
      refine son rfl rfl rfl ?_
      refine sv rfl (opv_mv rfl) ?_
      refine son rfl rfl rfl ?_
      obtain ⟨v4, hv4, h⟩ := bind_eq h
      refine scall1 rfl fn71 (opnds_cons rfl opnds_nil) (pubA_id rfl) (m71_seqs_saneSeq_c hv4) ?_
      refine son rfl rfl rfl ?_
      refine sv rfl (opv_not rfl) ?_
      refine sv rfl (opv_pick_f rfl rfl) ?_
      refine snil ?_
      refine ccond rfl (fun hc => ?_) (fun hc => ?_)
      · replace h := ite_t hc h
        clear hc
        refine cseq ?_
        refine cregion ?_
        refine sv rfl (opv_as rfl) ?_
        refine snil ?_
        refine cret ?_
        refine then_ret ?_
        obtain rfl := Option.some.inj h
        refine ⟨Or.inr rfl, _, _, _, (resVs_cons (ResV.tmp _ _ rfl) resVs_nil), (pubA_id rfl), ?_⟩
        rfl
      · replace h := ite_f hc h
        clear hc
        refine cskip ?_
        refine then_normal ?_
        exact ⟨(), _, h, ⟨rfl, rfl, trivial⟩, rfl⟩

def m59_pipe_waiting_k1 (b1 : Unit) : Option Int :=
  some (-1)

def m59_pipe_waiting_s2 (a0 : GPipePipe) (a1 : Int) (s2 : Int) : Option (LR (Int) (Unit) (Int)) :=
  if (decide (s2 < (a0.Wait.length : Int))) then ((idx a0.Wait s2).bind fun u3 => if (decide (u3.Seq = a1)) then (some (.ret s2)) else (some (.cont (wI (s2 + 1))))) else (some (.brk ()))
def m59_pipe_waiting (a0 : GPipePipe) (a1 : Int) : Option Int :=
  (iter (m59_pipe_waiting_s2 a0 a1) fuel 0).bind fun x => match x with | .inl r => some r | .inr e4 => m59_pipe_waiting_k1 e4

set_option maxRecDepth 100000 in
theorem m59_pipe_waiting_c {a0 : GPipePipe} {a1 : Int} {r : Int} (h : m59_pipe_waiting a0 a1 = some r) : CallsA Tryd.prog 59 [.agg a0, .one (.i .i64 a1)] (· = .s (.one (.i .i64 r))) := by
  unfold m59_pipe_waiting at h
  refine callsA_of Tryd.func59 rfl (nt := 21) rfl (Nat.le_of_ble_eq_true rfl) ?_
  intro w0 S0
  refine cseq ?_
  refine cregion ?_
  refine sbox rfl rfl ?_
  refine sv rfl (opv_as rfl) ?_
  refine snil ?_
  refine cseq ?_
  refine cseq ?_
  refine cregion ?_
  refine sv rfl (opv_fieldAddr_lp fi43_2 rfl) ?_
  refine sv rfl (opv_load1 ti40 rfl (.lp _ _ _ rfl) rfl) ?_
  refine sv rfl (opv_len_sl si40 rfl) ?_
  refine sv rfl (opv_mv rfl) ?_
  refine snil ?_
  refine cjoin (Unit) (fun b1 => []) (fun b1 => [.box a0]) (fun b1 => m59_pipe_waiting_k1 b1 = some r) (fun _ _ => inbL_of rfl) (fun _ _ => blkinb_of rfl) (fun _ _ => Nat.le_of_ble_eq_true rfl) (fun b1 h => ?_) ?_
  · unfold m59_pipe_waiting_k1 at h
    refine cseq ?_
    refine cregion ?_
    refine sv rfl (opv_as rfl) ?_
    refine snil ?_
    refine cret ?_
    obtain rfl := Option.some.inj h
    refine ⟨Or.inr rfl, _, _, _, (resVs_cons (ResV.tmp _ _ rfl) resVs_nil), (pubA_id rfl), ?_⟩
    rfl
  · skip
    refine cblock ?_
    obtain ⟨x2, hx2, ho2⟩ := bind_eq h
    refine awc_loop (G := Nat × (Int)) (fun g => [(1, .s (.one (.i .i64 a1))), (8, .s (.one (.sl a0.Wait.length (a0.Wait.flatMap eGMsgReq)))), (9, .s (.one (.i .i64 (a0.Wait.length : Int)))), (10, .s (.one (.i .i64 g.2)))]) (fun g => [.box a0]) (fun g => iter (m59_pipe_waiting_s2 a0 a1) g.1 g.2 = some x2) (fun g => g.1) (fuel, 0) hx2 ⟨rfl, rfl, rfl, rfl, trivial⟩ [] rfl (fun _ _ => inbL_of rfl) (fun _ _ => blkinb_of rfl) (fun _ _ => Nat.le_of_ble_eq_true rfl) ?_
    clear hx2 h
    rintro ⟨n2, s2⟩ h
    obtain ⟨n2, y2, rfl, h, hk2⟩ := iter_eq h
    unfold m59_pipe_waiting_s2 at h
    refine cseq ?_
    refine cregion ?_
    refine sv rfl (opv_lss rfl rfl) ?_
    refine snil ?_
    refine cseq ?_
    refine ccond rfl (fun hc => ?_) (fun hc => ?_)
    · replace h := ite_t hc h
      clear hc
      refine cskip ?_
      refine then_normal ?_
      refine cseq ?_
      refine cblock ?_
      refine cseq ?_
      refine cregion ?_
      refine sv rfl (opv_mv rfl) ?_
      obtain ⟨u3, hu3, h⟩ := bind_eq h
      refine sv rfl (opv_ix (f := eGMsgReq) si40 (fun _ => rfl) rfl rfl rfl rfl hu3) ?_
      refine sv rfl (opv_loadNe (ys := [.i .i64 u3.Kind, .i .i64 u3.Seq, .i .i64 u3.Token, .i .i64 u3.Attempt, .b u3.RO, .sl u3.Key.length (u3.Key.flatMap eU8), .sl u3.Val.length (u3.Val.flatMap eU8), .sl u3.Rng.Lo.length (u3.Rng.Lo.flatMap eU8), .sl u3.Rng.Hi.length (u3.Rng.Hi.flatMap eU8), .b u3.Rng.Open]) ti87 rfl (.cp _) rfl rfl) ?_
      refine salloc rfl zi87 ?_
      refine sv rfl (opv_as rfl) ?_
      refine sstore sz87 rfl rfl rfl rfl (Nat.le_of_ble_eq_true rfl) ?_
      refine smem [.box a0, .box u3] rfl ?_
      refine snil ?_
      refine cseq ?_
      refine cregion ?_
      refine sv rfl (opv_fieldAddr_lp fi87_1 rfl) ?_
      refine sv rfl (opv_load1 ti3 rfl (.lp _ _ _ rfl) rfl) ?_
      refine sv rfl (opv_mv rfl) ?_
      refine sv rfl (opv_ieql rfl rfl) ?_
      refine snil ?_
      refine ccond rfl (fun hc => ?_) (fun hc => ?_)
      · replace h := ite_t hc h
        clear hc
        refine cseq ?_
        refine cregion ?_
        refine sv rfl (opv_mv rfl) ?_
        refine sv rfl (opv_as rfl) ?_
        refine snil ?_
        refine cret ?_
        refine block_ret ?_
        refine then_ret ?_
        refine then_ret ?_
        refine block_ret ?_
        refine then_ret ?_
        obtain rfl := Option.some.inj h
        obtain rfl : Sum.inl _ = x2 := hk2
        replace ho2 : some _ = some _ := ho2
        obtain rfl := Option.some.inj ho2
        refine ⟨Or.inr rfl, _, _, _, (resVs_cons (ResV.tmp _ _ rfl) resVs_nil), (pubA_id rfl), ?_⟩
        rfl
      · replace h := ite_f hc h
        clear hc
        refine cskip ?_
        refine block_normal ?_
        refine then_normal ?_
        refine cregion ?_
        refine sv rfl (opv_add rfl rfl) ?_
        refine sv rfl (opv_mv rfl) ?_
        refine snil ?_
        obtain rfl := Option.some.inj h
        exact ⟨(n2, (wI (s2 + 1))), _, hk2, ⟨rfl, rfl, rfl, rfl, trivial⟩, rfl, Nat.lt_succ_self _⟩
    · replace h := ite_f hc h
      clear hc
      refine cexit ?_
      refine then_exit ?_
      refine then_exit ?_
      refine block_hit ?_
      refine then_normal ?_
      obtain rfl := Option.some.inj h
      obtain rfl : _ = x2 := hk2
      exact ⟨(), _, ho2, trivial, rfl⟩

def m51_pipe_saneWin_k2 (b2 : Unit) : Option Bool :=
  some true

def m51_pipe_saneWin_k4 (a0 : GPipePipe) (s3 : Int) (b4 : Unit) : Option (LR (Int) (Unit) (Bool)) :=
  (m58_seqs_Seen (GSeqsWindow.mk a0.Win.Base a0.Win.Bits) s3).bind fun v5 => (m59_pipe_waiting (GPipePipe.mk (GSeqsWindow.mk a0.Win.Base a0.Win.Bits) a0.Next a0.Wait a0.Past) s3).bind fun v6 => if (!(v5 == (decide (0 ≤ v6)))) then (some (.ret false)) else (some (.cont (wI (s3 + 1))))

def m51_pipe_saneWin_s3 (a0 : GPipePipe) (s3 : Int) : Option (LR (Int) (Unit) (Bool)) :=
  if (decide (s3 < (wI (a0.Next + 64)))) then (if (decide (s3 ≤ 4294967295)) then (m51_pipe_saneWin_k4 a0 s3 ()) else (some (.brk ()))) else (some (.brk ()))

def m51_pipe_saneWin_k1 (a0 : GPipePipe) (b1 : Unit) : Option Bool :=
  (iter (m51_pipe_saneWin_s3 a0) fuel a0.Next).bind fun x => match x with | .inl r => some r | .inr e7 => m51_pipe_saneWin_k2 e7
def m51_pipe_saneWin (a0 : GPipePipe) : Option Bool :=
  (m57_seqs_Sane (GSeqsWindow.mk a0.Win.Base a0.Win.Bits)).bind fun v8 => if (!v8) then (some false) else (if (decide (a0.Win.Base < a0.Next)) then (some false) else (if (decide ((wI (a0.Next + 8)) < a0.Win.Base)) then (some false) else (m51_pipe_saneWin_k1 a0 ())))

set_option maxRecDepth 100000 in
theorem m51_pipe_saneWin_c {a0 : GPipePipe} {r : Bool} (h : m51_pipe_saneWin a0 = some r) : CallsA Tryd.prog 51 [.agg a0] (· = .s (.one (.b r))) := by
  unfold m51_pipe_saneWin at h
  refine callsA_of Tryd.func51 rfl (nt := 47) rfl (Nat.le_of_ble_eq_true rfl) ?_
  intro w0 S0
  refine cseq ?_
  refine cregion ?_
  refine sbox rfl rfl ?_
  refine sv rfl (opv_as rfl) ?_
  refine snil ?_
  refine cseq ?_
  refine cseq ?_
  refine cjoin3 (Unit) (fun b1 => [(1, .s (.one (.lp 0 0)))]) (fun b1 => [.box a0]) (fun b1 => m51_pipe_saneWin_k1 a0 b1 = some r) (fun _ _ => inbL_of rfl) (fun _ _ => blkinb_of rfl) (fun _ _ => Nat.le_of_ble_eq_true rfl) (fun b1 h => ?_) ?_
  · unfold m51_pipe_saneWin_k1 at h
    refine cseq ?_
    refine cseq ?_
    refine cregion ?_
    refine sv rfl (opv_fieldAddr_lp fi43_1 rfl) ?_
    refine sv rfl (opv_load1 ti3 rfl (.lp _ _ _ rfl) rfl) ?_
    refine sv rfl (opv_as rfl) ?_
    refine snil ?_
    refine cjoin (Unit) (fun b2 => []) (fun b2 => [.box a0]) (fun b2 => m51_pipe_saneWin_k2 b2 = some r) (fun _ _ => inbL_of rfl) (fun _ _ => blkinb_of rfl) (fun _ _ => Nat.le_of_ble_eq_true rfl) (fun b2 h => ?_) ?_
    · unfold m51_pipe_saneWin_k2 at h
      refine cseq ?_
      refine cregion ?_
      refine sv rfl (opv_as rfl) ?_
      refine snil ?_
      refine cret ?_
      obtain rfl := Option.some.inj h
      refine ⟨Or.inr rfl, _, _, _, (resVs_cons (ResV.tmp _ _ rfl) resVs_nil), (pubA_id rfl), ?_⟩
      rfl
    · skip
      refine cblock ?_
      obtain ⟨x3, hx3, ho3⟩ := bind_eq h
      refine awc_loop (G := Nat × (Int)) (fun g => [(1, .s (.one (.lp 0 0))), (3, .s (.one (.i .i64 g.2)))]) (fun g => [.box a0]) (fun g => iter (m51_pipe_saneWin_s3 a0) g.1 g.2 = some x3) (fun g => g.1) (fuel, a0.Next) hx3 ⟨rfl, rfl, trivial⟩ [] rfl (fun _ _ => inbL_of rfl) (fun _ _ => blkinb_of rfl) (fun _ _ => Nat.le_of_ble_eq_true rfl) ?_
      clear hx3 h
      rintro ⟨n3, s3⟩ h
      obtain ⟨n3, y3, rfl, h, hk3⟩ := iter_eq h
      unfold m51_pipe_saneWin_s3 at h
      refine cseq ?_
      refine cseq ?_
      refine cjoin3 (Unit) (fun b4 => [(1, .s (.one (.lp 0 0))), (3, .s (.one (.i .i64 s3)))]) (fun b4 => [.box a0]) (fun b4 => m51_pipe_saneWin_k4 a0 s3 b4 = some y3) (fun _ _ => inbL_of rfl) (fun _ _ => blkinb_of rfl) (fun _ _ => Nat.le_of_ble_eq_true rfl) (fun b4 h => ?_) ?_
      · unfold m51_pipe_saneWin_k4 at h
        refine cseq ?_
        refine cblock ?_
        refine cseq ?_
        refine cdraw mixed (by kernel_rfl) ?_
        refine dv rfl (opv_fieldAddr_lp fi43_0 rfl) ?_
        refine dv rfl (opv_loadN ti39 rfl (.lp _ _ _ rfl) (Nat.le_of_ble_eq_true rfl)) ?_
        refine dv rfl (opv_mv rfl) ?_
        obtain ⟨v5, hv5, h⟩ := bind_eq h
        refine dd rfl (opD_call fn58 (opnds_cons rfl (opnds_cons rfl opnds_nil)) rfl (m58_seqs_Seen_c hv5)) ?_
        refine dv rfl (opv_loadN ti43 rfl (.lp _ _ _ rfl) (Nat.le_of_ble_eq_true rfl)) ?_
        refine dv rfl (opv_mv rfl) ?_
        obtain ⟨v6, hv6, h⟩ := bind_eq h
        refine dd rfl (opD_call fn59 (opnds_cons rfl (opnds_cons rfl opnds_nil)) rfl (m59_pipe_waiting_c hv6)) ?_
        refine dv rfl (opv_geq rfl rfl) ?_
        refine dv rfl (opv_bneq Tryd.underlying4 rfl rfl) ?_
        refine dnil ?_
        refine then_normal ?_
        refine ccond rfl (fun hc => ?_) (fun hc => ?_)
        · replace h := ite_t hc h
          clear hc
          refine cseq ?_
          refine cregion ?_
          refine sv rfl (opv_as rfl) ?_
          refine snil ?_
          refine cret ?_
          refine block_ret ?_
          refine then_ret ?_
          refine then_ret ?_
          refine block_ret ?_
          refine then_ret ?_
          obtain rfl := Option.some.inj h
          obtain rfl : Sum.inl _ = x3 := hk3
          replace ho3 : some _ = some _ := ho3
          obtain rfl := Option.some.inj ho3
          refine ⟨Or.inr rfl, _, _, _, (resVs_cons (ResV.tmp _ _ rfl) resVs_nil), (pubA_id rfl), ?_⟩
          rfl
        · replace h := ite_f hc h
          clear hc
          refine cskip ?_
          refine block_normal ?_
          refine then_normal ?_
          refine cregion ?_
          refine sv rfl (opv_mv rfl) ?_
          refine sv rfl (opv_add rfl rfl) ?_
          refine sv rfl (opv_as rfl) ?_
          refine snil ?_
          obtain rfl := Option.some.inj h
          exact ⟨(n3, (wI (s3 + 1))), _, hk3, ⟨rfl, rfl, trivial⟩, rfl, Nat.lt_succ_self _⟩
      · skip
        refine cregion ?_
        refine sv rfl (opv_mv rfl) ?_
        refine sv rfl (opv_fieldAddr_lp fi43_1 rfl) ?_
        refine sv rfl (opv_load1 ti3 rfl (.lp _ _ _ rfl) rfl) ?_
        refine sv rfl (opv_add rfl rfl) ?_
        refine sv rfl (opv_lss rfl rfl) ?_
        refine sv rfl (opv_mv rfl) ?_
        refine ssplit 32 rfl (fun hc => ?_) (fun hc => ?_)
        · replace h := ite_t hc h
          clear hc
          refine son rfl rfl rfl ?_
          refine sv rfl (opv_mv rfl) ?_
          refine son rfl rfl rfl ?_
          refine sv rfl (opv_leq rfl rfl) ?_
          refine sv rfl (opv_pick_t rfl rfl) ?_
          refine snil ?_
          refine ccond rfl (fun hc => ?_) (fun hc => ?_)
          · replace h := ite_t hc h
            clear hc
            refine cskip ?_
            refine then_normal ?_
            exact ⟨(), _, h, ⟨rfl, rfl, trivial⟩, rfl⟩
          · replace h := ite_f hc h
            clear hc
            refine cexit ?_
            refine then_exit ?_
            refine then_exit ?_
            refine block_hit ?_
            refine then_normal ?_
            obtain rfl := Option.some.inj h
            obtain rfl : _ = x3 := hk3
            exact ⟨(), _, ho3, trivial, rfl⟩
        · replace h := ite_f hc h
          clear hc
          refine soff rfl rfl rfl rfl ?_
          refine soff rfl rfl rfl rfl ?_
          refine sv rfl (opv_pick_f rfl rfl) ?_
          refine snil ?_
          refine ccond rfl (fun hx => Bool.noConfusion hx) (fun _ => ?_)
          refine cexit ?_
          refine then_exit ?_
          refine then_exit ?_
          refine block_hit ?_
          refine then_normal ?_
          obtain rfl := Option.some.inj h
          obtain rfl : _ = x3 := hk3
          exact ⟨(), _, ho3, trivial, rfl⟩
  · skip
    refine cregion ?_
    refine sv rfl (opv_fieldAddr_lp fi43_0 rfl) ?_
    refine sv rfl (opv_loadN ti39 rfl (.lp _ _ _ rfl) (Nat.le_of_ble_eq_true rfl)) ?_
    obtain ⟨v8, hv8, h⟩ := bind_eq h
    refine scall1 rfl fn57 (opnds_cons rfl opnds_nil) (pubA_id rfl) (m57_seqs_Sane_c hv8) ?_
    refine sv rfl (opv_not rfl) ?_
    refine sv rfl (opv_mv rfl) ?_
    refine ssplit 8 rfl (fun hc => ?_) (fun hc => ?_)
    · replace h := ite_t hc h
      clear hc
      refine soff rfl rfl rfl rfl ?_
      refine soff rfl rfl rfl rfl ?_
      refine soff rfl rfl rfl rfl ?_
      refine soff rfl rfl rfl rfl ?_
      refine soff rfl rfl rfl rfl ?_
      refine soff rfl rfl rfl rfl ?_
      refine sv rfl (opv_pick_t rfl rfl) ?_
      refine sv rfl (opv_mv rfl) ?_
      refine soff rfl rfl rfl rfl ?_
      refine soff rfl rfl rfl rfl ?_
      refine soff rfl rfl rfl rfl ?_
      refine soff rfl rfl rfl rfl ?_
      refine soff rfl rfl rfl rfl ?_
      refine soff rfl rfl rfl rfl ?_
      refine soff rfl rfl rfl rfl ?_
      refine sv rfl (opv_pick_t rfl rfl) ?_
      refine snil ?_
      refine ccond rfl (fun _ => ?_) (fun hx => Bool.noConfusion hx)
      refine cseq ?_
      refine cregion ?_
      refine sv rfl (opv_as rfl) ?_
      refine snil ?_
      refine cret ?_
      refine then_ret ?_
      obtain rfl := Option.some.inj h
      refine ⟨Or.inr rfl, _, _, _, (resVs_cons (ResV.tmp _ _ rfl) resVs_nil), (pubA_id rfl), ?_⟩
      rfl
    · replace h := ite_f hc h
      clear hc
      refine son rfl rfl rfl ?_
      refine sv rfl (opv_fieldAddr_lp fi43_0 rfl) ?_
      refine son rfl rfl rfl ?_
      refine sv rfl (opv_fieldAddr_lp fi39_0 rfl) ?_
      refine son rfl rfl rfl ?_
      refine sv rfl (opv_load1 ti3 rfl (.lp _ _ _ rfl) rfl) ?_
      refine son rfl rfl rfl ?_
      refine sv rfl (opv_fieldAddr_lp fi43_1 rfl) ?_
      refine son rfl rfl rfl ?_
      refine sv rfl (opv_load1 ti3 rfl (.lp _ _ _ rfl) rfl) ?_
      refine son rfl rfl rfl ?_
      refine sv rfl (opv_lss rfl rfl) ?_
      refine sv rfl (opv_pick_f rfl rfl) ?_
      refine sv rfl (opv_mv rfl) ?_
      refine ssplit 16 rfl (fun hc => ?_) (fun hc => ?_)
      · replace h := ite_t hc h
        clear hc
        refine soff rfl rfl rfl rfl ?_
        refine soff rfl rfl rfl rfl ?_
        refine soff rfl rfl rfl rfl ?_
        refine soff rfl rfl rfl rfl ?_
        refine soff rfl rfl rfl rfl ?_
        refine soff rfl rfl rfl rfl ?_
        refine soff rfl rfl rfl rfl ?_
        refine sv rfl (opv_pick_t rfl rfl) ?_
        refine snil ?_
        refine ccond rfl (fun _ => ?_) (fun hx => Bool.noConfusion hx)
        refine cseq ?_
        refine cregion ?_
        refine sv rfl (opv_as rfl) ?_
        refine snil ?_
        refine cret ?_
        refine then_ret ?_
        obtain rfl := Option.some.inj h
        refine ⟨Or.inr rfl, _, _, _, (resVs_cons (ResV.tmp _ _ rfl) resVs_nil), (pubA_id rfl), ?_⟩
        rfl
      · replace h := ite_f hc h
        clear hc
        refine son rfl rfl rfl ?_
        refine sv rfl (opv_fieldAddr_lp fi43_0 rfl) ?_
        refine son rfl rfl rfl ?_
        refine sv rfl (opv_fieldAddr_lp fi39_0 rfl) ?_
        refine son rfl rfl rfl ?_
        refine sv rfl (opv_load1 ti3 rfl (.lp _ _ _ rfl) rfl) ?_
        refine son rfl rfl rfl ?_
        refine sv rfl (opv_fieldAddr_lp fi43_1 rfl) ?_
        refine son rfl rfl rfl ?_
        refine sv rfl (opv_load1 ti3 rfl (.lp _ _ _ rfl) rfl) ?_
        refine son rfl rfl rfl ?_
        refine sv rfl (opv_add rfl rfl) ?_
        refine son rfl rfl rfl ?_
        refine sv rfl (opv_gtr rfl rfl) ?_
        refine sv rfl (opv_pick_f rfl rfl) ?_
        refine snil ?_
        refine ccond rfl (fun hc => ?_) (fun hc => ?_)
        · replace h := ite_t hc h
          clear hc
          refine cseq ?_
          refine cregion ?_
          refine sv rfl (opv_as rfl) ?_
          refine snil ?_
          refine cret ?_
          refine then_ret ?_
          obtain rfl := Option.some.inj h
          refine ⟨Or.inr rfl, _, _, _, (resVs_cons (ResV.tmp _ _ rfl) resVs_nil), (pubA_id rfl), ?_⟩
          rfl
        · replace h := ite_f hc h
          clear hc
          refine cskip ?_
          refine then_normal ?_
          exact ⟨(), _, h, ⟨rfl, trivial⟩, rfl⟩

def m41_pipe_Sane (a0 : GPipePipe) : Option Bool :=
  if (decide (0 ≤ a0.Next)) then (if (decide (a0.Next ≤ 4294967296)) then ((m49_pipe_saneWait (GPipePipe.mk (GSeqsWindow.mk a0.Win.Base a0.Win.Bits) a0.Next a0.Wait a0.Past)).bind fun v1 => if v1 then ((m50_pipe_sanePast (GPipePipe.mk (GSeqsWindow.mk a0.Win.Base a0.Win.Bits) a0.Next a0.Wait a0.Past)).bind fun v2 => if v2 then ((m51_pipe_saneWin (GPipePipe.mk (GSeqsWindow.mk a0.Win.Base a0.Win.Bits) a0.Next a0.Wait a0.Past)).bind fun v3 => some v3) else (some false)) else (some false)) else (some false)) else (some false)

set_option maxRecDepth 100000 in
theorem m41_pipe_Sane_c {a0 : GPipePipe} {r : Bool} (h : m41_pipe_Sane a0 = some r) : CallsA Tryd.prog 41 [.agg a0] (· = .s (.one (.b r))) := by
  unfold m41_pipe_Sane at h
  refine callsA_of Tryd.func41 rfl (nt := 23) rfl (Nat.le_of_ble_eq_true rfl) ?_
  intro w0 S0
  refine cseq ?_
  refine cregion ?_
  refine sbox rfl rfl ?_
  refine sv rfl (opv_as rfl) ?_
  refine snil ?_
  refine cseq ?_
  refine cregion ?_
  refine sv rfl (opv_fieldAddr_lp fi43_1 rfl) ?_
  refine sv rfl (opv_load1 ti3 rfl (.lp _ _ _ rfl) rfl) ?_
  refine sv rfl (opv_geq rfl rfl) ?_
  refine sv rfl (opv_mv rfl) ?_
  refine ssplit 6 rfl (fun hc => ?_) (fun hc => ?_)
  · replace h := ite_t hc h
    clear hc
    refine son rfl rfl rfl ?_
    refine sv rfl (opv_fieldAddr_lp fi43_1 rfl) ?_
    refine son rfl rfl rfl ?_
    refine sv rfl (opv_load1 ti3 rfl (.lp _ _ _ rfl) rfl) ?_
    refine son rfl rfl rfl ?_
    refine sv rfl (opv_leq rfl rfl) ?_
    refine sv rfl (opv_pick_t rfl rfl) ?_
    refine sv rfl (opv_mv rfl) ?_
    refine ssplit 11 rfl (fun hc => ?_) (fun hc => ?_)
    · replace h := ite_t hc h
      clear hc
      refine son rfl rfl rfl ?_
      refine sv rfl (opv_loadN ti43 rfl (.lp _ _ _ rfl) (Nat.le_of_ble_eq_true rfl)) ?_
      refine son rfl rfl rfl ?_
      obtain ⟨v1, hv1, h⟩ := bind_eq h
      refine scall1 rfl fn49 (opnds_cons rfl opnds_nil) (pubA_id rfl) (m49_pipe_saneWait_c hv1) ?_
      refine sv rfl (opv_pick_t rfl rfl) ?_
      refine sv rfl (opv_mv rfl) ?_
      refine ssplit 15 rfl (fun hc => ?_) (fun hc => ?_)
      · replace h := ite_t hc h
        clear hc
        refine son rfl rfl rfl ?_
        refine sv rfl (opv_loadN ti43 rfl (.lp _ _ _ rfl) (Nat.le_of_ble_eq_true rfl)) ?_
        refine son rfl rfl rfl ?_
        obtain ⟨v2, hv2, h⟩ := bind_eq h
        refine scall1 rfl fn50 (opnds_cons rfl opnds_nil) (pubA_id rfl) (m50_pipe_sanePast_c hv2) ?_
        refine sv rfl (opv_pick_t rfl rfl) ?_
        refine sv rfl (opv_mv rfl) ?_
        refine ssplit 19 rfl (fun hc => ?_) (fun hc => ?_)
        · replace h := ite_t hc h
          clear hc
          refine son rfl rfl rfl ?_
          refine sv rfl (opv_loadN ti43 rfl (.lp _ _ _ rfl) (Nat.le_of_ble_eq_true rfl)) ?_
          refine son rfl rfl rfl ?_
          obtain ⟨v3, hv3, h⟩ := bind_eq h
          refine scall1 rfl fn51 (opnds_cons rfl opnds_nil) (pubA_id rfl) (m51_pipe_saneWin_c hv3) ?_
          refine sv rfl (opv_pick_t rfl rfl) ?_
          refine sv rfl (opv_as rfl) ?_
          refine snil ?_
          refine cret ?_
          obtain rfl := Option.some.inj h
          refine ⟨Or.inr rfl, _, _, _, (resVs_cons (ResV.tmp _ _ rfl) resVs_nil), (pubA_id rfl), ?_⟩
          rfl
        · replace h := ite_f hc h
          clear hc
          refine soff rfl rfl rfl rfl ?_
          refine soff rfl rfl rfl rfl ?_
          refine sv rfl (opv_pick_f rfl rfl) ?_
          refine sv rfl (opv_as rfl) ?_
          refine snil ?_
          refine cret ?_
          obtain rfl := Option.some.inj h
          refine ⟨Or.inr rfl, _, _, _, (resVs_cons (ResV.tmp _ _ rfl) resVs_nil), (pubA_id rfl), ?_⟩
          rfl
      · replace h := ite_f hc h
        clear hc
        refine soff rfl rfl rfl rfl ?_
        refine soff rfl rfl rfl rfl ?_
        refine sv rfl (opv_pick_f rfl rfl) ?_
        refine sv rfl (opv_mv rfl) ?_
        refine soff rfl rfl rfl rfl ?_
        refine soff rfl rfl rfl rfl ?_
        refine sv rfl (opv_pick_f rfl rfl) ?_
        refine sv rfl (opv_as rfl) ?_
        refine snil ?_
        refine cret ?_
        obtain rfl := Option.some.inj h
        refine ⟨Or.inr rfl, _, _, _, (resVs_cons (ResV.tmp _ _ rfl) resVs_nil), (pubA_id rfl), ?_⟩
        rfl
    · replace h := ite_f hc h
      clear hc
      refine soff rfl rfl rfl rfl ?_
      refine soff rfl rfl rfl rfl ?_
      refine sv rfl (opv_pick_f rfl rfl) ?_
      refine sv rfl (opv_mv rfl) ?_
      refine soff rfl rfl rfl rfl ?_
      refine soff rfl rfl rfl rfl ?_
      refine sv rfl (opv_pick_f rfl rfl) ?_
      refine sv rfl (opv_mv rfl) ?_
      refine soff rfl rfl rfl rfl ?_
      refine soff rfl rfl rfl rfl ?_
      refine sv rfl (opv_pick_f rfl rfl) ?_
      refine sv rfl (opv_as rfl) ?_
      refine snil ?_
      refine cret ?_
      obtain rfl := Option.some.inj h
      refine ⟨Or.inr rfl, _, _, _, (resVs_cons (ResV.tmp _ _ rfl) resVs_nil), (pubA_id rfl), ?_⟩
      rfl
  · replace h := ite_f hc h
    clear hc
    refine soff rfl rfl rfl rfl ?_
    refine soff rfl rfl rfl rfl ?_
    refine soff rfl rfl rfl rfl ?_
    refine sv rfl (opv_pick_f rfl rfl) ?_
    refine sv rfl (opv_mv rfl) ?_
    refine soff rfl rfl rfl rfl ?_
    refine soff rfl rfl rfl rfl ?_
    refine sv rfl (opv_pick_f rfl rfl) ?_
    refine sv rfl (opv_mv rfl) ?_
    refine soff rfl rfl rfl rfl ?_
    refine soff rfl rfl rfl rfl ?_
    refine sv rfl (opv_pick_f rfl rfl) ?_
    refine sv rfl (opv_mv rfl) ?_
    refine soff rfl rfl rfl rfl ?_
    refine soff rfl rfl rfl rfl ?_
    refine sv rfl (opv_pick_f rfl rfl) ?_
    refine sv rfl (opv_as rfl) ?_
    refine snil ?_
    refine cret ?_
    obtain rfl := Option.some.inj h
    refine ⟨Or.inr rfl, _, _, _, (resVs_cons (ResV.tmp _ _ rfl) resVs_nil), (pubA_id rfl), ?_⟩
    rfl

end Go.Proofs.YtlnpkincpgbmcaaDoor.Abs
