/-
  t
-/
import Derived.Test.YtbmciegldpeaiaaAbsC
import Derived.Test.YtbmciegldpeaiaaProg
namespace Go.Proofs.Ytbmciegldpeaiaa.Abs
open Go.RowKit Go.Proofs
structure GApiRange where
  Lo : List UInt8
  Hi : List UInt8
  Open : Bool
def eGApiRange (x : GApiRange) : List Lf := [.sl x.Lo.length (x.Lo.flatMap eU8), .sl x.Hi.length (x.Hi.flatMap eU8), .b x.Open]

structure GL11Act where
  What : Int
  N : Int
  RO : Bool
  Rng : GApiRange
  Keys : List (List UInt8)
def eGL11Act (x : GL11Act) : List Lf := [.i .i64 x.What, .i .i64 x.N, .b x.RO, .sl x.Rng.Lo.length (x.Rng.Lo.flatMap eU8), .sl x.Rng.Hi.length (x.Rng.Hi.flatMap eU8), .b x.Rng.Open, .sl x.Keys.length (x.Keys.flatMap (eL eU8))]

structure GSsiTx where
  ID : Int
  Begin : Int
  End : Int
  State : Int
  In : Bool
  Out : Bool
  RO : Bool
  Keys : List (List UInt8)
def eGSsiTx (x : GSsiTx) : List Lf := [.i .i64 x.ID, .i .i64 x.Begin, .i .i64 x.End, .i .i64 x.State, .b x.In, .b x.Out, .b x.RO, .sl x.Keys.length (x.Keys.flatMap (eL eU8))]

structure GReadsRead where
  Tx : Int
  Rng : GApiRange
def eGReadsRead (x : GReadsRead) : List Lf := [.i .i64 x.Tx, .sl x.Rng.Lo.length (x.Rng.Lo.flatMap eU8), .sl x.Rng.Hi.length (x.Rng.Hi.flatMap eU8), .b x.Rng.Open]

structure GReadsTable where
  L : List GReadsRead
def eGReadsTable (x : GReadsTable) : List Lf := [.sl x.L.length (x.L.flatMap eGReadsRead)]

structure GSsiCert where
  Txs : List GSsiTx
  Reads : GReadsTable
def eGSsiCert (x : GSsiCert) : List Lf := [.sl x.Txs.length (x.Txs.flatMap eGSsiTx), .sl x.Reads.L.length (x.Reads.L.flatMap eGReadsRead)]

structure GReadsKnown where
  tx_ : Int
  lo_ : List UInt8
  hi_ : List UInt8
  open_ : Bool
def eGReadsKnown (x : GReadsKnown) : List Lf := [.i .i64 x.tx_, .s ⟨x.lo_.toArray⟩, .s ⟨x.hi_.toArray⟩, .b x.open_]

structure GR11Tx where
  ID : Int
  Begin : Int
  End : Int
  State : Int
  In : Bool
  Out : Bool
  RO : Bool
  Keys : List (List UInt8)
def eGR11Tx (x : GR11Tx) : List Lf := [.i .i64 x.ID, .i .i64 x.Begin, .i .i64 x.End, .i .i64 x.State, .b x.In, .b x.Out, .b x.RO, .sl x.Keys.length (x.Keys.flatMap (eL eU8))]

structure GR10Read where
  Tx : Int
  Rng : GApiRange
def eGR10Read (x : GR10Read) : List Lf := [.i .i64 x.Tx, .sl x.Rng.Lo.length (x.Rng.Lo.flatMap eU8), .sl x.Rng.Hi.length (x.Rng.Hi.flatMap eU8), .b x.Rng.Open]

instance : Coe GApiRange (List Lf) := ⟨eGApiRange⟩
instance : Coe GL11Act (List Lf) := ⟨eGL11Act⟩
instance : Coe GSsiTx (List Lf) := ⟨eGSsiTx⟩
instance : Coe GReadsRead (List Lf) := ⟨eGReadsRead⟩
instance : Coe GReadsTable (List Lf) := ⟨eGReadsTable⟩
instance : Coe GSsiCert (List Lf) := ⟨eGSsiCert⟩
instance : Coe GReadsKnown (List Lf) := ⟨eGReadsKnown⟩
instance : Coe GR11Tx (List Lf) := ⟨eGR11Tx⟩
instance : Coe GR10Read (List Lf) := ⟨eGR10Read⟩
theorem zi31 : ZI Try.prog 31 ([.raw (.slice none 0 0), .raw (.slice none 0 0)]) := zi_of (by kernel_rfl)
theorem pi31 : PI Try.prog 31 [(0, 1), (1, 1)] := pi_of Try.underlying31 (by kernel_rfl) (by kernel_rfl)
theorem zi48 : ZI Try.prog 48 ([.i .i64 0, .i .i64 0, .i .i64 0, .i .i64 0, .b false, .b false, .b false, .raw (.slice none 0 0)]) := zi_of (by kernel_rfl)
theorem pi48 : PI Try.prog 48 [(0, 1), (1, 1), (2, 1), (3, 1), (4, 1), (5, 1), (6, 1), (7, 1)] := pi_of Try.underlying48 (by kernel_rfl) (by kernel_rfl)
theorem sz48 : (Try.prog.info? 48).map (·.size) = some 8 := by kernel_rfl
theorem ti31 : TI Try.prog 31 true 2 := ⟨⟨_, Try.underlying31, rfl⟩, by kernel_rfl⟩
theorem fi31_0 : FI Try.prog 31 0 0 := ⟨⟨_, _, 1, Try.underlying31, rfl, rfl, by kernel_rfl, by decide⟩⟩
theorem ti26 : TI Try.prog 26 false 1 := ⟨⟨_, Try.underlying26, rfl⟩, by kernel_rfl⟩
theorem si26 : SI Try.prog 26 48 8 := ⟨Try.underlying26, by kernel_rfl, by decide⟩
theorem fi31_1 : FI Try.prog 31 1 1 := ⟨⟨_, _, 1, Try.underlying31, rfl, rfl, by kernel_rfl, by decide⟩⟩
theorem ti29 : TI Try.prog 29 true 1 := ⟨⟨_, Try.underlying29, rfl⟩, by kernel_rfl⟩
theorem fi29_0 : FI Try.prog 29 0 0 := ⟨⟨_, _, 1, Try.underlying29, rfl, rfl, by kernel_rfl, by decide⟩⟩
theorem ti27 : TI Try.prog 27 false 1 := ⟨⟨_, Try.underlying27, rfl⟩, by kernel_rfl⟩
theorem si27 : SI Try.prog 27 72 4 := ⟨Try.underlying27, by kernel_rfl, by decide⟩
theorem ti72 : TI Try.prog 72 true 4 := ⟨⟨_, Try.underlying72, rfl⟩, by kernel_rfl⟩
theorem zi72 : ZI Try.prog 72 ([.i .i64 0, .raw (.slice none 0 0), .raw (.slice none 0 0), .b false]) := zi_of (by kernel_rfl)
theorem sz72 : (Try.prog.info? 72).map (·.size) = some 4 := by kernel_rfl
theorem fi72_0 : FI Try.prog 72 0 0 := ⟨⟨_, _, 1, Try.underlying72, rfl, rfl, by kernel_rfl, by decide⟩⟩
theorem ti3 : TI Try.prog 3 false 1 := ⟨⟨_, Try.underlying3, rfl⟩, by kernel_rfl⟩
theorem fi72_1 : FI Try.prog 72 1 1 := ⟨⟨_, _, 3, Try.underlying72, rfl, rfl, by kernel_rfl, by decide⟩⟩
theorem ti40 : TI Try.prog 40 true 3 := ⟨⟨_, Try.underlying40, rfl⟩, by kernel_rfl⟩
theorem fi40_0 : FI Try.prog 40 0 0 := ⟨⟨_, _, 1, Try.underlying40, rfl, rfl, by kernel_rfl, by decide⟩⟩
theorem ti38 : TI Try.prog 38 false 1 := ⟨⟨_, Try.underlying38, rfl⟩, by kernel_rfl⟩
theorem si38 : SI Try.prog 38 5 1 := ⟨Try.underlying38, by kernel_rfl, by decide⟩
theorem fi40_1 : FI Try.prog 40 1 1 := ⟨⟨_, _, 1, Try.underlying40, rfl, rfl, by kernel_rfl, by decide⟩⟩
theorem fi40_2 : FI Try.prog 40 2 2 := ⟨⟨_, _, 1, Try.underlying40, rfl, rfl, by kernel_rfl, by decide⟩⟩
theorem ti4 : TI Try.prog 4 false 1 := ⟨⟨_, Try.underlying4, rfl⟩, by kernel_rfl⟩
theorem fn69 : FnI Try.prog 69 := ⟨⟨_, Try.func69, by kernel_rfl, by kernel_rfl⟩⟩
theorem ti5 : TI Try.prog 5 false 1 := ⟨⟨_, Try.underlying5, rfl⟩, by kernel_rfl⟩
theorem xi83 : XI Try.prog 83 Extern.BytealgCompare.compare := ⟨⟨Try.f83, Try.func83, by kernel_rfl, by kernel_rfl, by kernel_rfl, by kernel_rfl⟩⟩
theorem fn80 : FnI Try.prog 80 := ⟨⟨_, Try.func80, by kernel_rfl, by kernel_rfl⟩⟩
theorem fn74 : FnI Try.prog 74 := ⟨⟨_, Try.func74, by kernel_rfl, by kernel_rfl⟩⟩
theorem fn70 : FnI Try.prog 70 := ⟨⟨_, Try.func70, by kernel_rfl, by kernel_rfl⟩⟩
theorem fn52 : FnI Try.prog 52 := ⟨⟨_, Try.func52, by kernel_rfl, by kernel_rfl⟩⟩
theorem mixed : Try.prog.follows .mixedOrders = true := by kernel_rfl
instance : DecidableEq GReadsKnown := fun a b => decidable_of_iff (a.tx_ = b.tx_ ∧ a.lo_ = b.lo_ ∧ a.hi_ = b.hi_ ∧ a.open_ = b.open_) (by cases a; cases b; simp)
theorem ke112 : KeyE GReadsKnown Try.prog 112 eGReadsKnown [0, 2, 2, 1] := ⟨⟨by kernel_rfl, by kernel_rfl, by kernel_rfl, by kernel_rfl⟩, fun _ => rfl, by decide, fun a b => by cases a; cases b; simp [eGReadsKnown, eqLs, eqLf, keyS, beqD]⟩
theorem zi112 : ZI Try.prog 112 ([.i .i64 0, .s ByteArray.empty, .s ByteArray.empty, .b false]) := zi_of (by kernel_rfl)
theorem pi112 : PI Try.prog 112 [(0, 1), (1, 1), (2, 1), (3, 1)] := pi_of Try.underlying112 (by kernel_rfl) (by kernel_rfl)
theorem sz112 : (Try.prog.info? 112).map (·.size) = some 4 := by kernel_rfl
theorem ti112 : TI Try.prog 112 true 4 := ⟨⟨_, Try.underlying112, rfl⟩, by kernel_rfl⟩
theorem fn60 : FnI Try.prog 60 := ⟨⟨_, Try.func60, by kernel_rfl, by kernel_rfl⟩⟩
theorem fn53 : FnI Try.prog 53 := ⟨⟨_, Try.func53, by kernel_rfl, by kernel_rfl⟩⟩
theorem fn29 : FnI Try.prog 29 := ⟨⟨_, Try.func29, by kernel_rfl, by kernel_rfl⟩⟩
theorem ti48 : TI Try.prog 48 true 8 := ⟨⟨_, Try.underlying48, rfl⟩, by kernel_rfl⟩
theorem fi48_0 : FI Try.prog 48 0 0 := ⟨⟨_, _, 1, Try.underlying48, rfl, rfl, by kernel_rfl, by decide⟩⟩
theorem fi48_1 : FI Try.prog 48 1 1 := ⟨⟨_, _, 1, Try.underlying48, rfl, rfl, by kernel_rfl, by decide⟩⟩
theorem fi48_3 : FI Try.prog 48 3 3 := ⟨⟨_, _, 1, Try.underlying48, rfl, rfl, by kernel_rfl, by decide⟩⟩
theorem fi48_2 : FI Try.prog 48 2 2 := ⟨⟨_, _, 1, Try.underlying48, rfl, rfl, by kernel_rfl, by decide⟩⟩
theorem fi48_7 : FI Try.prog 48 7 7 := ⟨⟨_, _, 1, Try.underlying48, rfl, rfl, by kernel_rfl, by decide⟩⟩
theorem ti41 : TI Try.prog 41 false 1 := ⟨⟨_, Try.underlying41, rfl⟩, by kernel_rfl⟩
theorem si41 : SI Try.prog 41 38 1 := ⟨Try.underlying41, by kernel_rfl, by decide⟩
theorem fn71 : FnI Try.prog 71 := ⟨⟨_, Try.func71, by kernel_rfl, by kernel_rfl⟩⟩
theorem fn72 : FnI Try.prog 72 := ⟨⟨_, Try.func72, by kernel_rfl, by kernel_rfl⟩⟩
theorem fn54 : FnI Try.prog 54 := ⟨⟨_, Try.func54, by kernel_rfl, by kernel_rfl⟩⟩
theorem fi48_6 : FI Try.prog 48 6 6 := ⟨⟨_, _, 1, Try.underlying48, rfl, rfl, by kernel_rfl, by decide⟩⟩
theorem fn30 : FnI Try.prog 30 := ⟨⟨_, Try.func30, by kernel_rfl, by kernel_rfl⟩⟩
theorem fn31 : FnI Try.prog 31 := ⟨⟨_, Try.func31, by kernel_rfl, by kernel_rfl⟩⟩
theorem ei3 : EI Try.prog 3 1 8 [.i .i64 0] := ei_of (by kernel_rfl) (by decide)
theorem ni32 : NI Try.prog 32 := ⟨.inl ⟨_, Try.underlying32⟩⟩
theorem fn33 : FnI Try.prog 33 := ⟨⟨_, Try.func33, by kernel_rfl, by kernel_rfl⟩⟩
theorem zi29 : ZI Try.prog 29 ([.raw (.slice none 0 0)]) := zi_of (by kernel_rfl)
theorem si32 : SI Try.prog 32 3 1 := ⟨Try.underlying32, by kernel_rfl, by decide⟩
theorem fn58 : FnI Try.prog 58 := ⟨⟨_, Try.func58, by kernel_rfl, by kernel_rfl⟩⟩
theorem fn57 : FnI Try.prog 57 := ⟨⟨_, Try.func57, by kernel_rfl, by kernel_rfl⟩⟩
theorem ei72 : EI Try.prog 72 4 64 [.i .i64 0, .raw (.slice none 0 0), .raw (.slice none 0 0), .b false] := ei_of (by kernel_rfl) (by decide)
theorem ni27 : NI Try.prog 27 := ⟨.inl ⟨_, Try.underlying27⟩⟩
theorem pi29 : PI Try.prog 29 [(0, 1)] := pi_of Try.underlying29 (by kernel_rfl) (by kernel_rfl)
theorem sz29 : (Try.prog.info? 29).map (·.size) = some 1 := by kernel_rfl
theorem fn55 : FnI Try.prog 55 := ⟨⟨_, Try.func55, by kernel_rfl, by kernel_rfl⟩⟩
theorem fn32 : FnI Try.prog 32 := ⟨⟨_, Try.func32, by kernel_rfl, by kernel_rfl⟩⟩
theorem ft29_0 : FT Try.prog 29 0 0 27 := ⟨⟨_, _, Try.underlying29, rfl, rfl, rfl⟩⟩
theorem fn13 : FnI Try.prog 13 := ⟨⟨_, Try.func13, by kernel_rfl, by kernel_rfl⟩⟩
theorem sz31 : (Try.prog.info? 31).map (·.size) = some 2 := by kernel_rfl
theorem fn37 : FnI Try.prog 37 := ⟨⟨_, Try.func37, by kernel_rfl, by kernel_rfl⟩⟩
theorem ei48 : EI Try.prog 48 8 64 [.i .i64 0, .i .i64 0, .i .i64 0, .i .i64 0, .b false, .b false, .b false, .raw (.slice none 0 0)] := ei_of (by kernel_rfl) (by decide)
theorem ei26 : EI Try.prog 26 1 24 [.raw (.slice none 0 0)] := ei_of (by kernel_rfl) (by decide)
theorem si108 : SI Try.prog 108 26 1 := ⟨Try.underlying108, by kernel_rfl, by decide⟩
theorem fn59 : FnI Try.prog 59 := ⟨⟨_, Try.func59, by kernel_rfl, by kernel_rfl⟩⟩
theorem ni26 : NI Try.prog 26 := ⟨.inl ⟨_, Try.underlying26⟩⟩
theorem fn38 : FnI Try.prog 38 := ⟨⟨_, Try.func38, by kernel_rfl, by kernel_rfl⟩⟩
theorem fn17 : FnI Try.prog 17 := ⟨⟨_, Try.func17, by kernel_rfl, by kernel_rfl⟩⟩
theorem zi40 : ZI Try.prog 40 ([.raw (.slice none 0 0), .raw (.slice none 0 0), .b false]) := zi_of (by kernel_rfl)
theorem ei5 : EI Try.prog 5 1 1 [.i .u8 0] := ei_of (by kernel_rfl) (by decide)
theorem ni38 : NI Try.prog 38 := ⟨.inl ⟨_, Try.underlying38⟩⟩
theorem pi40 : PI Try.prog 40 [(0, 1), (1, 1), (2, 1)] := pi_of Try.underlying40 (by kernel_rfl) (by kernel_rfl)
theorem sz40 : (Try.prog.info? 40).map (·.size) = some 3 := by kernel_rfl
theorem fn51 : FnI Try.prog 51 := ⟨⟨_, Try.func51, by kernel_rfl, by kernel_rfl⟩⟩
theorem fn28 : FnI Try.prog 28 := ⟨⟨_, Try.func28, by kernel_rfl, by kernel_rfl⟩⟩
theorem fn35 : FnI Try.prog 35 := ⟨⟨_, Try.func35, by kernel_rfl, by kernel_rfl⟩⟩
theorem pi72 : PI Try.prog 72 [(0, 1), (1, 3)] := pi_of Try.underlying72 (by kernel_rfl) (by kernel_rfl)
theorem zv3 : (Try.prog.info? 3).bind (·.zero) = some (.int .i64 0) := by kernel_rfl
theorem ei27 : EI Try.prog 27 1 24 [.raw (.slice none 0 0)] := ei_of (by kernel_rfl) (by decide)
theorem si119 : SI Try.prog 119 27 1 := ⟨Try.underlying119, by kernel_rfl, by decide⟩
theorem fn73 : FnI Try.prog 73 := ⟨⟨_, Try.func73, by kernel_rfl, by kernel_rfl⟩⟩
theorem fn61 : FnI Try.prog 61 := ⟨⟨_, Try.func61, by kernel_rfl, by kernel_rfl⟩⟩
theorem fn39 : FnI Try.prog 39 := ⟨⟨_, Try.func39, by kernel_rfl, by kernel_rfl⟩⟩
theorem fn40 : FnI Try.prog 40 := ⟨⟨_, Try.func40, by kernel_rfl, by kernel_rfl⟩⟩
theorem fn62 : FnI Try.prog 62 := ⟨⟨_, Try.func62, by kernel_rfl, by kernel_rfl⟩⟩
theorem fn41 : FnI Try.prog 41 := ⟨⟨_, Try.func41, by kernel_rfl, by kernel_rfl⟩⟩
theorem fn63 : FnI Try.prog 63 := ⟨⟨_, Try.func63, by kernel_rfl, by kernel_rfl⟩⟩
theorem fn42 : FnI Try.prog 42 := ⟨⟨_, Try.func42, by kernel_rfl, by kernel_rfl⟩⟩
theorem zi91 : ZI Try.prog 91 ([.raw .nilFunc, .raw .nilFunc]) := zi_of (by kernel_rfl)
theorem pi91 : PI Try.prog 91 [(0, 1), (1, 1)] := pi_of Try.underlying91 (by kernel_rfl) (by kernel_rfl)
theorem sz91 : (Try.prog.info? 91).map (·.size) = some 2 := by kernel_rfl
theorem ti91 : TI Try.prog 91 true 2 := ⟨⟨_, Try.underlying91, rfl⟩, by kernel_rfl⟩
theorem fn43 : FnI Try.prog 43 := ⟨⟨_, Try.func43, by kernel_rfl, by kernel_rfl⟩⟩
theorem fi91_0 : FI Try.prog 91 0 0 := ⟨⟨_, _, 1, Try.underlying91, rfl, rfl, by kernel_rfl, by decide⟩⟩
theorem ti89 : TI Try.prog 89 false 1 := ⟨⟨_, Try.underlying89, rfl⟩, by kernel_rfl⟩
theorem fi48_5 : FI Try.prog 48 5 5 := ⟨⟨_, _, 1, Try.underlying48, rfl, rfl, by kernel_rfl, by decide⟩⟩
theorem sz4 : (Try.prog.info? 4).map (·.size) = some 1 := by kernel_rfl
theorem fn64 : FnI Try.prog 64 := ⟨⟨_, Try.func64, by kernel_rfl, by kernel_rfl⟩⟩
theorem fi91_1 : FI Try.prog 91 1 1 := ⟨⟨_, _, 1, Try.underlying91, rfl, rfl, by kernel_rfl, by decide⟩⟩
theorem fi48_4 : FI Try.prog 48 4 4 := ⟨⟨_, _, 1, Try.underlying48, rfl, rfl, by kernel_rfl, by decide⟩⟩
theorem fn65 : FnI Try.prog 65 := ⟨⟨_, Try.func65, by kernel_rfl, by kernel_rfl⟩⟩
theorem fn44 : FnI Try.prog 44 := ⟨⟨_, Try.func44, by kernel_rfl, by kernel_rfl⟩⟩
theorem fn45 : FnI Try.prog 45 := ⟨⟨_, Try.func45, by kernel_rfl, by kernel_rfl⟩⟩
theorem fn19 : FnI Try.prog 19 := ⟨⟨_, Try.func19, by kernel_rfl, by kernel_rfl⟩⟩
theorem ei38 : EI Try.prog 38 1 24 [.raw (.slice none 0 0)] := ei_of (by kernel_rfl) (by decide)
theorem fn46 : FnI Try.prog 46 := ⟨⟨_, Try.func46, by kernel_rfl, by kernel_rfl⟩⟩
theorem fn76 : FnI Try.prog 76 := ⟨⟨_, Try.func76, by kernel_rfl, by kernel_rfl⟩⟩
theorem fn75 : FnI Try.prog 75 := ⟨⟨_, Try.func75, by kernel_rfl, by kernel_rfl⟩⟩
theorem fn77 : FnI Try.prog 77 := ⟨⟨_, Try.func77, by kernel_rfl, by kernel_rfl⟩⟩
theorem fn66 : FnI Try.prog 66 := ⟨⟨_, Try.func66, by kernel_rfl, by kernel_rfl⟩⟩
theorem fn47 : FnI Try.prog 47 := ⟨⟨_, Try.func47, by kernel_rfl, by kernel_rfl⟩⟩
theorem fn78 : FnI Try.prog 78 := ⟨⟨_, Try.func78, by kernel_rfl, by kernel_rfl⟩⟩
theorem fn79 : FnI Try.prog 79 := ⟨⟨_, Try.func79, by kernel_rfl, by kernel_rfl⟩⟩
theorem fn67 : FnI Try.prog 67 := ⟨⟨_, Try.func67, by kernel_rfl, by kernel_rfl⟩⟩
theorem fn49 : FnI Try.prog 49 := ⟨⟨_, Try.func49, by kernel_rfl, by kernel_rfl⟩⟩
theorem fn48 : FnI Try.prog 48 := ⟨⟨_, Try.func48, by kernel_rfl, by kernel_rfl⟩⟩
theorem sz3 : (Try.prog.info? 3).map (·.size) = some 1 := by kernel_rfl
theorem sz41 : (Try.prog.info? 41).map (·.size) = some 1 := by kernel_rfl
theorem fn20 : FnI Try.prog 20 := ⟨⟨_, Try.func20, by kernel_rfl, by kernel_rfl⟩⟩
theorem fn9 : FnI Try.prog 9 := ⟨⟨_, Try.func9, by kernel_rfl, by kernel_rfl⟩⟩
theorem si22 : SI Try.prog 22 43 7 := ⟨Try.underlying22, by kernel_rfl, by decide⟩
theorem fi43_3 : FI Try.prog 43 3 3 := ⟨⟨_, _, 3, Try.underlying43, rfl, rfl, by kernel_rfl, by decide⟩⟩
theorem fn18 : FnI Try.prog 18 := ⟨⟨_, Try.func18, by kernel_rfl, by kernel_rfl⟩⟩
theorem fi43_4 : FI Try.prog 43 4 6 := ⟨⟨_, _, 1, Try.underlying43, rfl, rfl, by kernel_rfl, by decide⟩⟩
theorem fn10 : FnI Try.prog 10 := ⟨⟨_, Try.func10, by kernel_rfl, by kernel_rfl⟩⟩
theorem zi36 : ZI Try.prog 36 ([.raw (.slice none 0 0), .raw (.slice none 0 0), .i .i64 0, .raw (.slice none 0 0), .raw (.slice none 0 0), .raw (.slice none 0 0)]) := zi_of (by kernel_rfl)
theorem pi36 : PI Try.prog 36 [(0, 2), (2, 1), (3, 1), (4, 1), (5, 1)] := pi_of Try.underlying36 (by kernel_rfl) (by kernel_rfl)
theorem ti43 : TI Try.prog 43 true 7 := ⟨⟨_, Try.underlying43, rfl⟩, by kernel_rfl⟩
theorem fi36_2 : FI Try.prog 36 2 3 := ⟨⟨_, _, 1, Try.underlying36, rfl, rfl, by kernel_rfl, by decide⟩⟩
theorem ti32 : TI Try.prog 32 false 1 := ⟨⟨_, Try.underlying32, rfl⟩, by kernel_rfl⟩
theorem fi43_1 : FI Try.prog 43 1 1 := ⟨⟨_, _, 1, Try.underlying43, rfl, rfl, by kernel_rfl, by decide⟩⟩
theorem fi43_0 : FI Try.prog 43 0 0 := ⟨⟨_, _, 1, Try.underlying43, rfl, rfl, by kernel_rfl, by decide⟩⟩
theorem fi36_0 : FI Try.prog 36 0 0 := ⟨⟨_, _, 2, Try.underlying36, rfl, rfl, by kernel_rfl, by decide⟩⟩
theorem fi36_1 : FI Try.prog 36 1 2 := ⟨⟨_, _, 1, Try.underlying36, rfl, rfl, by kernel_rfl, by decide⟩⟩
theorem fi43_2 : FI Try.prog 43 2 2 := ⟨⟨_, _, 1, Try.underlying43, rfl, rfl, by kernel_rfl, by decide⟩⟩
theorem sz32 : (Try.prog.info? 32).map (·.size) = some 1 := by kernel_rfl
theorem fi36_4 : FI Try.prog 36 4 5 := ⟨⟨_, _, 1, Try.underlying36, rfl, rfl, by kernel_rfl, by decide⟩⟩
theorem ti34 : TI Try.prog 34 false 1 := ⟨⟨_, Try.underlying34, rfl⟩, by kernel_rfl⟩
theorem zi76 : ZI Try.prog 76 ([.i .i64 0, .raw (.slice none 0 0), .raw (.slice none 0 0), .b false]) := zi_of (by kernel_rfl)
theorem pi76 : PI Try.prog 76 [(0, 1), (1, 3)] := pi_of Try.underlying76 (by kernel_rfl) (by kernel_rfl)
theorem ei76 : EI Try.prog 76 4 64 [.i .i64 0, .raw (.slice none 0 0), .raw (.slice none 0 0), .b false] := ei_of (by kernel_rfl) (by decide)
theorem ni34 : NI Try.prog 34 := ⟨.inl ⟨_, Try.underlying34⟩⟩
theorem sz34 : (Try.prog.info? 34).map (·.size) = some 1 := by kernel_rfl
theorem fn36 : FnI Try.prog 36 := ⟨⟨_, Try.func36, by kernel_rfl, by kernel_rfl⟩⟩
theorem fn15 : FnI Try.prog 15 := ⟨⟨_, Try.func15, by kernel_rfl, by kernel_rfl⟩⟩
theorem fi36_3 : FI Try.prog 36 3 4 := ⟨⟨_, _, 1, Try.underlying36, rfl, rfl, by kernel_rfl, by decide⟩⟩
theorem ti33 : TI Try.prog 33 false 1 := ⟨⟨_, Try.underlying33, rfl⟩, by kernel_rfl⟩
theorem zi46 : ZI Try.prog 46 ([.i .i64 0, .i .i64 0, .i .i64 0, .i .i64 0, .b false, .b false, .b false, .raw (.slice none 0 0)]) := zi_of (by kernel_rfl)
theorem pi46 : PI Try.prog 46 [(0, 1), (1, 1), (2, 1), (3, 1), (4, 1), (5, 1), (6, 1), (7, 1)] := pi_of Try.underlying46 (by kernel_rfl) (by kernel_rfl)
theorem ei46 : EI Try.prog 46 8 64 [.i .i64 0, .i .i64 0, .i .i64 0, .i .i64 0, .b false, .b false, .b false, .raw (.slice none 0 0)] := ei_of (by kernel_rfl) (by decide)
theorem ni33 : NI Try.prog 33 := ⟨.inl ⟨_, Try.underlying33⟩⟩
theorem sz33 : (Try.prog.info? 33).map (·.size) = some 1 := by kernel_rfl
theorem fn23 : FnI Try.prog 23 := ⟨⟨_, Try.func23, by kernel_rfl, by kernel_rfl⟩⟩
theorem fn16 : FnI Try.prog 16 := ⟨⟨_, Try.func16, by kernel_rfl, by kernel_rfl⟩⟩
theorem fn11 : FnI Try.prog 11 := ⟨⟨_, Try.func11, by kernel_rfl, by kernel_rfl⟩⟩
theorem si33 : SI Try.prog 33 46 8 := ⟨Try.underlying33, by kernel_rfl, by decide⟩
theorem ti46 : TI Try.prog 46 true 8 := ⟨⟨_, Try.underlying46, rfl⟩, by kernel_rfl⟩
theorem fi46_7 : FI Try.prog 46 7 7 := ⟨⟨_, _, 1, Try.underlying46, rfl, rfl, by kernel_rfl, by decide⟩⟩
theorem fi46_2 : FI Try.prog 46 2 2 := ⟨⟨_, _, 1, Try.underlying46, rfl, rfl, by kernel_rfl, by decide⟩⟩
theorem si34 : SI Try.prog 34 76 4 := ⟨Try.underlying34, by kernel_rfl, by decide⟩
theorem fi76_0 : FI Try.prog 76 0 0 := ⟨⟨_, _, 1, Try.underlying76, rfl, rfl, by kernel_rfl, by decide⟩⟩
theorem fi46_0 : FI Try.prog 46 0 0 := ⟨⟨_, _, 1, Try.underlying46, rfl, rfl, by kernel_rfl, by decide⟩⟩
theorem fi46_1 : FI Try.prog 46 1 1 := ⟨⟨_, _, 1, Try.underlying46, rfl, rfl, by kernel_rfl, by decide⟩⟩
theorem fi76_1 : FI Try.prog 76 1 1 := ⟨⟨_, _, 3, Try.underlying76, rfl, rfl, by kernel_rfl, by decide⟩⟩
theorem fn56 : FnI Try.prog 56 := ⟨⟨_, Try.func56, by kernel_rfl, by kernel_rfl⟩⟩
theorem fn34 : FnI Try.prog 34 := ⟨⟨_, Try.func34, by kernel_rfl, by kernel_rfl⟩⟩
theorem fn14 : FnI Try.prog 14 := ⟨⟨_, Try.func14, by kernel_rfl, by kernel_rfl⟩⟩
theorem fn12 : FnI Try.prog 12 := ⟨⟨_, Try.func12, by kernel_rfl, by kernel_rfl⟩⟩
theorem sz46 : (Try.prog.info? 46).map (·.size) = some 8 := by kernel_rfl

def m69_keys_SaneRange (a0 : GApiRange) : Option Bool :=
  if (decide ((a0.Lo.length : Int) ≤ 17)) then (if (decide ((a0.Hi.length : Int) ≤ 17)) then (if a0.Open then (some (!(decide (0 < (a0.Hi.length : Int))))) else (some true)) else (some false)) else (some false)

set_option maxRecDepth 100000 in
theorem m69_keys_SaneRange_c {a0 : GApiRange} {r : Bool} (h : m69_keys_SaneRange a0 = some r) : CallsA Try.prog 69 [.agg a0] (· = .s (.one (.b r))) := by
  unfold m69_keys_SaneRange at h
  refine callsA_of Try.func69 rfl (nt := 24) rfl (Nat.le_of_ble_eq_true rfl) ?_
  intro w0 S0
  refine cseq ?_
  refine cregion ?_
  refine sbox rfl rfl ?_
  refine sv rfl (opv_as rfl) ?_
  refine snil ?_
  refine cseq ?_
  refine cregion ?_
  refine sv rfl (opv_fieldAddr_lp fi40_0 rfl) ?_
  refine sv rfl (opv_load1 ti38 rfl (.lp _ _ _ rfl) rfl) ?_
  refine sv rfl (opv_len_sl si38 rfl) ?_
  refine sv rfl (opv_leq rfl rfl) ?_
  refine sv rfl (opv_mv rfl) ?_
  refine ssplit 7 rfl (fun hc => ?_) (fun hc => ?_)
  · replace h := ite_t hc h
    clear hc
    refine son rfl rfl rfl ?_
    refine sv rfl (opv_fieldAddr_lp fi40_1 rfl) ?_
    refine son rfl rfl rfl ?_
    refine sv rfl (opv_load1 ti38 rfl (.lp _ _ _ rfl) rfl) ?_
    refine son rfl rfl rfl ?_
    refine sv rfl (opv_len_sl si38 rfl) ?_
    refine son rfl rfl rfl ?_
    refine sv rfl (opv_leq rfl rfl) ?_
    refine sv rfl (opv_pick_t rfl rfl) ?_
    refine sv rfl (opv_mv rfl) ?_
    refine ssplit 13 rfl (fun hc => ?_) (fun hc => ?_)
    · replace h := ite_t hc h
      clear hc
      refine son rfl rfl rfl ?_
      refine sv rfl (opv_fieldAddr_lp fi40_2 rfl) ?_
      refine son rfl rfl rfl ?_
      refine sv rfl (opv_load1 ti4 rfl (.lp _ _ _ rfl) rfl) ?_
      refine son rfl rfl rfl ?_
      refine sv rfl (opv_mv rfl) ?_
      refine ssplit 16 rfl (fun hc => ?_) (fun hc => ?_)
      · replace h := ite_t hc h
        clear hc
        refine son rfl rfl rfl ?_
        refine sv rfl (opv_fieldAddr_lp fi40_1 rfl) ?_
        refine son rfl rfl rfl ?_
        refine sv rfl (opv_load1 ti38 rfl (.lp _ _ _ rfl) rfl) ?_
        refine son rfl rfl rfl ?_
        refine sv rfl (opv_len_sl si38 rfl) ?_
        refine son rfl rfl rfl ?_
        refine sv rfl (opv_gtr rfl rfl) ?_
        refine son rfl rfl rfl ?_
        refine sv rfl (opv_pick_t rfl rfl) ?_
        refine son rfl rfl rfl ?_
        refine sv rfl (opv_not rfl) ?_
        refine sv rfl (opv_pick_t rfl rfl) ?_
        refine sv rfl (opv_as rfl) ?_
        refine snil ?_
        refine cret ?_
        obtain rfl := Option.some.inj h
        refine ⟨Or.inr rfl, _, _, _, (resVs_cons (ResV.tmp _ _ rfl) resVs_nil), (pubA_id rfl), ?_⟩
        rfl
      · replace h := ite_f hc h
        clear hc
        refine soff rfl rfl rfl rfl ?_
        refine soff rfl rfl rfl rfl ?_
        refine soff rfl rfl rfl rfl ?_
        refine soff rfl rfl rfl rfl ?_
        refine son rfl rfl rfl ?_
        refine sv rfl (opv_pick_f rfl rfl) ?_
        refine son rfl rfl rfl ?_
        refine sv rfl (opv_not rfl) ?_
        refine sv rfl (opv_pick_t rfl rfl) ?_
        refine sv rfl (opv_as rfl) ?_
        refine snil ?_
        refine cret ?_
        obtain rfl := Option.some.inj h
        refine ⟨Or.inr rfl, _, _, _, (resVs_cons (ResV.tmp _ _ rfl) resVs_nil), (pubA_id rfl), ?_⟩
        rfl
    · replace h := ite_f hc h
      clear hc
      refine soff rfl rfl rfl rfl ?_
      refine soff rfl rfl rfl rfl ?_
      refine soff rfl rfl rfl rfl ?_
      refine soffu rfl rfl rfl ?_
      refine soffu rfl rfl rfl ?_
      refine soffu rfl rfl rfl ?_
      refine soffu rfl rfl rfl ?_
      refine soff rfl rfl rfl rfl ?_
      refine soff rfl rfl rfl rfl ?_
      refine sv rfl (opv_pick_f rfl rfl) ?_
      refine sv rfl (opv_as rfl) ?_
      refine snil ?_
      refine cret ?_
      obtain rfl := Option.some.inj h
      refine ⟨Or.inr rfl, _, _, _, (resVs_cons (ResV.tmp _ _ rfl) resVs_nil), (pubA_id rfl), ?_⟩
      rfl
  · replace h := ite_f hc h
    clear hc
    refine soff rfl rfl rfl rfl ?_
    refine soff rfl rfl rfl rfl ?_
    refine soff rfl rfl rfl rfl ?_
    refine soff rfl rfl rfl rfl ?_
    refine sv rfl (opv_pick_f rfl rfl) ?_
    refine sv rfl (opv_mv rfl) ?_
    refine soff rfl rfl rfl rfl ?_
    refine soff rfl rfl rfl rfl ?_
    refine soff rfl rfl rfl rfl ?_
    refine soffu rfl rfl rfl ?_
    refine soffu rfl rfl rfl ?_
    refine soffu rfl rfl rfl ?_
    refine soffu rfl rfl rfl ?_
    refine soff rfl rfl rfl rfl ?_
    refine soff rfl rfl rfl rfl ?_
    refine sv rfl (opv_pick_f rfl rfl) ?_
    refine sv rfl (opv_as rfl) ?_
    refine snil ?_
    refine cret ?_
    obtain rfl := Option.some.inj h
    refine ⟨Or.inr rfl, _, _, _, (resVs_cons (ResV.tmp _ _ rfl) resVs_nil), (pubA_id rfl), ?_⟩
    rfl

def m80_bytes_Compare (a0 : List UInt8) (a1 : List UInt8) : Option Int :=
  some (cmpL a0 a1)

set_option maxRecDepth 100000 in
theorem m80_bytes_Compare_c {a0 : List UInt8} {a1 : List UInt8} {r : Int} (h : m80_bytes_Compare a0 a1 = some r) : CallsA Try.prog 80 [.one (.sl a0.length (a0.flatMap eU8)), .one (.sl a1.length (a1.flatMap eU8))] (· = .s (.one (.i .i64 r))) := by
  unfold m80_bytes_Compare at h
  refine callsA_of Try.func80 rfl (nt := 8) rfl (Nat.le_of_ble_eq_true rfl) ?_
  intro w0 S0
  refine cseq ?_
  refine cregion ?_
  refine sv rfl (opv_as rfl) ?_
  refine snil ?_
  refine cseq ?_
  refine cregion ?_
  refine sv rfl (opv_mv rfl) ?_
  refine sv rfl (opv_mv rfl) ?_
  refine sv rfl (opv_cmp' (a := a0) (b := a1) xi83 rfl rfl rfl rfl rfl rfl) ?_
  refine sv rfl (opv_as rfl) ?_
  refine snil ?_
  refine cret ?_
  obtain rfl := Option.some.inj h
  refine ⟨Or.inr rfl, _, _, _, (resVs_cons (ResV.tmp _ _ rfl) resVs_nil), (pubA_id rfl), ?_⟩
  rfl

def m74_keys_Cmp (a0 : List UInt8) (a1 : List UInt8) : Option Int :=
  (m80_bytes_Compare a0 a1).bind fun v1 => some v1

set_option maxRecDepth 100000 in
theorem m74_keys_Cmp_c {a0 : List UInt8} {a1 : List UInt8} {r : Int} (h : m74_keys_Cmp a0 a1 = some r) : CallsA Try.prog 74 [.one (.sl a0.length (a0.flatMap eU8)), .one (.sl a1.length (a1.flatMap eU8))] (· = .s (.one (.i .i64 r))) := by
  unfold m74_keys_Cmp at h
  refine callsA_of Try.func74 rfl (nt := 8) rfl (Nat.le_of_ble_eq_true rfl) ?_
  intro w0 S0
  refine cseq ?_
  refine cregion ?_
  refine sv rfl (opv_as rfl) ?_
  refine snil ?_
  refine cseq ?_
  refine cregion ?_
  refine sv rfl (opv_mv rfl) ?_
  refine sv rfl (opv_mv rfl) ?_
  obtain ⟨v1, hv1, h⟩ := bind_eq h
  refine scall1 rfl fn80 (opnds_cons rfl (opnds_cons rfl opnds_nil)) (pubA_id rfl) (m80_bytes_Compare_c hv1) ?_
  refine sv rfl (opv_as rfl) ?_
  refine snil ?_
  refine cret ?_
  obtain rfl := Option.some.inj h
  refine ⟨Or.inr rfl, _, _, _, (resVs_cons (ResV.tmp _ _ rfl) resVs_nil), (pubA_id rfl), ?_⟩
  rfl

def m70_keys_Empty_k1 (a0 : GApiRange) (b1 : Bool) : Option Bool :=
  if b1 then (some true) else ((m74_keys_Cmp a0.Hi a0.Lo).bind fun v2 => some (decide (v2 ≤ 0)))
def m70_keys_Empty (a0 : GApiRange) : Option Bool :=
  if a0.Open then (some false) else (if (decide ((a0.Lo.length : Int) = 0)) then (if (decide ((a0.Hi.length : Int) = 1)) then ((idx a0.Hi 0).bind fun u3 => m70_keys_Empty_k1 a0 (decide ((u3.toBitVec.toNat : Int) = (0 : Int)))) else (m70_keys_Empty_k1 a0 false)) else (m70_keys_Empty_k1 a0 false))

set_option maxRecDepth 100000 in
theorem m70_keys_Empty_c {a0 : GApiRange} {r : Bool} (h : m70_keys_Empty a0 = some r) : CallsA Try.prog 70 [.agg a0] (· = .s (.one (.b r))) := by
  unfold m70_keys_Empty at h
  refine callsA_of Try.func70 rfl (nt := 32) rfl (Nat.le_of_ble_eq_true rfl) ?_
  intro w0 S0
  refine cseq ?_
  refine cregion ?_
  refine sbox rfl rfl ?_
  refine sv rfl (opv_as rfl) ?_
  refine snil ?_
  refine cseq ?_
  refine cseq ?_
  refine cregion ?_
  refine sv rfl (opv_fieldAddr_lp fi40_2 rfl) ?_
  refine sv rfl (opv_load1 ti4 rfl (.lp _ _ _ rfl) rfl) ?_
  refine snil ?_
  refine ccond rfl (fun hc => ?_) (fun hc => ?_)
  · replace h := ite_t hc h
    clear hc
    refine cseq ?_
    refine cregion ?_
    refine sv rfl (opv_as rfl) ?_
    refine snil ?_
    refine cret ?_
    refine then_ret ?_
    obtain rfl := Option.some.inj h
    refine ⟨Or.inr rfl, _, _, _, (resVs_cons (ResV.tmp _ _ rfl) resVs_nil), (pubA_id rfl), ?_⟩
    rfl
  · replace h := ite_f hc h
    clear hc
    refine cskip ?_
    refine then_normal ?_
    refine cseq ?_
    refine cjoin (Bool) (fun b1 => [(1, .s (.one (.lp 0 0))), (3, .s (.one (.b b1)))]) (fun b1 => [.box a0]) (fun b1 => m70_keys_Empty_k1 a0 b1 = some r) (fun _ _ => inbL_of rfl) (fun _ _ => blkinb_of rfl) (fun _ _ => Nat.le_of_ble_eq_true rfl) (fun b1 h => ?_) ?_
    · unfold m70_keys_Empty_k1 at h
      refine cseq ?_
      refine cregion ?_
      refine sv rfl (opv_mv rfl) ?_
      refine sv rfl (opv_mv rfl) ?_
      refine ssplit 24 rfl (fun hc => ?_) (fun hc => ?_)
      · replace h := ite_t hc h
        clear hc
        refine soff rfl rfl rfl rfl ?_
        refine soff rfl rfl rfl rfl ?_
        refine soff rfl rfl rfl rfl ?_
        refine soff rfl rfl rfl rfl ?_
        refine soff rfl rfl rfl rfl ?_
        refine soff rfl rfl rfl rfl ?_
        refine sv rfl (opv_pick_t rfl rfl) ?_
        refine sv rfl (opv_as rfl) ?_
        refine snil ?_
        refine cret ?_
        obtain rfl := Option.some.inj h
        refine ⟨Or.inr rfl, _, _, _, (resVs_cons (ResV.tmp _ _ rfl) resVs_nil), (pubA_id rfl), ?_⟩
        rfl
      · replace h := ite_f hc h
        clear hc
        refine son rfl rfl rfl ?_
        refine sv rfl (opv_fieldAddr_lp fi40_1 rfl) ?_
        refine son rfl rfl rfl ?_
        refine sv rfl (opv_load1 ti38 rfl (.lp _ _ _ rfl) rfl) ?_
        refine son rfl rfl rfl ?_
        refine sv rfl (opv_fieldAddr_lp fi40_0 rfl) ?_
        refine son rfl rfl rfl ?_
        refine sv rfl (opv_load1 ti38 rfl (.lp _ _ _ rfl) rfl) ?_
        refine son rfl rfl rfl ?_
        obtain ⟨v2, hv2, h⟩ := bind_eq h
        refine scall1 rfl fn74 (opnds_cons rfl (opnds_cons rfl opnds_nil)) (pubA_id rfl) (m74_keys_Cmp_c hv2) ?_
        refine son rfl rfl rfl ?_
        refine sv rfl (opv_leq rfl rfl) ?_
        refine sv rfl (opv_pick_f rfl rfl) ?_
        refine sv rfl (opv_as rfl) ?_
        refine snil ?_
        refine cret ?_
        obtain rfl := Option.some.inj h
        refine ⟨Or.inr rfl, _, _, _, (resVs_cons (ResV.tmp _ _ rfl) resVs_nil), (pubA_id rfl), ?_⟩
        rfl
    · skip
      refine cregion ?_
      refine sv rfl (opv_fieldAddr_lp fi40_0 rfl) ?_
      refine sv rfl (opv_load1 ti38 rfl (.lp _ _ _ rfl) rfl) ?_
      refine sv rfl (opv_len_sl si38 rfl) ?_
      refine sv rfl (opv_ieql rfl rfl) ?_
      refine sv rfl (opv_mv rfl) ?_
      refine ssplit 10 rfl (fun hc => ?_) (fun hc => ?_)
      · replace h := ite_t hc h
        clear hc
        refine son rfl rfl rfl ?_
        refine sv rfl (opv_fieldAddr_lp fi40_1 rfl) ?_
        refine son rfl rfl rfl ?_
        refine sv rfl (opv_load1 ti38 rfl (.lp _ _ _ rfl) rfl) ?_
        refine son rfl rfl rfl ?_
        refine sv rfl (opv_len_sl si38 rfl) ?_
        refine son rfl rfl rfl ?_
        refine sv rfl (opv_ieql rfl rfl) ?_
        refine sv rfl (opv_pick_t rfl rfl) ?_
        refine sv rfl (opv_mv rfl) ?_
        refine ssplit 16 rfl (fun hc => ?_) (fun hc => ?_)
        · replace h := ite_t hc h
          clear hc
          refine son rfl rfl rfl ?_
          refine sv rfl (opv_fieldAddr_lp fi40_1 rfl) ?_
          refine son rfl rfl rfl ?_
          refine sv rfl (opv_load1 ti38 rfl (.lp _ _ _ rfl) rfl) ?_
          refine son rfl rfl rfl ?_
          obtain ⟨u3, hu3, h⟩ := bind_eq h
          refine sv rfl (opv_ix (f := eU8) si38 (fun _ => rfl) rfl rfl rfl rfl hu3) ?_
          refine son rfl rfl rfl ?_
          refine sv rfl (opv_load1 ti5 rfl (.cp _) rfl) ?_
          refine son rfl rfl rfl ?_
          refine sv rfl (opv_ieql rfl rfl) ?_
          refine sv rfl (opv_pick_t rfl rfl) ?_
          refine sv rfl (opv_as rfl) ?_
          refine snil ?_
          exact ⟨(decide ((u3.toBitVec.toNat : Int) = (0 : Int))), _, h, ⟨rfl, rfl, trivial⟩, rfl⟩
        · replace h := ite_f hc h
          clear hc
          refine soff rfl rfl rfl rfl ?_
          refine soff rfl rfl rfl rfl ?_
          refine soff rfl rfl rfl rfl ?_
          refine soff rfl rfl rfl rfl ?_
          refine soff rfl rfl rfl rfl ?_
          refine sv rfl (opv_pick_f rfl rfl) ?_
          refine sv rfl (opv_as rfl) ?_
          refine snil ?_
          exact ⟨false, _, h, ⟨rfl, rfl, trivial⟩, rfl⟩
      · replace h := ite_f hc h
        clear hc
        refine soff rfl rfl rfl rfl ?_
        refine soff rfl rfl rfl rfl ?_
        refine soff rfl rfl rfl rfl ?_
        refine soff rfl rfl rfl rfl ?_
        refine sv rfl (opv_pick_f rfl rfl) ?_
        refine sv rfl (opv_mv rfl) ?_
        refine soff rfl rfl rfl rfl ?_
        refine soff rfl rfl rfl rfl ?_
        refine soff rfl rfl rfl rfl ?_
        refine soff rfl rfl rfl rfl ?_
        refine soff rfl rfl rfl rfl ?_
        refine sv rfl (opv_pick_f rfl rfl) ?_
        refine sv rfl (opv_as rfl) ?_
        refine snil ?_
        exact ⟨false, _, h, ⟨rfl, rfl, trivial⟩, rfl⟩

def m52_reads_saneRead (a0 : GReadsRead) : Option Bool :=
  if (decide (0 ≤ a0.Tx)) then ((m69_keys_SaneRange (GApiRange.mk a0.Rng.Lo a0.Rng.Hi a0.Rng.Open)).bind fun v1 => if v1 then ((m70_keys_Empty (GApiRange.mk a0.Rng.Lo a0.Rng.Hi a0.Rng.Open)).bind fun v2 => some (!v2)) else (some false)) else (some false)

set_option maxRecDepth 100000 in
theorem m52_reads_saneRead_c {a0 : GReadsRead} {r : Bool} (h : m52_reads_saneRead a0 = some r) : CallsA Try.prog 52 [.agg a0] (· = .s (.one (.b r))) := by
  unfold m52_reads_saneRead at h
  refine callsA_of Try.func52 rfl (nt := 17) rfl (Nat.le_of_ble_eq_true rfl) ?_
  intro w0 S0
  refine cseq ?_
  refine cregion ?_
  refine sbox rfl rfl ?_
  refine sv rfl (opv_as rfl) ?_
  refine snil ?_
  refine cseq ?_
  refine cregion ?_
  refine sv rfl (opv_fieldAddr_lp fi72_0 rfl) ?_
  refine sv rfl (opv_load1 ti3 rfl (.lp _ _ _ rfl) rfl) ?_
  refine sv rfl (opv_geq rfl rfl) ?_
  refine sv rfl (opv_mv rfl) ?_
  refine ssplit 6 rfl (fun hc => ?_) (fun hc => ?_)
  · replace h := ite_t hc h
    clear hc
    refine son rfl rfl rfl ?_
    refine sv rfl (opv_fieldAddr_lp fi72_1 rfl) ?_
    refine son rfl rfl rfl ?_
    refine sv rfl (opv_loadN ti40 rfl (.lp _ _ _ rfl) (Nat.le_of_ble_eq_true rfl)) ?_
    refine son rfl rfl rfl ?_
    obtain ⟨v1, hv1, h⟩ := bind_eq h
    refine scall1 rfl fn69 (opnds_cons rfl opnds_nil) (pubA_id rfl) (m69_keys_SaneRange_c hv1) ?_
    refine sv rfl (opv_pick_t rfl rfl) ?_
    refine sv rfl (opv_mv rfl) ?_
    refine ssplit 11 rfl (fun hc => ?_) (fun hc => ?_)
    · replace h := ite_t hc h
      clear hc
      refine son rfl rfl rfl ?_
      refine sv rfl (opv_fieldAddr_lp fi72_1 rfl) ?_
      refine son rfl rfl rfl ?_
      refine sv rfl (opv_loadN ti40 rfl (.lp _ _ _ rfl) (Nat.le_of_ble_eq_true rfl)) ?_
      refine son rfl rfl rfl ?_
      obtain ⟨v2, hv2, h⟩ := bind_eq h
      refine scall1 rfl fn70 (opnds_cons rfl opnds_nil) (pubA_id rfl) (m70_keys_Empty_c hv2) ?_
      refine son rfl rfl rfl ?_
      refine sv rfl (opv_not rfl) ?_
      refine sv rfl (opv_pick_t rfl rfl) ?_
      refine sv rfl (opv_as rfl) ?_
      refine snil ?_
      refine cret ?_
      obtain rfl := Option.some.inj h
      refine ⟨Or.inr rfl, _, _, _, (resVs_cons (ResV.tmp _ _ rfl) resVs_nil), (pubA_id rfl), ?_⟩
      rfl
    · replace h := ite_f hc h
      clear hc
      refine soff rfl rfl rfl rfl ?_
      refine soff rfl rfl rfl rfl ?_
      refine soff rfl rfl rfl rfl ?_
      refine soff rfl rfl rfl rfl ?_
      refine sv rfl (opv_pick_f rfl rfl) ?_
      refine sv rfl (opv_as rfl) ?_
      refine snil ?_
      refine cret ?_
      obtain rfl := Option.some.inj h
      refine ⟨Or.inr rfl, _, _, _, (resVs_cons (ResV.tmp _ _ rfl) resVs_nil), (pubA_id rfl), ?_⟩
      rfl
  · replace h := ite_f hc h
    clear hc
    refine soff rfl rfl rfl rfl ?_
    refine soff rfl rfl rfl rfl ?_
    refine soff rfl rfl rfl rfl ?_
    refine sv rfl (opv_pick_f rfl rfl) ?_
    refine sv rfl (opv_mv rfl) ?_
    refine soff rfl rfl rfl rfl ?_
    refine soff rfl rfl rfl rfl ?_
    refine soff rfl rfl rfl rfl ?_
    refine soff rfl rfl rfl rfl ?_
    refine sv rfl (opv_pick_f rfl rfl) ?_
    refine sv rfl (opv_as rfl) ?_
    refine snil ?_
    refine cret ?_
    obtain rfl := Option.some.inj h
    refine ⟨Or.inr rfl, _, _, _, (resVs_cons (ResV.tmp _ _ rfl) resVs_nil), (pubA_id rfl), ?_⟩
    rfl

def m60_reads_knownOf (a0 : GReadsRead) : Option GReadsKnown :=
  some (GReadsKnown.mk a0.Tx a0.Rng.Lo a0.Rng.Hi a0.Rng.Open)

set_option maxRecDepth 100000 in
theorem m60_reads_knownOf_c {a0 : GReadsRead} {r : GReadsKnown} (h : m60_reads_knownOf a0 = some r) : CallsA Try.prog 60 [.agg a0] (· = .s (.agg r)) := by
  unfold m60_reads_knownOf at h
  refine callsA_of Try.func60 rfl (nt := 17) rfl (Nat.le_of_ble_eq_true rfl) ?_
  intro w0 S0
  refine cseq ?_
  refine cregion ?_
  refine sbox rfl rfl ?_
  refine salloc rfl zi112 ?_
  refine snil ?_
  refine cseq ?_
  refine cregion ?_
  refine sv rfl (opv_fieldAddr_lp fi72_0 rfl) ?_
  refine sv rfl (opv_load1 ti3 rfl (.lp _ _ _ rfl) rfl) ?_
  refine sv rfl (opv_fieldAddr_lp fi72_1 rfl) ?_
  refine sv rfl (opv_fieldAddr_lp fi40_0 rfl) ?_
  refine sv rfl (opv_load1 ti38 rfl (.lp _ _ _ rfl) rfl) ?_
  refine sv rfl (opv_bs (l := a0.Rng.Lo) Try.underlying38 Try.underlying5 Try.underlying9 rfl rfl rfl) ?_
  refine sv rfl (opv_fieldAddr_lp fi72_1 rfl) ?_
  refine sv rfl (opv_fieldAddr_lp fi40_1 rfl) ?_
  refine sv rfl (opv_load1 ti38 rfl (.lp _ _ _ rfl) rfl) ?_
  refine sv rfl (opv_bs (l := a0.Rng.Hi) Try.underlying38 Try.underlying5 Try.underlying9 rfl rfl rfl) ?_
  refine sv rfl (opv_fieldAddr_lp fi72_1 rfl) ?_
  refine sv rfl (opv_fieldAddr_lp fi40_2 rfl) ?_
  refine sv rfl (opv_load1 ti4 rfl (.lp _ _ _ rfl) rfl) ?_
  refine sv rfl (opv_build zi112 pi112 (parts_cons rfl (parts_cons rfl (parts_cons rfl (parts_cons rfl parts_nil)))) (.cons _ _ _ _ _ _ _ rfl rfl (Nat.le_of_ble_eq_true rfl) (.cons _ _ _ _ _ _ _ rfl rfl (Nat.le_of_ble_eq_true rfl) (.cons _ _ _ _ _ _ _ rfl rfl (Nat.le_of_ble_eq_true rfl) (.cons _ _ _ _ _ _ _ rfl rfl (Nat.le_of_ble_eq_true rfl) (.nil _)))))) ?_
  refine sstore sz112 rfl rfl rfl rfl (Nat.le_of_ble_eq_true rfl) ?_
  refine smem [.box a0, .box [.i .i64 a0.Tx, .s ⟨a0.Rng.Lo.toArray⟩, .s ⟨a0.Rng.Hi.toArray⟩, .b a0.Rng.Open]] rfl ?_
  refine snil ?_
  refine cret ?_
  obtain rfl := Option.some.inj h
  refine ⟨Or.inr rfl, _, _, _, (resVs_cons (ResV.agg _ _ _ _ _ ti112 rfl (.lp _ _ _ rfl) (Nat.le_of_ble_eq_true rfl)) resVs_nil), (pubA_id rfl), ?_⟩
  rfl

def m53_reads_indexs_k1 (b1 : (List (GReadsKnown × Int))) : Option (List (GReadsKnown × Int)) :=
  some b1

def m53_reads_indexs_s2 (a0 : List GReadsRead) (s2 : Int × (List (GReadsKnown × Int))) : Option (LB (Int × (List (GReadsKnown × Int))) ((List (GReadsKnown × Int)))) :=
  if (decide (s2.1 < (a0.length : Int))) then ((idx a0 s2.1).bind fun u3 => (m60_reads_knownOf (GReadsRead.mk u3.Tx (GApiRange.mk u3.Rng.Lo u3.Rng.Hi u3.Rng.Open))).bind fun v4 => some (.cont ((wI (s2.1 + 1)), (ixPut s2.2 v4 s2.1)))) else (some (.brk s2.2))
def m53_reads_indexs (a0 : List GReadsRead) : Option (List (GReadsKnown × Int)) :=
  (iterB (m53_reads_indexs_s2 a0) fuel (0, ([] : List (GReadsKnown × Int)))).bind fun e5 => m53_reads_indexs_k1 e5

set_option maxRecDepth 100000 in
theorem m53_reads_indexs_c {a0 : List GReadsRead} {r : (List (GReadsKnown × Int))} (h : m53_reads_indexs a0 = some r) : CallsB Try.prog 53 [] [.one (.sl a0.length (a0.flatMap eGReadsRead))] (fun y m' => y = .s (.one (.mp 0 0)) ∧ m' = [ixBlk eGReadsKnown r]) := by
  unfold m53_reads_indexs at h
  refine callsB_of Try.func53 rfl (nt := 20) rfl (Nat.le_of_ble_eq_true rfl) ?_
  intro w0 S0 X0 H0
  refine cseq ?_
  refine cregion ?_
  refine sv rfl (opv_as rfl) ?_
  refine snil ?_
  refine cseq ?_
  refine cregion ?_
  refine smaketab eGReadsKnown rfl ?_
  refine sv rfl (opv_as rfl) ?_
  refine snil ?_
  refine cseq ?_
  refine cseq ?_
  refine cregion ?_
  refine sv rfl (opv_mv rfl) ?_
  refine sv rfl (opv_len_sl si27 rfl) ?_
  refine sv rfl (opv_mv rfl) ?_
  refine snil ?_
  refine cjoin ((List (GReadsKnown × Int))) (fun b1 => [(3, .s (.one (.mp 0 0)))]) (fun b1 => [ixBlk eGReadsKnown b1]) (fun b1 => m53_reads_indexs_k1 b1 = some r) (fun _ _ => inbL_of rfl) (fun _ _ => blkinb_of rfl) (fun _ _ => Nat.le_of_ble_eq_true rfl) (fun b1 h => ?_) ?_
  · unfold m53_reads_indexs_k1 at h
    refine cseq ?_
    refine cregion ?_
    refine sv rfl (opv_mv rfl) ?_
    refine sv rfl (opv_as rfl) ?_
    refine snil ?_
    refine cret ?_
    obtain rfl := Option.some.inj h
    exact ⟨Or.inr rfl, _, [0], [.one (.mp 0 0)], [ixBlk eGReadsKnown b1], (resVs_cons (ResV.tmp _ _ rfl) resVs_nil), rfl, rfl, ⟨by decide, rfl⟩, rfl, rfl, ⟨rfl, rfl⟩⟩
  · skip
    refine cblock ?_
    obtain ⟨x2, hx2, ho2⟩ := bind_eq h
    refine awc_loop (G := Nat × (Int × (List (GReadsKnown × Int)))) (fun g => [(3, .s (.one (.mp 0 0))), (7, .s (.one (.sl a0.length (a0.flatMap eGReadsRead)))), (8, .s (.one (.i .i64 (a0.length : Int)))), (9, .s (.one (.i .i64 g.2.1)))]) (fun g => [ixBlk eGReadsKnown g.2.2]) (fun g => iterB (m53_reads_indexs_s2 a0) g.1 g.2 = some x2) (fun g => g.1) (fuel, (0, ([] : List (GReadsKnown × Int)))) hx2 ⟨rfl, rfl, rfl, rfl, trivial⟩ [] rfl (fun _ _ => inbL_of rfl) (fun _ _ => blkinb_of rfl) (fun _ _ => Nat.le_of_ble_eq_true rfl) ?_
    clear hx2 h
    rintro ⟨n2, s2⟩ h
    obtain ⟨n2, y2, rfl, h, hk2⟩ := iterB_eq h
    unfold m53_reads_indexs_s2 at h
    refine cseq ?_
    refine cregion ?_
    refine sv rfl (opv_lss rfl rfl) ?_
    refine snil ?_
    refine cseq ?_
    refine ccond rfl (fun hc => ?_) (fun hc => ?_)
    · replace h := ite_t hc h
      clear hc
      refine cskip ?_
      refine then_normal ?_
      refine cseq ?_
      refine cblock ?_
      refine cseq ?_
      refine cregion ?_
      refine sv rfl (opv_mv rfl) ?_
      obtain ⟨u3, hu3, h⟩ := bind_eq h
      refine sv rfl (opv_ix (f := eGReadsRead) si27 (fun _ => rfl) rfl rfl rfl rfl hu3) ?_
      refine sv rfl (opv_loadNe (ys := [.i .i64 u3.Tx, .sl u3.Rng.Lo.length (u3.Rng.Lo.flatMap eU8), .sl u3.Rng.Hi.length (u3.Rng.Hi.flatMap eU8), .b u3.Rng.Open]) ti72 rfl (.cp _) rfl rfl) ?_
      refine salloc rfl zi72 ?_
      refine sv rfl (opv_as rfl) ?_
      refine sstore sz72 rfl rfl rfl rfl (Nat.le_of_ble_eq_true rfl) ?_
      refine smem [ixBlk eGReadsKnown s2.2, .box u3] rfl ?_
      refine snil ?_
      refine cregion ?_
      refine sv rfl (opv_mv rfl) ?_
      refine sv rfl (opv_loadN ti72 rfl (.lp _ _ _ rfl) (Nat.le_of_ble_eq_true rfl)) ?_
      obtain ⟨v4, hv4, h⟩ := bind_eq h
      refine scall1 rfl fn60 (opnds_cons rfl opnds_nil) (pubA_id rfl) (m60_reads_knownOf_c hv4) ?_
      refine sv rfl (opv_mv rfl) ?_
      refine stabput (M := s2.2) (k := v4) (i := s2.1) ke112 Try.underlying101 rfl rfl rfl rfl ?_
      refine smem [ixBlk eGReadsKnown (ixPut s2.2 v4 s2.1), .box u3] rfl ?_
      refine snil0 ?_
      refine block_normal ?_
      refine then_normal ?_
      refine cregion ?_
      refine sv rfl (opv_add rfl rfl) ?_
      refine sv rfl (opv_mv rfl) ?_
      refine snil ?_
      obtain rfl := Option.some.inj h
      exact ⟨(n2, ((wI (s2.1 + 1)), (ixPut s2.2 v4 s2.1))), _, hk2, ⟨rfl, rfl, rfl, rfl, trivial⟩, rfl, Nat.lt_succ_self _⟩
    · replace h := ite_f hc h
      clear hc
      refine cexit ?_
      refine then_exit ?_
      refine then_exit ?_
      refine block_hit ?_
      refine then_normal ?_
      obtain rfl := Option.some.inj h
      obtain rfl : _ = x2 := hk2
      exact ⟨s2.2, _, ho2, ⟨rfl, trivial⟩, rfl⟩

def m29_reads_Sane_k1 (a0 : GReadsTable) (b1 : Unit) : Option Bool :=
  if (decide ((a0.L.length : Int) ≤ 128)) then ((m53_reads_indexs a0.L).bind fun v3 => some (decide ((v3.length : Int) = (a0.L.length : Int)))) else (some false)

def m29_reads_Sane_s4 (a0 : GReadsTable) (s4 : Int) : Option (LR (Int) (Unit) (Bool)) :=
  if (decide (s4 < (a0.L.length : Int))) then ((idx a0.L s4).bind fun u5 => (m52_reads_saneRead (GReadsRead.mk u5.Tx (GApiRange.mk u5.Rng.Lo u5.Rng.Hi u5.Rng.Open))).bind fun v6 => if (!v6) then (some (.ret false)) else (some (.cont (wI (s4 + 1))))) else (some (.brk ()))
def m29_reads_Sane (a0 : GReadsTable) : Option Bool :=
  (iter (m29_reads_Sane_s4 a0) fuel 0).bind fun x => match x with | .inl r => some r | .inr e7 => m29_reads_Sane_k1 a0 e7

set_option maxRecDepth 100000 in
theorem m29_reads_Sane_c {a0 : GReadsTable} {r : Bool} (h : m29_reads_Sane a0 = some r) : CallsA Try.prog 29 [.agg [.sl a0.L.length (a0.L.flatMap eGReadsRead)]] (· = .s (.one (.b r))) := by
  unfold m29_reads_Sane at h
  refine callsA_of Try.func29 rfl (nt := 30) rfl (Nat.le_of_ble_eq_true rfl) ?_
  intro w0 S0
  refine cseq ?_
  refine cregion ?_
  refine sbox rfl rfl ?_
  refine sv rfl (opv_as rfl) ?_
  refine snil ?_
  refine cseq ?_
  refine cseq ?_
  refine cregion ?_
  refine sv rfl (opv_fieldAddr_lp fi29_0 rfl) ?_
  refine sv rfl (opv_load1 ti27 rfl (.lp _ _ _ rfl) rfl) ?_
  refine sv rfl (opv_len_sl si27 rfl) ?_
  refine sv rfl (opv_mv rfl) ?_
  refine snil ?_
  refine cjoin (Unit) (fun b1 => [(1, .s (.one (.lp 0 0)))]) (fun b1 => [.box [.sl a0.L.length (a0.L.flatMap eGReadsRead)]]) (fun b1 => m29_reads_Sane_k1 a0 b1 = some r) (fun _ _ => inbL_of rfl) (fun _ _ => blkinb_of rfl) (fun _ _ => Nat.le_of_ble_eq_true rfl) (fun b1 h => ?_) ?_
  · unfold m29_reads_Sane_k1 at h
    refine cseq ?_
    refine chole ?_
    rcases Bool.eq_false_or_eq_true (decide ((a0.L.length : Int) ≤ 128)) with hg2 | hg2
    · replace h := ite_t hg2 h
      obtain ⟨v3, hv3, h⟩ := bind_eq h
      refine cdraw_e [7] [0, 1, 3, 7, 15, 31, 63, 127, 255, 31, 543, 1567, 4095, 8191, 16383] [[.box [.sl a0.L.length (a0.L.flatMap eGReadsRead)], .hole], [.box [.sl a0.L.length (a0.L.flatMap eGReadsRead)], ixBlk eGReadsKnown v3]] (by kernel_rfl) mixed (by kernel_rfl) (by decide) rfl rfl rfl rfl ?_
      refine ev (sees_at 0 rfl rfl) rfl rfl (opv_fieldAddr_lp fi29_0 rfl) ?_
      refine ev (sees_at 0 rfl rfl) rfl rfl (opv_load1 ti27 rfl (.lp _ _ _ rfl) rfl) ?_
      refine ev (sees_at 0 rfl rfl) rfl rfl (opv_len_sl si27 rfl) ?_
      refine ev (sees_at 0 rfl rfl) rfl rfl (opv_leq rfl rfl) ?_
      refine ev (sees_at 0 rfl rfl) rfl rfl (opv_mv rfl) ?_
      refine esplit 20 rfl (fun _ => ?_) (fun hx => Bool.noConfusion (hg2.symm.trans hx))
      refine evg (sees_at 0 rfl rfl) rfl rfl rfl rfl (opv_fieldAddr_lp fi29_0 rfl) ?_
      refine evg (sees_at 0 rfl rfl) rfl rfl rfl rfl (opv_load1 ti27 rfl (.lp _ _ _ rfl) rfl) ?_
      refine eeg (x := .s (.one (.mp 0 1))) 0 rfl rfl rfl rfl rfl rfl rfl (fun ζ => ?_) ?_
      · refine scallT_at 1 rfl fn53 (.func _) (opnds_cons rfl opnds_nil) (m53_reads_indexs_c hv3) rfl rfl rfl ?_
        exact eend
      refine evg (sees_at 1 rfl rfl) rfl rfl rfl rfl (opv_tablen (e := eGReadsKnown) (M := v3) Try.underlying101 rfl rfl) ?_
      refine evg (sees_all (md := [.box [.sl a0.L.length (a0.L.flatMap eGReadsRead)], .dead]) ⟨⟨rfl, ⟨trivial, trivial⟩⟩, ⟨⟨rfl, ⟨trivial, trivial⟩⟩, trivial⟩⟩) rfl rfl rfl rfl (opv_fieldAddr_lp fi29_0 rfl) ?_
      refine evg (sees_all (md := [.box [.sl a0.L.length (a0.L.flatMap eGReadsRead)], .dead]) ⟨⟨rfl, ⟨trivial, trivial⟩⟩, ⟨⟨rfl, ⟨trivial, trivial⟩⟩, trivial⟩⟩) rfl rfl rfl rfl (opv_load1 ti27 rfl (.lp _ _ _ rfl) rfl) ?_
      refine evg (sees_all (md := [.box [.sl a0.L.length (a0.L.flatMap eGReadsRead)], .dead]) ⟨⟨rfl, ⟨trivial, trivial⟩⟩, ⟨⟨rfl, ⟨trivial, trivial⟩⟩, trivial⟩⟩) rfl rfl rfl rfl (opv_len_sl si27 rfl) ?_
      refine evg (sees_at 1 rfl rfl) rfl rfl rfl rfl (opv_ieql rfl rfl) ?_
      refine ev (sees_at 1 rfl rfl) rfl rfl (opv_pick_t rfl rfl) ?_
      refine ev (sees_at 1 rfl rfl) rfl rfl (opv_as rfl) ?_
      refine enil ?_
      refine then_normal ?_
      refine cret ?_
      obtain rfl := Option.some.inj h
      refine ⟨Or.inr rfl, _, _, _, (resVs_cons (ResV.tmp _ _ rfl) resVs_nil), (pubA_id rfl), ?_⟩
      rfl
    · replace h := ite_f hg2 h
      refine cdraw_e [] [0, 1, 3, 7, 15, 31, 63, 127, 255, 31, 543, 1567, 4095, 8191, 16383] [[.box [.sl a0.L.length (a0.L.flatMap eGReadsRead)], .hole]] (by kernel_rfl) mixed (by kernel_rfl) (by decide) rfl rfl rfl rfl ?_
      refine ev (sees_at 0 rfl rfl) rfl rfl (opv_fieldAddr_lp fi29_0 rfl) ?_
      refine ev (sees_at 0 rfl rfl) rfl rfl (opv_load1 ti27 rfl (.lp _ _ _ rfl) rfl) ?_
      refine ev (sees_at 0 rfl rfl) rfl rfl (opv_len_sl si27 rfl) ?_
      refine ev (sees_at 0 rfl rfl) rfl rfl (opv_leq rfl rfl) ?_
      refine ev (sees_at 0 rfl rfl) rfl rfl (opv_mv rfl) ?_
      refine esplit 20 rfl (fun hx => Bool.noConfusion (hg2.symm.trans hx)) (fun _ => ?_)
      refine eoffv rfl rfl rfl rfl rfl ?_
      refine eoffv rfl rfl rfl rfl rfl ?_
      refine eoffv rfl rfl rfl rfl rfl ?_
      refine eoffv rfl rfl rfl rfl rfl ?_
      refine eoffv rfl rfl rfl rfl rfl ?_
      refine eoffv rfl rfl rfl rfl rfl ?_
      refine eoffv rfl rfl rfl rfl rfl ?_
      refine eoffv rfl rfl rfl rfl rfl ?_
      refine ev (sees_at 0 rfl rfl) rfl rfl (opv_pick_f rfl rfl) ?_
      refine ev (sees_at 0 rfl rfl) rfl rfl (opv_as rfl) ?_
      refine enil ?_
      refine then_normal ?_
      refine cret ?_
      obtain rfl := Option.some.inj h
      refine ⟨Or.inr rfl, _, _, _, (resVs_cons (ResV.tmp _ _ rfl) resVs_nil), (pubA_id rfl), ?_⟩
      rfl
  · skip
    refine cblock ?_
    obtain ⟨x4, hx4, ho4⟩ := bind_eq h
    refine awc_loop (G := Nat × (Int)) (fun g => [(1, .s (.one (.lp 0 0))), (6, .s (.one (.sl a0.L.length (a0.L.flatMap eGReadsRead)))), (7, .s (.one (.i .i64 (a0.L.length : Int)))), (8, .s (.one (.i .i64 g.2)))]) (fun g => [.box [.sl a0.L.length (a0.L.flatMap eGReadsRead)]]) (fun g => iter (m29_reads_Sane_s4 a0) g.1 g.2 = some x4) (fun g => g.1) (fuel, 0) hx4 ⟨rfl, rfl, rfl, rfl, trivial⟩ [] rfl (fun _ _ => inbL_of rfl) (fun _ _ => blkinb_of rfl) (fun _ _ => Nat.le_of_ble_eq_true rfl) ?_
    clear hx4 h
    rintro ⟨n4, s4⟩ h
    obtain ⟨n4, y4, rfl, h, hk4⟩ := iter_eq h
    unfold m29_reads_Sane_s4 at h
    refine cseq ?_
    refine cregion ?_
    refine sv rfl (opv_lss rfl rfl) ?_
    refine snil ?_
    refine cseq ?_
    refine ccond rfl (fun hc => ?_) (fun hc => ?_)
    · replace h := ite_t hc h
      clear hc
      refine cskip ?_
      refine then_normal ?_
      refine cseq ?_
      refine cblock ?_
      refine cseq ?_
      refine cregion ?_
      obtain ⟨u5, hu5, h⟩ := bind_eq h
      refine sv rfl (opv_ix (f := eGReadsRead) si27 (fun _ => rfl) rfl rfl rfl rfl hu5) ?_
      refine sv rfl (opv_loadNe (ys := [.i .i64 u5.Tx, .sl u5.Rng.Lo.length (u5.Rng.Lo.flatMap eU8), .sl u5.Rng.Hi.length (u5.Rng.Hi.flatMap eU8), .b u5.Rng.Open]) ti72 rfl (.cp _) rfl rfl) ?_
      refine salloc rfl zi72 ?_
      refine sstore sz72 rfl rfl rfl rfl (Nat.le_of_ble_eq_true rfl) ?_
      refine smem [.box [.sl a0.L.length (a0.L.flatMap eGReadsRead)], .box u5] rfl ?_
      refine snil ?_
      refine cseq ?_
      refine cregion ?_
      refine sv rfl (opv_loadN ti72 rfl (.lp _ _ _ rfl) (Nat.le_of_ble_eq_true rfl)) ?_
      obtain ⟨v6, hv6, h⟩ := bind_eq h
      refine scall1 rfl fn52 (opnds_cons rfl opnds_nil) (pubA_id rfl) (m52_reads_saneRead_c hv6) ?_
      refine sv rfl (opv_not rfl) ?_
      refine snil ?_
      refine ccond rfl (fun hc => ?_) (fun hc => ?_)
      · replace h := ite_t hc h
        clear hc
        refine cseq ?_
        refine cregion ?_
        refine sv rfl (opv_as rfl) ?_
        refine snil ?_
        refine cret ?_
        refine block_ret ?_
        refine then_ret ?_
        refine then_ret ?_
        refine block_ret ?_
        refine then_ret ?_
        obtain rfl := Option.some.inj h
        obtain rfl : Sum.inl _ = x4 := hk4
        replace ho4 : some _ = some _ := ho4
        obtain rfl := Option.some.inj ho4
        refine ⟨Or.inr rfl, _, _, _, (resVs_cons (ResV.tmp _ _ rfl) resVs_nil), (pubA_id rfl), ?_⟩
        rfl
      · replace h := ite_f hc h
        clear hc
        refine cskip ?_
        refine block_normal ?_
        refine then_normal ?_
        refine cregion ?_
        refine sv rfl (opv_add rfl rfl) ?_
        refine sv rfl (opv_mv rfl) ?_
        refine snil ?_
        obtain rfl := Option.some.inj h
        exact ⟨(n4, (wI (s4 + 1))), _, hk4, ⟨rfl, rfl, rfl, rfl, trivial⟩, rfl, Nat.lt_succ_self _⟩
    · replace h := ite_f hc h
      clear hc
      refine cexit ?_
      refine then_exit ?_
      refine then_exit ?_
      refine block_hit ?_
      refine then_normal ?_
      obtain rfl := Option.some.inj h
      obtain rfl : _ = x4 := hk4
      exact ⟨(), _, ho4, ⟨rfl, trivial⟩, rfl⟩

def m71_keys_Sane (a0 : List UInt8) : Option Bool :=
  if (decide (1 ≤ (a0.length : Int))) then (some (decide ((a0.length : Int) ≤ 16))) else (some false)

set_option maxRecDepth 100000 in
theorem m71_keys_Sane_c {a0 : List UInt8} {r : Bool} (h : m71_keys_Sane a0 = some r) : CallsA Try.prog 71 [.one (.sl a0.length (a0.flatMap eU8))] (· = .s (.one (.b r))) := by
  unfold m71_keys_Sane at h
  refine callsA_of Try.func71 rfl (nt := 11) rfl (Nat.le_of_ble_eq_true rfl) ?_
  intro w0 S0
  refine cseq ?_
  refine cregion ?_
  refine sv rfl (opv_as rfl) ?_
  refine snil ?_
  refine cseq ?_
  refine cregion ?_
  refine sv rfl (opv_mv rfl) ?_
  refine sv rfl (opv_len_sl si38 rfl) ?_
  refine sv rfl (opv_geq rfl rfl) ?_
  refine sv rfl (opv_mv rfl) ?_
  refine ssplit 6 rfl (fun hc => ?_) (fun hc => ?_)
  · replace h := ite_t hc h
    clear hc
    refine son rfl rfl rfl ?_
    refine sv rfl (opv_mv rfl) ?_
    refine son rfl rfl rfl ?_
    refine sv rfl (opv_len_sl si38 rfl) ?_
    refine son rfl rfl rfl ?_
    refine sv rfl (opv_leq rfl rfl) ?_
    refine sv rfl (opv_pick_t rfl rfl) ?_
    refine sv rfl (opv_as rfl) ?_
    refine snil ?_
    refine cret ?_
    obtain rfl := Option.some.inj h
    refine ⟨Or.inr rfl, _, _, _, (resVs_cons (ResV.tmp _ _ rfl) resVs_nil), (pubA_id rfl), ?_⟩
    rfl
  · replace h := ite_f hc h
    clear hc
    refine soff rfl rfl rfl rfl ?_
    refine soff rfl rfl rfl rfl ?_
    refine soff rfl rfl rfl rfl ?_
    refine sv rfl (opv_pick_f rfl rfl) ?_
    refine sv rfl (opv_as rfl) ?_
    refine snil ?_
    refine cret ?_
    obtain rfl := Option.some.inj h
    refine ⟨Or.inr rfl, _, _, _, (resVs_cons (ResV.tmp _ _ rfl) resVs_nil), (pubA_id rfl), ?_⟩
    rfl

def m72_keys_Sorted_k1 (b1 : Unit) : Option Bool :=
  some true

def m72_keys_Sorted_s2 (a0 : List (List UInt8)) (s2 : Int) : Option (LR (Int) (Unit) (Bool)) :=
  if (decide (s2 < (a0.length : Int))) then ((idx a0 (wI (s2 - 1))).bind fun u3 => (idx a0 s2).bind fun u4 => (m74_keys_Cmp u3 u4).bind fun v5 => if (decide (0 ≤ v5)) then (some (.ret false)) else (some (.cont (wI (s2 + 1))))) else (some (.brk ()))
def m72_keys_Sorted (a0 : List (List UInt8)) : Option Bool :=
  (iter (m72_keys_Sorted_s2 a0) fuel 1).bind fun x => match x with | .inl r => some r | .inr e6 => m72_keys_Sorted_k1 e6

set_option maxRecDepth 100000 in
theorem m72_keys_Sorted_c {a0 : List (List UInt8)} {r : Bool} (h : m72_keys_Sorted a0 = some r) : CallsA Try.prog 72 [.one (.sl a0.length (a0.flatMap (eL eU8)))] (· = .s (.one (.b r))) := by
  unfold m72_keys_Sorted at h
  refine callsA_of Try.func72 rfl (nt := 21) rfl (Nat.le_of_ble_eq_true rfl) ?_
  intro w0 S0
  refine cseq ?_
  refine cregion ?_
  refine sv rfl (opv_as rfl) ?_
  refine snil ?_
  refine cseq ?_
  refine cseq ?_
  refine cregion ?_
  refine sv rfl (opv_as rfl) ?_
  refine snil ?_
  refine cjoin (Unit) (fun b1 => []) (fun b1 => []) (fun b1 => m72_keys_Sorted_k1 b1 = some r) (fun _ _ => inbL_of rfl) (fun _ _ => blkinb_of rfl) (fun _ _ => Nat.le_of_ble_eq_true rfl) (fun b1 h => ?_) ?_
  · unfold m72_keys_Sorted_k1 at h
    refine cseq ?_
    refine cregion ?_
    refine sv rfl (opv_as rfl) ?_
    refine snil ?_
    refine cret ?_
    obtain rfl := Option.some.inj h
    refine ⟨Or.inr rfl, _, _, _, (resVs_cons (ResV.tmp _ _ rfl) resVs_nil), (pubA_id rfl), ?_⟩
    rfl
  · skip
    refine cblock ?_
    obtain ⟨x2, hx2, ho2⟩ := bind_eq h
    refine awc_loop (G := Nat × (Int)) (fun g => [(0, .s (.one (.sl a0.length (a0.flatMap (eL eU8))))), (3, .s (.one (.i .i64 g.2)))]) (fun g => []) (fun g => iter (m72_keys_Sorted_s2 a0) g.1 g.2 = some x2) (fun g => g.1) (fuel, 1) hx2 ⟨rfl, rfl, trivial⟩ [] rfl (fun _ _ => inbL_of rfl) (fun _ _ => blkinb_of rfl) (fun _ _ => Nat.le_of_ble_eq_true rfl) ?_
    clear hx2 h
    rintro ⟨n2, s2⟩ h
    obtain ⟨n2, y2, rfl, h, hk2⟩ := iter_eq h
    unfold m72_keys_Sorted_s2 at h
    refine cseq ?_
    refine cseq ?_
    refine cregion ?_
    refine sv rfl (opv_mv rfl) ?_
    refine sv rfl (opv_mv rfl) ?_
    refine sv rfl (opv_len_sl si41 rfl) ?_
    refine sv rfl (opv_lss rfl rfl) ?_
    refine snil ?_
    refine ccond rfl (fun hc => ?_) (fun hc => ?_)
    · replace h := ite_t hc h
      clear hc
      refine cskip ?_
      refine then_normal ?_
      refine cseq ?_
      refine cblock ?_
      refine cseq ?_
      refine cdraw mixed (by kernel_rfl) ?_
      refine dv rfl (opv_mv rfl) ?_
      refine dv rfl (opv_mv rfl) ?_
      refine dv rfl (opv_sub rfl rfl) ?_
      obtain ⟨u3, hu3, h⟩ := bind_eq h
      refine dv rfl (opv_ix (f := (eL eU8)) si41 (fun _ => rfl) rfl rfl rfl rfl hu3) ?_
      refine dv rfl (opv_load1 ti38 rfl (.cp _) rfl) ?_
      refine dv rfl (opv_mv rfl) ?_
      refine dv rfl (opv_mv rfl) ?_
      obtain ⟨u4, hu4, h⟩ := bind_eq h
      refine dv rfl (opv_ix (f := (eL eU8)) si41 (fun _ => rfl) rfl rfl rfl rfl hu4) ?_
      refine dv rfl (opv_load1 ti38 rfl (.cp _) rfl) ?_
      obtain ⟨v5, hv5, h⟩ := bind_eq h
      refine dd rfl (opD_call fn74 (opnds_cons rfl (opnds_cons rfl opnds_nil)) rfl (m74_keys_Cmp_c hv5)) ?_
      refine dv rfl (opv_geq rfl rfl) ?_
      refine dnil ?_
      refine then_normal ?_
      refine ccond rfl (fun hc => ?_) (fun hc => ?_)
      · replace h := ite_t hc h
        clear hc
        refine cseq ?_
        refine cregion ?_
        refine sv rfl (opv_as rfl) ?_
        refine snil ?_
        refine cret ?_
        refine block_ret ?_
        refine then_ret ?_
        refine then_ret ?_
        refine block_ret ?_
        refine then_ret ?_
        obtain rfl := Option.some.inj h
        obtain rfl : Sum.inl _ = x2 := hk2
        replace ho2 : some _ = some _ := ho2
        obtain rfl := Option.some.inj ho2
        refine ⟨Or.inr rfl, _, _, _, (resVs_cons (ResV.tmp _ _ rfl) resVs_nil), (pubA_id rfl), ?_⟩
        rfl
      · replace h := ite_f hc h
        clear hc
        refine cskip ?_
        refine block_normal ?_
        refine then_normal ?_
        refine cregion ?_
        refine sv rfl (opv_mv rfl) ?_
        refine sv rfl (opv_add rfl rfl) ?_
        refine sv rfl (opv_as rfl) ?_
        refine snil ?_
        obtain rfl := Option.some.inj h
        exact ⟨(n2, (wI (s2 + 1))), _, hk2, ⟨rfl, rfl, trivial⟩, rfl, Nat.lt_succ_self _⟩
    · replace h := ite_f hc h
      clear hc
      refine cexit ?_
      refine then_exit ?_
      refine then_exit ?_
      refine block_hit ?_
      refine then_normal ?_
      obtain rfl := Option.some.inj h
      obtain rfl : _ = x2 := hk2
      exact ⟨(), _, ho2, trivial, rfl⟩

def m54_ssi_saneKeys_k1 (a0 : List (List UInt8)) (b1 : Unit) : Option Bool :=
  (m72_keys_Sorted a0).bind fun v2 => some v2

def m54_ssi_saneKeys_s3 (a0 : List (List UInt8)) (s3 : Int) : Option (LR (Int) (Unit) (Bool)) :=
  if (decide (s3 < (a0.length : Int))) then ((idx a0 s3).bind fun u4 => (m71_keys_Sane u4).bind fun v5 => if (!v5) then (some (.ret false)) else (some (.cont (wI (s3 + 1))))) else (some (.brk ()))
def m54_ssi_saneKeys (a0 : List (List UInt8)) : Option Bool :=
  (iter (m54_ssi_saneKeys_s3 a0) fuel 0).bind fun x => match x with | .inl r => some r | .inr e6 => m54_ssi_saneKeys_k1 a0 e6

set_option maxRecDepth 100000 in
theorem m54_ssi_saneKeys_c {a0 : List (List UInt8)} {r : Bool} (h : m54_ssi_saneKeys a0 = some r) : CallsA Try.prog 54 [.one (.sl a0.length (a0.flatMap (eL eU8)))] (· = .s (.one (.b r))) := by
  unfold m54_ssi_saneKeys at h
  refine callsA_of Try.func54 rfl (nt := 17) rfl (Nat.le_of_ble_eq_true rfl) ?_
  intro w0 S0
  refine cseq ?_
  refine cregion ?_
  refine sv rfl (opv_as rfl) ?_
  refine snil ?_
  refine cseq ?_
  refine cseq ?_
  refine cregion ?_
  refine sv rfl (opv_mv rfl) ?_
  refine sv rfl (opv_len_sl si41 rfl) ?_
  refine sv rfl (opv_mv rfl) ?_
  refine snil ?_
  refine cjoin (Unit) (fun b1 => [(0, .s (.one (.sl a0.length (a0.flatMap (eL eU8)))))]) (fun b1 => []) (fun b1 => m54_ssi_saneKeys_k1 a0 b1 = some r) (fun _ _ => inbL_of rfl) (fun _ _ => blkinb_of rfl) (fun _ _ => Nat.le_of_ble_eq_true rfl) (fun b1 h => ?_) ?_
  · unfold m54_ssi_saneKeys_k1 at h
    refine cseq ?_
    refine cregion ?_
    refine sv rfl (opv_mv rfl) ?_
    obtain ⟨v2, hv2, h⟩ := bind_eq h
    refine scall1 rfl fn72 (opnds_cons rfl opnds_nil) (pubA_id rfl) (m72_keys_Sorted_c hv2) ?_
    refine sv rfl (opv_as rfl) ?_
    refine snil ?_
    refine cret ?_
    obtain rfl := Option.some.inj h
    refine ⟨Or.inr rfl, _, _, _, (resVs_cons (ResV.tmp _ _ rfl) resVs_nil), (pubA_id rfl), ?_⟩
    rfl
  · skip
    refine cblock ?_
    obtain ⟨x3, hx3, ho3⟩ := bind_eq h
    refine awc_loop (G := Nat × (Int)) (fun g => [(0, .s (.one (.sl a0.length (a0.flatMap (eL eU8))))), (5, .s (.one (.sl a0.length (a0.flatMap (eL eU8))))), (6, .s (.one (.i .i64 (a0.length : Int)))), (7, .s (.one (.i .i64 g.2)))]) (fun g => []) (fun g => iter (m54_ssi_saneKeys_s3 a0) g.1 g.2 = some x3) (fun g => g.1) (fuel, 0) hx3 ⟨rfl, rfl, rfl, rfl, trivial⟩ [] rfl (fun _ _ => inbL_of rfl) (fun _ _ => blkinb_of rfl) (fun _ _ => Nat.le_of_ble_eq_true rfl) ?_
    clear hx3 h
    rintro ⟨n3, s3⟩ h
    obtain ⟨n3, y3, rfl, h, hk3⟩ := iter_eq h
    unfold m54_ssi_saneKeys_s3 at h
    refine cseq ?_
    refine cregion ?_
    refine sv rfl (opv_lss rfl rfl) ?_
    refine snil ?_
    refine cseq ?_
    refine ccond rfl (fun hc => ?_) (fun hc => ?_)
    · replace h := ite_t hc h
      clear hc
      refine cskip ?_
      refine then_normal ?_
      refine cseq ?_
      refine cblock ?_
      refine cseq ?_
      refine cregion ?_
      obtain ⟨u4, hu4, h⟩ := bind_eq h
      refine sv rfl (opv_ix (f := (eL eU8)) si41 (fun _ => rfl) rfl rfl rfl rfl hu4) ?_
      refine sv rfl (opv_load1 ti38 rfl (.cp _) rfl) ?_
      refine sv rfl (opv_as rfl) ?_
      refine snil ?_
      refine cseq ?_
      refine cregion ?_
      refine sv rfl (opv_mv rfl) ?_
      obtain ⟨v5, hv5, h⟩ := bind_eq h
      refine scall1 rfl fn71 (opnds_cons rfl opnds_nil) (pubA_id rfl) (m71_keys_Sane_c hv5) ?_
      refine sv rfl (opv_not rfl) ?_
      refine snil ?_
      refine ccond rfl (fun hc => ?_) (fun hc => ?_)
      · replace h := ite_t hc h
        clear hc
        refine cseq ?_
        refine cregion ?_
        refine sv rfl (opv_as rfl) ?_
        refine snil ?_
        refine cret ?_
        refine block_ret ?_
        refine then_ret ?_
        refine then_ret ?_
        refine block_ret ?_
        refine then_ret ?_
        obtain rfl := Option.some.inj h
        obtain rfl : Sum.inl _ = x3 := hk3
        replace ho3 : some _ = some _ := ho3
        obtain rfl := Option.some.inj ho3
        refine ⟨Or.inr rfl, _, _, _, (resVs_cons (ResV.tmp _ _ rfl) resVs_nil), (pubA_id rfl), ?_⟩
        rfl
      · replace h := ite_f hc h
        clear hc
        refine cskip ?_
        refine block_normal ?_
        refine then_normal ?_
        refine cregion ?_
        refine sv rfl (opv_add rfl rfl) ?_
        refine sv rfl (opv_mv rfl) ?_
        refine snil ?_
        obtain rfl := Option.some.inj h
        exact ⟨(n3, (wI (s3 + 1))), _, hk3, ⟨rfl, rfl, rfl, rfl, trivial⟩, rfl, Nat.lt_succ_self _⟩
    · replace h := ite_f hc h
      clear hc
      refine cexit ?_
      refine then_exit ?_
      refine then_exit ?_
      refine block_hit ?_
      refine then_normal ?_
      obtain rfl := Option.some.inj h
      obtain rfl : _ = x3 := hk3
      exact ⟨(), _, ho3, ⟨rfl, trivial⟩, rfl⟩

def m30_ssi_saneTx_k1 (a0 : GSsiTx) (b1 : Unit) : Option Bool :=
  if (decide (a0.State = 1)) then (if (decide (a0.End = 0)) then (some (decide ((a0.Keys.length : Int) = 0))) else (some false)) else (if (decide (a0.State = 2)) then (if (decide (a0.Begin < a0.End)) then (if (decide (a0.End ≤ 1099511627776)) then ((m54_ssi_saneKeys a0.Keys).bind fun v2 => if v2 then (if a0.RO then (some (!(decide (0 < (a0.Keys.length : Int))))) else (some true)) else (some false)) else (some false)) else (some false)) else (some false))
def m30_ssi_saneTx (a0 : GSsiTx) : Option Bool :=
  if (decide (a0.ID < 0)) then (some false) else (if (decide (a0.Begin < 0)) then (some false) else (if (decide (1099511627776 < a0.Begin)) then (some false) else (m30_ssi_saneTx_k1 a0 ())))

set_option maxRecDepth 100000 in
theorem m30_ssi_saneTx_c {a0 : GSsiTx} {r : Bool} (h : m30_ssi_saneTx a0 = some r) : CallsA Try.prog 30 [.agg a0] (· = .s (.one (.b r))) := by
  unfold m30_ssi_saneTx at h
  refine callsA_of Try.func30 rfl (nt := 57) rfl (Nat.le_of_ble_eq_true rfl) ?_
  intro w0 S0
  refine cseq ?_
  refine cregion ?_
  refine sbox rfl rfl ?_
  refine sv rfl (opv_as rfl) ?_
  refine snil ?_
  refine cseq ?_
  refine cseq ?_
  refine cjoin3 (Unit) (fun b1 => [(1, .s (.one (.lp 0 0)))]) (fun b1 => [.box a0]) (fun b1 => m30_ssi_saneTx_k1 a0 b1 = some r) (fun _ _ => inbL_of rfl) (fun _ _ => blkinb_of rfl) (fun _ _ => Nat.le_of_ble_eq_true rfl) (fun b1 h => ?_) ?_
  · unfold m30_ssi_saneTx_k1 at h
    refine cseq ?_
    refine cseq ?_
    refine cregion ?_
    refine sv rfl (opv_fieldAddr_lp fi48_3 rfl) ?_
    refine sv rfl (opv_load1 ti3 rfl (.lp _ _ _ rfl) rfl) ?_
    refine snil ?_
    refine cblock ?_
    refine cseq ?_
    refine cregion ?_
    refine sv rfl (opv_ieql rfl rfl) ?_
    refine sv rfl (opv_as rfl) ?_
    refine snil ?_
    refine ccond rfl (fun hc => ?_) (fun hc => ?_)
    · replace h := ite_t hc h
      clear hc
      refine cseq ?_
      refine cregion ?_
      refine sv rfl (opv_fieldAddr_lp fi48_2 rfl) ?_
      refine sv rfl (opv_load1 ti3 rfl (.lp _ _ _ rfl) rfl) ?_
      refine sv rfl (opv_ieql rfl rfl) ?_
      refine sv rfl (opv_mv rfl) ?_
      refine ssplit 23 rfl (fun hc => ?_) (fun hc => ?_)
      · replace h := ite_t hc h
        clear hc
        refine son rfl rfl rfl ?_
        refine sv rfl (opv_fieldAddr_lp fi48_7 rfl) ?_
        refine son rfl rfl rfl ?_
        refine sv rfl (opv_load1 ti41 rfl (.lp _ _ _ rfl) rfl) ?_
        refine son rfl rfl rfl ?_
        refine sv rfl (opv_len_sl si41 rfl) ?_
        refine son rfl rfl rfl ?_
        refine sv rfl (opv_ieql rfl rfl) ?_
        refine sv rfl (opv_pick_t rfl rfl) ?_
        refine sv rfl (opv_as rfl) ?_
        refine snil ?_
        refine cret ?_
        refine block_ret ?_
        refine then_ret ?_
        obtain rfl := Option.some.inj h
        refine ⟨Or.inr rfl, _, _, _, (resVs_cons (ResV.tmp _ _ rfl) resVs_nil), (pubA_id rfl), ?_⟩
        rfl
      · replace h := ite_f hc h
        clear hc
        refine soff rfl rfl rfl rfl ?_
        refine soff rfl rfl rfl rfl ?_
        refine soff rfl rfl rfl rfl ?_
        refine soff rfl rfl rfl rfl ?_
        refine sv rfl (opv_pick_f rfl rfl) ?_
        refine sv rfl (opv_as rfl) ?_
        refine snil ?_
        refine cret ?_
        refine block_ret ?_
        refine then_ret ?_
        obtain rfl := Option.some.inj h
        refine ⟨Or.inr rfl, _, _, _, (resVs_cons (ResV.tmp _ _ rfl) resVs_nil), (pubA_id rfl), ?_⟩
        rfl
    · replace h := ite_f hc h
      clear hc
      refine cseq ?_
      refine cregion ?_
      refine sv rfl (opv_ieql rfl rfl) ?_
      refine sv rfl (opv_as rfl) ?_
      refine snil ?_
      refine ccond rfl (fun hc => ?_) (fun hc => ?_)
      · replace h := ite_t hc h
        clear hc
        refine cseq ?_
        refine cregion ?_
        refine sv rfl (opv_fieldAddr_lp fi48_2 rfl) ?_
        refine sv rfl (opv_load1 ti3 rfl (.lp _ _ _ rfl) rfl) ?_
        refine sv rfl (opv_fieldAddr_lp fi48_1 rfl) ?_
        refine sv rfl (opv_load1 ti3 rfl (.lp _ _ _ rfl) rfl) ?_
        refine sv rfl (opv_gtr rfl rfl) ?_
        refine sv rfl (opv_mv rfl) ?_
        refine ssplit 36 rfl (fun hc => ?_) (fun hc => ?_)
        · replace h := ite_t hc h
          clear hc
          refine son rfl rfl rfl ?_
          refine sv rfl (opv_fieldAddr_lp fi48_2 rfl) ?_
          refine son rfl rfl rfl ?_
          refine sv rfl (opv_load1 ti3 rfl (.lp _ _ _ rfl) rfl) ?_
          refine son rfl rfl rfl ?_
          refine sv rfl (opv_leq rfl rfl) ?_
          refine sv rfl (opv_pick_t rfl rfl) ?_
          refine sv rfl (opv_mv rfl) ?_
          refine ssplit 41 rfl (fun hc => ?_) (fun hc => ?_)
          · replace h := ite_t hc h
            clear hc
            refine son rfl rfl rfl ?_
            refine sv rfl (opv_fieldAddr_lp fi48_7 rfl) ?_
            refine son rfl rfl rfl ?_
            refine sv rfl (opv_load1 ti41 rfl (.lp _ _ _ rfl) rfl) ?_
            refine son rfl rfl rfl ?_
            obtain ⟨v2, hv2, h⟩ := bind_eq h
            refine scall1 rfl fn54 (opnds_cons rfl opnds_nil) (pubA_id rfl) (m54_ssi_saneKeys_c hv2) ?_
            refine sv rfl (opv_pick_t rfl rfl) ?_
            refine sv rfl (opv_mv rfl) ?_
            refine ssplit 46 rfl (fun hc => ?_) (fun hc => ?_)
            · replace h := ite_t hc h
              clear hc
              refine son rfl rfl rfl ?_
              refine sv rfl (opv_fieldAddr_lp fi48_6 rfl) ?_
              refine son rfl rfl rfl ?_
              refine sv rfl (opv_load1 ti4 rfl (.lp _ _ _ rfl) rfl) ?_
              refine son rfl rfl rfl ?_
              refine sv rfl (opv_mv rfl) ?_
              refine ssplit 49 rfl (fun hc => ?_) (fun hc => ?_)
              · replace h := ite_t hc h
                clear hc
                refine son rfl rfl rfl ?_
                refine sv rfl (opv_fieldAddr_lp fi48_7 rfl) ?_
                refine son rfl rfl rfl ?_
                refine sv rfl (opv_load1 ti41 rfl (.lp _ _ _ rfl) rfl) ?_
                refine son rfl rfl rfl ?_
                refine sv rfl (opv_len_sl si41 rfl) ?_
                refine son rfl rfl rfl ?_
                refine sv rfl (opv_gtr rfl rfl) ?_
                refine son rfl rfl rfl ?_
                refine sv rfl (opv_pick_t rfl rfl) ?_
                refine son rfl rfl rfl ?_
                refine sv rfl (opv_not rfl) ?_
                refine sv rfl (opv_pick_t rfl rfl) ?_
                refine sv rfl (opv_as rfl) ?_
                refine snil ?_
                refine cret ?_
                refine block_ret ?_
                refine then_ret ?_
                obtain rfl := Option.some.inj h
                refine ⟨Or.inr rfl, _, _, _, (resVs_cons (ResV.tmp _ _ rfl) resVs_nil), (pubA_id rfl), ?_⟩
                rfl
              · replace h := ite_f hc h
                clear hc
                refine soff rfl rfl rfl rfl ?_
                refine soff rfl rfl rfl rfl ?_
                refine soff rfl rfl rfl rfl ?_
                refine soff rfl rfl rfl rfl ?_
                refine son rfl rfl rfl ?_
                refine sv rfl (opv_pick_f rfl rfl) ?_
                refine son rfl rfl rfl ?_
                refine sv rfl (opv_not rfl) ?_
                refine sv rfl (opv_pick_t rfl rfl) ?_
                refine sv rfl (opv_as rfl) ?_
                refine snil ?_
                refine cret ?_
                refine block_ret ?_
                refine then_ret ?_
                obtain rfl := Option.some.inj h
                refine ⟨Or.inr rfl, _, _, _, (resVs_cons (ResV.tmp _ _ rfl) resVs_nil), (pubA_id rfl), ?_⟩
                rfl
            · replace h := ite_f hc h
              clear hc
              refine soff rfl rfl rfl rfl ?_
              refine soff rfl rfl rfl rfl ?_
              refine soff rfl rfl rfl rfl ?_
              refine soffu rfl rfl rfl ?_
              refine soffu rfl rfl rfl ?_
              refine soffu rfl rfl rfl ?_
              refine soffu rfl rfl rfl ?_
              refine soff rfl rfl rfl rfl ?_
              refine soff rfl rfl rfl rfl ?_
              refine sv rfl (opv_pick_f rfl rfl) ?_
              refine sv rfl (opv_as rfl) ?_
              refine snil ?_
              refine cret ?_
              refine block_ret ?_
              refine then_ret ?_
              obtain rfl := Option.some.inj h
              refine ⟨Or.inr rfl, _, _, _, (resVs_cons (ResV.tmp _ _ rfl) resVs_nil), (pubA_id rfl), ?_⟩
              rfl
          · replace h := ite_f hc h
            clear hc
            refine soff rfl rfl rfl rfl ?_
            refine soff rfl rfl rfl rfl ?_
            refine soff rfl rfl rfl rfl ?_
            refine sv rfl (opv_pick_f rfl rfl) ?_
            refine sv rfl (opv_mv rfl) ?_
            refine soff rfl rfl rfl rfl ?_
            refine soff rfl rfl rfl rfl ?_
            refine soff rfl rfl rfl rfl ?_
            refine soffu rfl rfl rfl ?_
            refine soffu rfl rfl rfl ?_
            refine soffu rfl rfl rfl ?_
            refine soffu rfl rfl rfl ?_
            refine soff rfl rfl rfl rfl ?_
            refine soff rfl rfl rfl rfl ?_
            refine sv rfl (opv_pick_f rfl rfl) ?_
            refine sv rfl (opv_as rfl) ?_
            refine snil ?_
            refine cret ?_
            refine block_ret ?_
            refine then_ret ?_
            obtain rfl := Option.some.inj h
            refine ⟨Or.inr rfl, _, _, _, (resVs_cons (ResV.tmp _ _ rfl) resVs_nil), (pubA_id rfl), ?_⟩
            rfl
        · replace h := ite_f hc h
          clear hc
          refine soff rfl rfl rfl rfl ?_
          refine soff rfl rfl rfl rfl ?_
          refine soff rfl rfl rfl rfl ?_
          refine sv rfl (opv_pick_f rfl rfl) ?_
          refine sv rfl (opv_mv rfl) ?_
          refine soff rfl rfl rfl rfl ?_
          refine soff rfl rfl rfl rfl ?_
          refine soff rfl rfl rfl rfl ?_
          refine sv rfl (opv_pick_f rfl rfl) ?_
          refine sv rfl (opv_mv rfl) ?_
          refine soff rfl rfl rfl rfl ?_
          refine soff rfl rfl rfl rfl ?_
          refine soff rfl rfl rfl rfl ?_
          refine soffu rfl rfl rfl ?_
          refine soffu rfl rfl rfl ?_
          refine soffu rfl rfl rfl ?_
          refine soffu rfl rfl rfl ?_
          refine soff rfl rfl rfl rfl ?_
          refine soff rfl rfl rfl rfl ?_
          refine sv rfl (opv_pick_f rfl rfl) ?_
          refine sv rfl (opv_as rfl) ?_
          refine snil ?_
          refine cret ?_
          refine block_ret ?_
          refine then_ret ?_
          obtain rfl := Option.some.inj h
          refine ⟨Or.inr rfl, _, _, _, (resVs_cons (ResV.tmp _ _ rfl) resVs_nil), (pubA_id rfl), ?_⟩
          rfl
      · replace h := ite_f hc h
        clear hc
        refine cskip ?_
        refine block_normal ?_
        refine then_normal ?_
        refine cseq ?_
        refine cregion ?_
        refine sv rfl (opv_as rfl) ?_
        refine snil ?_
        refine cret ?_
        obtain rfl := Option.some.inj h
        refine ⟨Or.inr rfl, _, _, _, (resVs_cons (ResV.tmp _ _ rfl) resVs_nil), (pubA_id rfl), ?_⟩
        rfl
  · skip
    refine cregion ?_
    refine sv rfl (opv_fieldAddr_lp fi48_0 rfl) ?_
    refine sv rfl (opv_load1 ti3 rfl (.lp _ _ _ rfl) rfl) ?_
    refine sv rfl (opv_lss rfl rfl) ?_
    refine sv rfl (opv_mv rfl) ?_
    refine ssplit 6 rfl (fun hc => ?_) (fun hc => ?_)
    · replace h := ite_t hc h
      clear hc
      refine soff rfl rfl rfl rfl ?_
      refine soff rfl rfl rfl rfl ?_
      refine soff rfl rfl rfl rfl ?_
      refine sv rfl (opv_pick_t rfl rfl) ?_
      refine sv rfl (opv_mv rfl) ?_
      refine soff rfl rfl rfl rfl ?_
      refine soff rfl rfl rfl rfl ?_
      refine soff rfl rfl rfl rfl ?_
      refine sv rfl (opv_pick_t rfl rfl) ?_
      refine snil ?_
      refine ccond rfl (fun _ => ?_) (fun hx => Bool.noConfusion hx)
      refine cseq ?_
      refine cregion ?_
      refine sv rfl (opv_as rfl) ?_
      refine snil ?_
      refine cret ?_
      refine then_ret ?_
      obtain rfl := Option.some.inj h
      refine ⟨Or.inr rfl, _, _, _, (resVs_cons (ResV.tmp _ _ rfl) resVs_nil), (pubA_id rfl), ?_⟩
      rfl
    · replace h := ite_f hc h
      clear hc
      refine son rfl rfl rfl ?_
      refine sv rfl (opv_fieldAddr_lp fi48_1 rfl) ?_
      refine son rfl rfl rfl ?_
      refine sv rfl (opv_load1 ti3 rfl (.lp _ _ _ rfl) rfl) ?_
      refine son rfl rfl rfl ?_
      refine sv rfl (opv_lss rfl rfl) ?_
      refine sv rfl (opv_pick_f rfl rfl) ?_
      refine sv rfl (opv_mv rfl) ?_
      refine ssplit 11 rfl (fun hc => ?_) (fun hc => ?_)
      · replace h := ite_t hc h
        clear hc
        refine soff rfl rfl rfl rfl ?_
        refine soff rfl rfl rfl rfl ?_
        refine soff rfl rfl rfl rfl ?_
        refine sv rfl (opv_pick_t rfl rfl) ?_
        refine snil ?_
        refine ccond rfl (fun _ => ?_) (fun hx => Bool.noConfusion hx)
        refine cseq ?_
        refine cregion ?_
        refine sv rfl (opv_as rfl) ?_
        refine snil ?_
        refine cret ?_
        refine then_ret ?_
        obtain rfl := Option.some.inj h
        refine ⟨Or.inr rfl, _, _, _, (resVs_cons (ResV.tmp _ _ rfl) resVs_nil), (pubA_id rfl), ?_⟩
        rfl
      · replace h := ite_f hc h
        clear hc
        refine son rfl rfl rfl ?_
        refine sv rfl (opv_fieldAddr_lp fi48_1 rfl) ?_
        refine son rfl rfl rfl ?_
        refine sv rfl (opv_load1 ti3 rfl (.lp _ _ _ rfl) rfl) ?_
        refine son rfl rfl rfl ?_
        refine sv rfl (opv_gtr rfl rfl) ?_
        refine sv rfl (opv_pick_f rfl rfl) ?_
        refine snil ?_
        refine ccond rfl (fun hc => ?_) (fun hc => ?_)
        · replace h := ite_t hc h
          clear hc
          refine cseq ?_
          refine cregion ?_
          refine sv rfl (opv_as rfl) ?_
          refine snil ?_
          refine cret ?_
          refine then_ret ?_
          obtain rfl := Option.some.inj h
          refine ⟨Or.inr rfl, _, _, _, (resVs_cons (ResV.tmp _ _ rfl) resVs_nil), (pubA_id rfl), ?_⟩
          rfl
        · replace h := ite_f hc h
          clear hc
          refine cskip ?_
          refine then_normal ?_
          exact ⟨(), _, h, ⟨rfl, trivial⟩, rfl⟩

def m31_ssi_clash_k1 (a0 : GSsiTx) (a1 : GSsiTx) (b1 : Bool) : Option Bool :=
  if (decide (a0.ID = a1.ID)) then (some true) else (if (decide (a0.State = 2)) then (if (decide (a1.State = 2)) then (if (decide (a0.End = a1.End)) then (some b1) else (some false)) else (some false)) else (some false))
def m31_ssi_clash (a0 : GSsiTx) (a1 : GSsiTx) : Option Bool :=
  if (decide (0 < (a0.Keys.length : Int))) then (m31_ssi_clash_k1 a0 a1 true) else (m31_ssi_clash_k1 a0 a1 (decide (0 < (a1.Keys.length : Int))))

set_option maxRecDepth 100000 in
theorem m31_ssi_clash_c {a0 : GSsiTx} {a1 : GSsiTx} {r : Bool} (h : m31_ssi_clash a0 a1 = some r) : CallsA Try.prog 31 [.agg a0, .agg a1] (· = .s (.one (.b r))) := by
  unfold m31_ssi_clash at h
  refine callsA_of Try.func31 rfl (nt := 41) rfl (Nat.le_of_ble_eq_true rfl) ?_
  intro w0 S0
  refine cseq ?_
  refine cregion ?_
  refine sbox rfl rfl ?_
  refine sbox rfl rfl ?_
  refine sv rfl (opv_as rfl) ?_
  refine snil ?_
  refine cseq ?_
  refine cjoin (Bool) (fun b1 => [(2, .s (.one (.lp 0 0))), (3, .s (.one (.lp 1 0))), (5, .s (.one (.b b1)))]) (fun b1 => [.box a0, .box a1]) (fun b1 => m31_ssi_clash_k1 a0 a1 b1 = some r) (fun _ _ => inbL_of rfl) (fun _ _ => blkinb_of rfl) (fun _ _ => Nat.le_of_ble_eq_true rfl) (fun b1 h => ?_) ?_
  · unfold m31_ssi_clash_k1 at h
    refine cseq ?_
    refine cregion ?_
    refine sv rfl (opv_fieldAddr_lp fi48_0 rfl) ?_
    refine sv rfl (opv_load1 ti3 rfl (.lp _ _ _ rfl) rfl) ?_
    refine sv rfl (opv_fieldAddr_lp fi48_0 rfl) ?_
    refine sv rfl (opv_load1 ti3 rfl (.lp _ _ _ rfl) rfl) ?_
    refine sv rfl (opv_ieql rfl rfl) ?_
    refine sv rfl (opv_mv rfl) ?_
    refine ssplit 21 rfl (fun hc => ?_) (fun hc => ?_)
    · replace h := ite_t hc h
      clear hc
      refine soff rfl rfl rfl rfl ?_
      refine soff rfl rfl rfl rfl ?_
      refine soff rfl rfl rfl rfl ?_
      refine soff rfl rfl rfl rfl ?_
      refine soffu rfl rfl rfl ?_
      refine soffu rfl rfl rfl ?_
      refine soffu rfl rfl rfl ?_
      refine soff rfl rfl rfl rfl ?_
      refine soff rfl rfl rfl rfl ?_
      refine soffu rfl rfl rfl ?_
      refine soffu rfl rfl rfl ?_
      refine soffu rfl rfl rfl ?_
      refine soffu rfl rfl rfl ?_
      refine soffu rfl rfl rfl ?_
      refine soff rfl rfl rfl rfl ?_
      refine soff rfl rfl rfl rfl ?_
      refine soffu rfl rfl rfl ?_
      refine soff rfl rfl rfl rfl ?_
      refine sv rfl (opv_pick_t rfl rfl) ?_
      refine sv rfl (opv_as rfl) ?_
      refine snil ?_
      refine cret ?_
      obtain rfl := Option.some.inj h
      refine ⟨Or.inr rfl, _, _, _, (resVs_cons (ResV.tmp _ _ rfl) resVs_nil), (pubA_id rfl), ?_⟩
      rfl
    · replace h := ite_f hc h
      clear hc
      refine son rfl rfl rfl ?_
      refine sv rfl (opv_fieldAddr_lp fi48_3 rfl) ?_
      refine son rfl rfl rfl ?_
      refine sv rfl (opv_load1 ti3 rfl (.lp _ _ _ rfl) rfl) ?_
      refine son rfl rfl rfl ?_
      refine sv rfl (opv_ieql rfl rfl) ?_
      refine son rfl rfl rfl ?_
      refine sv rfl (opv_mv rfl) ?_
      refine ssplit 25 rfl (fun hc => ?_) (fun hc => ?_)
      · replace h := ite_t hc h
        clear hc
        refine son rfl rfl rfl ?_
        refine sv rfl (opv_fieldAddr_lp fi48_3 rfl) ?_
        refine son rfl rfl rfl ?_
        refine sv rfl (opv_load1 ti3 rfl (.lp _ _ _ rfl) rfl) ?_
        refine son rfl rfl rfl ?_
        refine sv rfl (opv_ieql rfl rfl) ?_
        refine son rfl rfl rfl ?_
        refine sv rfl (opv_pick_t rfl rfl) ?_
        refine son rfl rfl rfl ?_
        refine sv rfl (opv_mv rfl) ?_
        refine ssplit 30 rfl (fun hc => ?_) (fun hc => ?_)
        · replace h := ite_t hc h
          clear hc
          refine son rfl rfl rfl ?_
          refine sv rfl (opv_fieldAddr_lp fi48_2 rfl) ?_
          refine son rfl rfl rfl ?_
          refine sv rfl (opv_load1 ti3 rfl (.lp _ _ _ rfl) rfl) ?_
          refine son rfl rfl rfl ?_
          refine sv rfl (opv_fieldAddr_lp fi48_2 rfl) ?_
          refine son rfl rfl rfl ?_
          refine sv rfl (opv_load1 ti3 rfl (.lp _ _ _ rfl) rfl) ?_
          refine son rfl rfl rfl ?_
          refine sv rfl (opv_ieql rfl rfl) ?_
          refine son rfl rfl rfl ?_
          refine sv rfl (opv_pick_t rfl rfl) ?_
          refine son rfl rfl rfl ?_
          refine sv rfl (opv_mv rfl) ?_
          refine ssplit 37 rfl (fun hc => ?_) (fun hc => ?_)
          · replace h := ite_t hc h
            clear hc
            refine son rfl rfl rfl ?_
            refine sv rfl (opv_mv rfl) ?_
            refine son rfl rfl rfl ?_
            refine sv rfl (opv_pick_t rfl rfl) ?_
            refine sv rfl (opv_pick_f rfl rfl) ?_
            refine sv rfl (opv_as rfl) ?_
            refine snil ?_
            refine cret ?_
            obtain rfl := Option.some.inj h
            refine ⟨Or.inr rfl, _, _, _, (resVs_cons (ResV.tmp _ _ rfl) resVs_nil), (pubA_id rfl), ?_⟩
            rfl
          · replace h := ite_f hc h
            clear hc
            refine soff rfl rfl rfl rfl ?_
            refine son rfl rfl rfl ?_
            refine sv rfl (opv_pick_f rfl rfl) ?_
            refine sv rfl (opv_pick_f rfl rfl) ?_
            refine sv rfl (opv_as rfl) ?_
            refine snil ?_
            refine cret ?_
            obtain rfl := Option.some.inj h
            refine ⟨Or.inr rfl, _, _, _, (resVs_cons (ResV.tmp _ _ rfl) resVs_nil), (pubA_id rfl), ?_⟩
            rfl
        · replace h := ite_f hc h
          clear hc
          refine soff rfl rfl rfl rfl ?_
          refine soff rfl rfl rfl rfl ?_
          refine soff rfl rfl rfl rfl ?_
          refine soff rfl rfl rfl rfl ?_
          refine soff rfl rfl rfl rfl ?_
          refine son rfl rfl rfl ?_
          refine sv rfl (opv_pick_f rfl rfl) ?_
          refine son rfl rfl rfl ?_
          refine sv rfl (opv_mv rfl) ?_
          refine soff rfl rfl rfl rfl ?_
          refine son rfl rfl rfl ?_
          refine sv rfl (opv_pick_f rfl rfl) ?_
          refine sv rfl (opv_pick_f rfl rfl) ?_
          refine sv rfl (opv_as rfl) ?_
          refine snil ?_
          refine cret ?_
          obtain rfl := Option.some.inj h
          refine ⟨Or.inr rfl, _, _, _, (resVs_cons (ResV.tmp _ _ rfl) resVs_nil), (pubA_id rfl), ?_⟩
          rfl
      · replace h := ite_f hc h
        clear hc
        refine soff rfl rfl rfl rfl ?_
        refine soff rfl rfl rfl rfl ?_
        refine soff rfl rfl rfl rfl ?_
        refine son rfl rfl rfl ?_
        refine sv rfl (opv_pick_f rfl rfl) ?_
        refine son rfl rfl rfl ?_
        refine sv rfl (opv_mv rfl) ?_
        refine soff rfl rfl rfl rfl ?_
        refine soff rfl rfl rfl rfl ?_
        refine soff rfl rfl rfl rfl ?_
        refine soff rfl rfl rfl rfl ?_
        refine soff rfl rfl rfl rfl ?_
        refine son rfl rfl rfl ?_
        refine sv rfl (opv_pick_f rfl rfl) ?_
        refine son rfl rfl rfl ?_
        refine sv rfl (opv_mv rfl) ?_
        refine soff rfl rfl rfl rfl ?_
        refine son rfl rfl rfl ?_
        refine sv rfl (opv_pick_f rfl rfl) ?_
        refine sv rfl (opv_pick_f rfl rfl) ?_
        refine sv rfl (opv_as rfl) ?_
        refine snil ?_
        refine cret ?_
        obtain rfl := Option.some.inj h
        refine ⟨Or.inr rfl, _, _, _, (resVs_cons (ResV.tmp _ _ rfl) resVs_nil), (pubA_id rfl), ?_⟩
        rfl
  · skip
    refine cregion ?_
    refine sv rfl (opv_fieldAddr_lp fi48_7 rfl) ?_
    refine sv rfl (opv_load1 ti41 rfl (.lp _ _ _ rfl) rfl) ?_
    refine sv rfl (opv_len_sl si41 rfl) ?_
    refine sv rfl (opv_gtr rfl rfl) ?_
    refine sv rfl (opv_mv rfl) ?_
    refine ssplit 10 rfl (fun hc => ?_) (fun hc => ?_)
    · replace h := ite_t hc h
      clear hc
      refine soff rfl rfl rfl rfl ?_
      refine soff rfl rfl rfl rfl ?_
      refine soff rfl rfl rfl rfl ?_
      refine soff rfl rfl rfl rfl ?_
      refine sv rfl (opv_pick_t rfl rfl) ?_
      refine sv rfl (opv_as rfl) ?_
      refine snil ?_
      exact ⟨true, _, h, ⟨rfl, rfl, rfl, trivial⟩, rfl⟩
    · replace h := ite_f hc h
      clear hc
      refine son rfl rfl rfl ?_
      refine sv rfl (opv_fieldAddr_lp fi48_7 rfl) ?_
      refine son rfl rfl rfl ?_
      refine sv rfl (opv_load1 ti41 rfl (.lp _ _ _ rfl) rfl) ?_
      refine son rfl rfl rfl ?_
      refine sv rfl (opv_len_sl si41 rfl) ?_
      refine son rfl rfl rfl ?_
      refine sv rfl (opv_gtr rfl rfl) ?_
      refine sv rfl (opv_pick_f rfl rfl) ?_
      refine sv rfl (opv_as rfl) ?_
      refine snil ?_
      exact ⟨(decide (0 < (a1.Keys.length : Int))), _, h, ⟨rfl, rfl, rfl, trivial⟩, rfl⟩

def m33_ssi_ids_k1 (b1 : (List Int)) : Option (List Int) :=
  some b1

def m33_ssi_ids_s2 (a0 : List GSsiTx) (s2 : Int × (List Int)) : Option (LB (Int × (List Int)) ((List Int))) :=
  if (decide (s2.1 < (a0.length : Int))) then ((idx a0 s2.1).bind fun u3 => if (s2.2.length + [u3.ID].length) * 8 ≤ 140737488355328 then (some (.cont ((wI (s2.1 + 1)), (s2.2 ++ [u3.ID])))) else none) else (some (.brk s2.2))
def m33_ssi_ids (a0 : List GSsiTx) : Option (List Int) :=
  (iterB (m33_ssi_ids_s2 a0) fuel (0, ([] : List Int))).bind fun e5 => m33_ssi_ids_k1 e5

set_option maxRecDepth 100000 in
theorem m33_ssi_ids_c {a0 : List GSsiTx} {r : (List Int)} (h : m33_ssi_ids a0 = some r) : CallsA Try.prog 33 [.one (.sl a0.length (a0.flatMap eGSsiTx))] (· = .s (.one (.sl r.length (r.flatMap eI)))) := by
  unfold m33_ssi_ids at h
  refine callsA_of Try.func33 rfl (nt := 19) rfl (Nat.le_of_ble_eq_true rfl) ?_
  intro w0 S0
  refine cseq ?_
  refine cregion ?_
  refine sv rfl (opv_as rfl) ?_
  refine snil ?_
  refine cseq ?_
  refine cregion ?_
  refine sv rfl (opv_as rfl) ?_
  refine snil ?_
  refine cseq ?_
  refine cseq ?_
  refine cregion ?_
  refine sv rfl (opv_mv rfl) ?_
  refine sv rfl (opv_len_sl si26 rfl) ?_
  refine sv rfl (opv_mv rfl) ?_
  refine snil ?_
  refine sadopt_c 3 1 3 (by decide) rfl ?_
  refine cjoin ((List Int)) (fun b1 => [(3, .s (.one (.ls 0 b1.length)))]) (fun b1 => [.arr 3 1 0 (b1.flatMap eI)]) (fun b1 => m33_ssi_ids_k1 b1 = some r) (fun _ _ => inbL_of rfl) (fun _ _ => blkinb_of rfl) (fun _ _ => Nat.le_of_ble_eq_true rfl) (fun b1 h => ?_) ?_
  · unfold m33_ssi_ids_k1 at h
    refine cseq ?_
    refine cregion ?_
    refine sv rfl (opv_mv rfl) ?_
    refine sv rfl (opv_as rfl) ?_
    refine snil ?_
    refine cret ?_
    obtain rfl := Option.some.inj h
    refine ⟨Or.inr rfl, _, _, _, (resVs_cons (ResV.tmp _ _ rfl) resVs_nil), (by (repeat' first | exact PubA.nil _ | apply PubA.cons | apply PubV.one | apply PubV.agg | exact PubL.nil | exact PubL.ls _ _ _ _ _ _ rfl (flat_len (f := eI) (fun _ => rfl) _).symm | exact PubL.id _ rfl | exact PubLs.nil _ | apply PubLs.cons)), ?_⟩
    rfl
  · skip
    refine cblock ?_
    obtain ⟨x2, hx2, ho2⟩ := bind_eq h
    refine awc_loop (G := Nat × (Int × (List Int))) (fun g => [(3, .s (.one (.ls 0 g.2.2.length))), (6, .s (.one (.sl a0.length (a0.flatMap eGSsiTx)))), (7, .s (.one (.i .i64 (a0.length : Int)))), (8, .s (.one (.i .i64 g.2.1)))]) (fun g => [.arr 3 1 0 (g.2.2.flatMap eI)]) (fun g => iterB (m33_ssi_ids_s2 a0) g.1 g.2 = some x2) (fun g => g.1) (fuel, (0, ([] : List Int))) hx2 ⟨rfl, rfl, rfl, rfl, trivial⟩ [] rfl (fun _ _ => inbL_of rfl) (fun _ _ => blkinb_of rfl) (fun _ _ => Nat.le_of_ble_eq_true rfl) ?_
    clear hx2 h
    rintro ⟨n2, s2⟩ h
    obtain ⟨n2, y2, rfl, h, hk2⟩ := iterB_eq h
    unfold m33_ssi_ids_s2 at h
    refine cseq ?_
    refine cregion ?_
    refine sv rfl (opv_lss rfl rfl) ?_
    refine snil ?_
    refine cseq ?_
    refine ccond rfl (fun hc => ?_) (fun hc => ?_)
    · replace h := ite_t hc h
      clear hc
      refine cskip ?_
      refine then_normal ?_
      refine cseq ?_
      refine cblock ?_
      refine cseq ?_
      refine cregion ?_
      obtain ⟨u3, hu3, h⟩ := bind_eq h
      refine sv rfl (opv_ix (f := eGSsiTx) si26 (fun _ => rfl) rfl rfl rfl rfl hu3) ?_
      refine sv rfl (opv_loadNe (ys := [.i .i64 u3.ID, .i .i64 u3.Begin, .i .i64 u3.End, .i .i64 u3.State, .b u3.In, .b u3.Out, .b u3.RO, .sl u3.Keys.length (u3.Keys.flatMap (eL eU8))]) ti48 rfl (.cp _) rfl rfl) ?_
      refine salloc rfl zi48 ?_
      refine sstore sz48 rfl rfl rfl rfl (Nat.le_of_ble_eq_true rfl) ?_
      refine smem [.arr 3 1 0 (s2.2.flatMap eI), .box u3] rfl ?_
      refine snil ?_
      refine cregion ?_
      refine sv rfl (opv_mv rfl) ?_
      refine sv rfl (opv_fieldAddr_lp fi48_0 rfl) ?_
      refine sv rfl (opv_load1 ti3 rfl (.lp _ _ _ rfl) rfl) ?_
      refine sbuild1 rfl Try.underlying32 ei3 rfl rfl (List.all_eq_true.1 rfl) (by decide) ?_
      refine smem [.arr 3 1 0 (s2.2.flatMap eI), .box u3, .arr 3 1 0 ([u3.ID].flatMap eI)] rfl ?_
      obtain ⟨hb4, h⟩ := chk_eq h
      refine sapp (f := eI) (xs := s2.2) (us := [u3.ID]) rfl Try.underlying32 ei3 ni32 (fun _ => rfl) rfl rfl (.one _ _ _ _ (.ls _ _ _ _ _ _ rfl (flat_len (f := eI) (fun _ => rfl) [u3.ID]).symm)) rfl rfl rfl (.sl _ _ _ (flat_len (f := eI) (fun _ => rfl) _)) rfl rfl hb4 (by decide) ?_
      refine sv rfl (opv_as rfl) ?_
      refine snil0 ?_
      refine block_normal ?_
      refine then_normal ?_
      refine cregion ?_
      refine sv rfl (opv_add rfl rfl) ?_
      refine sv rfl (opv_mv rfl) ?_
      refine snil ?_
      obtain rfl := Option.some.inj h
      exact ⟨(n2, ((wI (s2.1 + 1)), (s2.2 ++ [u3.ID]))), _, hk2, ⟨rfl, rfl, rfl, rfl, trivial⟩, rfl, Nat.lt_succ_self _⟩
    · replace h := ite_f hc h
      clear hc
      refine cexit ?_
      refine then_exit ?_
      refine then_exit ?_
      refine block_hit ?_
      refine then_normal ?_
      obtain rfl := Option.some.inj h
      obtain rfl : _ = x2 := hk2
      exact ⟨s2.2, _, ho2, ⟨rfl, trivial⟩, rfl⟩

def m58_slices_Index_k1 (b1 : Unit) : Option Int :=
  some (-1)

def m58_slices_Index_s2 (a0 : List Int) (a1 : Int) (s2 : Int) : Option (LR (Int) (Unit) (Int)) :=
  if (decide (s2 < (a0.length : Int))) then ((idx a0 s2).bind fun u3 => if (decide (a1 = u3)) then (some (.ret s2)) else (some (.cont (wI (s2 + 1))))) else (some (.brk ()))
def m58_slices_Index (a0 : List Int) (a1 : Int) : Option Int :=
  (iter (m58_slices_Index_s2 a0 a1) fuel 0).bind fun x => match x with | .inl r => some r | .inr e4 => m58_slices_Index_k1 e4

set_option maxRecDepth 100000 in
theorem m58_slices_Index_c {a0 : List Int} {a1 : Int} {r : Int} (h : m58_slices_Index a0 a1 = some r) : CallsA Try.prog 58 [.one (.sl a0.length (a0.flatMap eI)), .one (.i .i64 a1)] (· = .s (.one (.i .i64 r))) := by
  unfold m58_slices_Index at h
  refine callsA_of Try.func58 rfl (nt := 19) rfl (Nat.le_of_ble_eq_true rfl) ?_
  intro w0 S0
  refine cseq ?_
  refine cregion ?_
  refine sv rfl (opv_as rfl) ?_
  refine snil ?_
  refine cseq ?_
  refine cseq ?_
  refine cregion ?_
  refine sv rfl (opv_mv rfl) ?_
  refine sv rfl (opv_len_sl si32 rfl) ?_
  refine sv rfl (opv_mv rfl) ?_
  refine snil ?_
  refine cjoin (Unit) (fun b1 => []) (fun b1 => []) (fun b1 => m58_slices_Index_k1 b1 = some r) (fun _ _ => inbL_of rfl) (fun _ _ => blkinb_of rfl) (fun _ _ => Nat.le_of_ble_eq_true rfl) (fun b1 h => ?_) ?_
  · unfold m58_slices_Index_k1 at h
    refine cseq ?_
    refine cregion ?_
    refine sv rfl (opv_as rfl) ?_
    refine snil ?_
    refine cret ?_
    obtain rfl := Option.some.inj h
    refine ⟨Or.inr rfl, _, _, _, (resVs_cons (ResV.tmp _ _ rfl) resVs_nil), (pubA_id rfl), ?_⟩
    rfl
  · skip
    refine cblock ?_
    obtain ⟨x2, hx2, ho2⟩ := bind_eq h
    refine awc_loop (G := Nat × (Int)) (fun g => [(0, .s (.one (.sl a0.length (a0.flatMap eI)))), (1, .s (.one (.i .i64 a1))), (7, .s (.one (.i .i64 (a0.length : Int)))), (8, .s (.one (.i .i64 g.2)))]) (fun g => []) (fun g => iter (m58_slices_Index_s2 a0 a1) g.1 g.2 = some x2) (fun g => g.1) (fuel, 0) hx2 ⟨rfl, rfl, rfl, rfl, trivial⟩ [] rfl (fun _ _ => inbL_of rfl) (fun _ _ => blkinb_of rfl) (fun _ _ => Nat.le_of_ble_eq_true rfl) ?_
    clear hx2 h
    rintro ⟨n2, s2⟩ h
    obtain ⟨n2, y2, rfl, h, hk2⟩ := iter_eq h
    unfold m58_slices_Index_s2 at h
    refine cseq ?_
    refine cregion ?_
    refine sv rfl (opv_lss rfl rfl) ?_
    refine snil ?_
    refine cseq ?_
    refine ccond rfl (fun hc => ?_) (fun hc => ?_)
    · replace h := ite_t hc h
      clear hc
      refine cskip ?_
      refine then_normal ?_
      refine cseq ?_
      refine cblock ?_
      refine cseq ?_
      refine cregion ?_
      refine sv rfl (opv_mv rfl) ?_
      refine sv rfl (opv_as rfl) ?_
      refine snil ?_
      refine cseq ?_
      refine cregion ?_
      refine sv rfl (opv_mv rfl) ?_
      refine sv rfl (opv_mv rfl) ?_
      refine sv rfl (opv_mv rfl) ?_
      obtain ⟨u3, hu3, h⟩ := bind_eq h
      refine sv rfl (opv_ix (f := eI) si32 (fun _ => rfl) rfl rfl rfl rfl hu3) ?_
      refine sv rfl (opv_load1 ti3 rfl (.cp _) rfl) ?_
      refine sv rfl (opv_ieql rfl rfl) ?_
      refine snil ?_
      refine ccond rfl (fun hc => ?_) (fun hc => ?_)
      · replace h := ite_t hc h
        clear hc
        refine cseq ?_
        refine cregion ?_
        refine sv rfl (opv_mv rfl) ?_
        refine sv rfl (opv_as rfl) ?_
        refine snil ?_
        refine cret ?_
        refine block_ret ?_
        refine then_ret ?_
        refine then_ret ?_
        refine block_ret ?_
        refine then_ret ?_
        obtain rfl := Option.some.inj h
        obtain rfl : Sum.inl _ = x2 := hk2
        replace ho2 : some _ = some _ := ho2
        obtain rfl := Option.some.inj ho2
        refine ⟨Or.inr rfl, _, _, _, (resVs_cons (ResV.tmp _ _ rfl) resVs_nil), (pubA_id rfl), ?_⟩
        rfl
      · replace h := ite_f hc h
        clear hc
        refine cskip ?_
        refine block_normal ?_
        refine then_normal ?_
        refine cregion ?_
        refine sv rfl (opv_add rfl rfl) ?_
        refine sv rfl (opv_mv rfl) ?_
        refine snil ?_
        obtain rfl := Option.some.inj h
        exact ⟨(n2, (wI (s2 + 1))), _, hk2, ⟨rfl, rfl, rfl, rfl, trivial⟩, rfl, Nat.lt_succ_self _⟩
    · replace h := ite_f hc h
      clear hc
      refine cexit ?_
      refine then_exit ?_
      refine then_exit ?_
      refine block_hit ?_
      refine then_normal ?_
      obtain rfl := Option.some.inj h
      obtain rfl : _ = x2 := hk2
      exact ⟨(), _, ho2, trivial, rfl⟩

def m57_slices_Contains (a0 : List Int) (a1 : Int) : Option Bool :=
  (m58_slices_Index a0 a1).bind fun v1 => some (decide (0 ≤ v1))

set_option maxRecDepth 100000 in
theorem m57_slices_Contains_c {a0 : List Int} {a1 : Int} {r : Bool} (h : m57_slices_Contains a0 a1 = some r) : CallsA Try.prog 57 [.one (.sl a0.length (a0.flatMap eI)), .one (.i .i64 a1)] (· = .s (.one (.b r))) := by
  unfold m57_slices_Contains at h
  refine callsA_of Try.func57 rfl (nt := 9) rfl (Nat.le_of_ble_eq_true rfl) ?_
  intro w0 S0
  refine cseq ?_
  refine cregion ?_
  refine sv rfl (opv_as rfl) ?_
  refine snil ?_
  refine cseq ?_
  refine cregion ?_
  refine sv rfl (opv_mv rfl) ?_
  refine sv rfl (opv_mv rfl) ?_
  obtain ⟨v1, hv1, h⟩ := bind_eq h
  refine scall1 rfl fn58 (opnds_cons rfl (opnds_cons rfl opnds_nil)) (pubA_id rfl) (m58_slices_Index_c hv1) ?_
  refine sv rfl (opv_geq rfl rfl) ?_
  refine sv rfl (opv_as rfl) ?_
  refine snil ?_
  refine cret ?_
  obtain rfl := Option.some.inj h
  refine ⟨Or.inr rfl, _, _, _, (resVs_cons (ResV.tmp _ _ rfl) resVs_nil), (pubA_id rfl), ?_⟩
  rfl

def m55_reads_only_k1 (b1 : (List GReadsRead)) : Option GReadsTable :=
  some (GReadsTable.mk b1)

def m55_reads_only_s2 (a0 : GReadsTable) (a1 : List Int) (a2 : Bool) (s2 : Int × (List GReadsRead)) : Option (LB (Int × (List GReadsRead)) ((List GReadsRead))) :=
  if (decide (s2.1 < (a0.L.length : Int))) then ((idx a0.L s2.1).bind fun u3 => (m57_slices_Contains a1 u3.Tx).bind fun v4 => if (v4 == a2) then (if (s2.2.length + [(GReadsRead.mk u3.Tx (GApiRange.mk u3.Rng.Lo u3.Rng.Hi u3.Rng.Open))].length) * 64 ≤ 140737488355328 then (some (.cont ((wI (s2.1 + 1)), (s2.2 ++ [(GReadsRead.mk u3.Tx (GApiRange.mk u3.Rng.Lo u3.Rng.Hi u3.Rng.Open))])))) else none) else (some (.cont ((wI (s2.1 + 1)), s2.2)))) else (some (.brk s2.2))
def m55_reads_only (a0 : GReadsTable) (a1 : List Int) (a2 : Bool) : Option GReadsTable :=
  (iterB (m55_reads_only_s2 a0 a1 a2) fuel (0, ([] : List GReadsRead))).bind fun e6 => m55_reads_only_k1 e6

set_option maxRecDepth 100000 in
theorem m55_reads_only_c {a0 : GReadsTable} {a1 : List Int} {a2 : Bool} {r : GReadsTable} (h : m55_reads_only a0 a1 a2 = some r) : CallsA Try.prog 55 [.agg [.sl a0.L.length (a0.L.flatMap eGReadsRead)], .one (.sl a1.length (a1.flatMap eI)), .one (.b a2)] (· = .s (.agg [.sl r.L.length (r.L.flatMap eGReadsRead)])) := by
  unfold m55_reads_only at h
  refine callsA_of Try.func55 rfl (nt := 30) rfl (Nat.le_of_ble_eq_true rfl) ?_
  intro w0 S0
  refine cseq ?_
  refine cregion ?_
  refine sbox rfl rfl ?_
  refine salloc rfl zi29 ?_
  refine snil ?_
  refine cseq ?_
  refine cregion ?_
  refine sv rfl (opv_as rfl) ?_
  refine snil ?_
  refine cseq ?_
  refine cseq ?_
  refine cregion ?_
  refine sv rfl (opv_fieldAddr_lp fi29_0 rfl) ?_
  refine sv rfl (opv_load1 ti27 rfl (.lp _ _ _ rfl) rfl) ?_
  refine sv rfl (opv_len_sl si27 rfl) ?_
  refine sv rfl (opv_mv rfl) ?_
  refine snil ?_
  refine sadopt_c 72 4 7 (by decide) rfl ?_
  refine cjoin ((List GReadsRead)) (fun b1 => [(6, .s (.one (.lp 1 0))), (7, .s (.one (.ls 2 b1.length)))]) (fun b1 => [.box [.sl a0.L.length (a0.L.flatMap eGReadsRead)], .box [.raw (.slice none 0 0)], .arr 72 4 0 (b1.flatMap eGReadsRead)]) (fun b1 => m55_reads_only_k1 b1 = some r) (fun _ _ => inbL_of rfl) (fun _ _ => blkinb_of rfl) (fun _ _ => Nat.le_of_ble_eq_true rfl) (fun b1 h => ?_) ?_
  · unfold m55_reads_only_k1 at h
    refine cseq ?_
    refine cregion ?_
    refine sv rfl (opv_mv rfl) ?_
    refine sv rfl (opv_build zi29 pi29 (parts_cons rfl parts_nil) (.cons _ _ _ _ _ _ _ rfl rfl (Nat.le_of_ble_eq_true rfl) (.nil _))) ?_
    refine sstore sz29 rfl rfl rfl rfl (Nat.le_of_ble_eq_true rfl) ?_
    refine smem [.box [.sl a0.L.length (a0.L.flatMap eGReadsRead)], .box [.ls 2 b1.length], .arr 72 4 0 (b1.flatMap eGReadsRead)] rfl ?_
    refine snil ?_
    refine cret ?_
    obtain rfl := Option.some.inj h
    refine ⟨Or.inr rfl, _, _, _, (resVs_cons (ResV.agg _ _ _ _ _ ti29 rfl (.lp _ _ _ rfl) (Nat.le_of_ble_eq_true rfl)) resVs_nil), (by (repeat' first | exact PubA.nil _ | apply PubA.cons | apply PubV.one | apply PubV.agg | exact PubL.nil | exact PubL.ls _ _ _ _ _ _ rfl (flat_len (f := eGReadsRead) (fun _ => rfl) _).symm | exact PubL.id _ rfl | exact PubLs.nil _ | apply PubLs.cons)), ?_⟩
    rfl
  · skip
    refine cblock ?_
    obtain ⟨x2, hx2, ho2⟩ := bind_eq h
    refine awc_loop (G := Nat × (Int × (List GReadsRead))) (fun g => [(1, .s (.one (.sl a1.length (a1.flatMap eI)))), (2, .s (.one (.b a2))), (6, .s (.one (.lp 1 0))), (7, .s (.one (.ls 2 g.2.2.length))), (11, .s (.one (.sl a0.L.length (a0.L.flatMap eGReadsRead)))), (12, .s (.one (.i .i64 (a0.L.length : Int)))), (13, .s (.one (.i .i64 g.2.1)))]) (fun g => [.box [.sl a0.L.length (a0.L.flatMap eGReadsRead)], .box [.raw (.slice none 0 0)], .arr 72 4 0 (g.2.2.flatMap eGReadsRead)]) (fun g => iterB (m55_reads_only_s2 a0 a1 a2) g.1 g.2 = some x2) (fun g => g.1) (fuel, (0, ([] : List GReadsRead))) hx2 ⟨rfl, rfl, rfl, rfl, rfl, rfl, rfl, trivial⟩ [] rfl (fun _ _ => inbL_of rfl) (fun _ _ => blkinb_of rfl) (fun _ _ => Nat.le_of_ble_eq_true rfl) ?_
    clear hx2 h
    rintro ⟨n2, s2⟩ h
    obtain ⟨n2, y2, rfl, h, hk2⟩ := iterB_eq h
    unfold m55_reads_only_s2 at h
    refine cseq ?_
    refine cregion ?_
    refine sv rfl (opv_lss rfl rfl) ?_
    refine snil ?_
    refine cseq ?_
    refine ccond rfl (fun hc => ?_) (fun hc => ?_)
    · replace h := ite_t hc h
      clear hc
      refine cskip ?_
      refine then_normal ?_
      refine cseq ?_
      refine cblock ?_
      refine cseq ?_
      refine cregion ?_
      obtain ⟨u3, hu3, h⟩ := bind_eq h
      refine sv rfl (opv_ix (f := eGReadsRead) si27 (fun _ => rfl) rfl rfl rfl rfl hu3) ?_
      refine sv rfl (opv_loadNe (ys := [.i .i64 u3.Tx, .sl u3.Rng.Lo.length (u3.Rng.Lo.flatMap eU8), .sl u3.Rng.Hi.length (u3.Rng.Hi.flatMap eU8), .b u3.Rng.Open]) ti72 rfl (.cp _) rfl rfl) ?_
      refine salloc rfl zi72 ?_
      refine sstore sz72 rfl rfl rfl rfl (Nat.le_of_ble_eq_true rfl) ?_
      refine smem [.box [.sl a0.L.length (a0.L.flatMap eGReadsRead)], .box [.raw (.slice none 0 0)], .arr 72 4 0 (s2.2.flatMap eGReadsRead), .box u3] rfl ?_
      refine snil ?_
      refine cseq ?_
      refine cregion ?_
      refine sv rfl (opv_mv rfl) ?_
      refine sv rfl (opv_fieldAddr_lp fi72_0 rfl) ?_
      refine sv rfl (opv_load1 ti3 rfl (.lp _ _ _ rfl) rfl) ?_
      obtain ⟨v4, hv4, h⟩ := bind_eq h
      refine scall1 rfl fn57 (opnds_cons rfl (opnds_cons rfl opnds_nil)) (pubA_id rfl) (m57_slices_Contains_c hv4) ?_
      refine sv rfl (opv_mv rfl) ?_
      refine sv rfl (opv_beql Try.underlying4 rfl rfl) ?_
      refine snil ?_
      refine ccond rfl (fun hc => ?_) (fun hc => ?_)
      · replace h := ite_t hc h
        clear hc
        refine cregion ?_
        refine sv rfl (opv_mv rfl) ?_
        refine sv rfl (opv_loadN ti72 rfl (.lp _ _ _ rfl) (Nat.le_of_ble_eq_true rfl)) ?_
        refine sbuild1 rfl Try.underlying27 ei72 rfl rfl (List.all_eq_true.1 rfl) (by decide) ?_
        refine smem [.box [.sl a0.L.length (a0.L.flatMap eGReadsRead)], .box [.raw (.slice none 0 0)], .arr 72 4 0 (s2.2.flatMap eGReadsRead), .box u3, .arr 72 4 0 ([(GReadsRead.mk u3.Tx (GApiRange.mk u3.Rng.Lo u3.Rng.Hi u3.Rng.Open))].flatMap eGReadsRead)] rfl ?_
        obtain ⟨hb5, h⟩ := chk_eq h
        refine sapp (f := eGReadsRead) (xs := s2.2) (us := [(GReadsRead.mk u3.Tx (GApiRange.mk u3.Rng.Lo u3.Rng.Hi u3.Rng.Open))]) rfl Try.underlying27 ei72 ni27 (fun _ => rfl) rfl rfl (.one _ _ _ _ (.ls _ _ _ _ _ _ rfl (flat_len (f := eGReadsRead) (fun _ => rfl) [(GReadsRead.mk u3.Tx (GApiRange.mk u3.Rng.Lo u3.Rng.Hi u3.Rng.Open))]).symm)) rfl rfl rfl (.sl _ _ _ (flat_len (f := eGReadsRead) (fun _ => rfl) _)) rfl rfl hb5 (by decide) ?_
        refine sv rfl (opv_as rfl) ?_
        refine snil0 ?_
        refine block_normal ?_
        refine then_normal ?_
        refine cregion ?_
        refine sv rfl (opv_add rfl rfl) ?_
        refine sv rfl (opv_mv rfl) ?_
        refine snil ?_
        obtain rfl := Option.some.inj h
        exact ⟨(n2, ((wI (s2.1 + 1)), (s2.2 ++ [(GReadsRead.mk u3.Tx (GApiRange.mk u3.Rng.Lo u3.Rng.Hi u3.Rng.Open))]))), _, hk2, ⟨rfl, rfl, rfl, rfl, rfl, rfl, rfl, trivial⟩, rfl, Nat.lt_succ_self _⟩
      · replace h := ite_f hc h
        clear hc
        refine cskip ?_
        refine block_normal ?_
        refine then_normal ?_
        refine cregion ?_
        refine sv rfl (opv_add rfl rfl) ?_
        refine sv rfl (opv_mv rfl) ?_
        refine snil ?_
        obtain rfl := Option.some.inj h
        exact ⟨(n2, ((wI (s2.1 + 1)), s2.2)), _, hk2, ⟨rfl, rfl, rfl, rfl, rfl, rfl, rfl, trivial⟩, rfl, Nat.lt_succ_self _⟩
    · replace h := ite_f hc h
      clear hc
      refine cexit ?_
      refine then_exit ?_
      refine then_exit ?_
      refine block_hit ?_
      refine then_normal ?_
      obtain rfl := Option.some.inj h
      obtain rfl : _ = x2 := hk2
      exact ⟨s2.2, _, ho2, ⟨rfl, rfl, trivial⟩, rfl⟩

def m32_reads_Drop (a0 : GReadsTable) (a1 : List Int) : Option GReadsTable :=
  (m55_reads_only (GReadsTable.mk a0.L) a1 false).bind fun v1 => some v1

set_option maxRecDepth 100000 in
theorem m32_reads_Drop_c {a0 : GReadsTable} {a1 : List Int} {r : GReadsTable} (h : m32_reads_Drop a0 a1 = some r) : CallsA Try.prog 32 [.agg [.sl a0.L.length (a0.L.flatMap eGReadsRead)], .one (.sl a1.length (a1.flatMap eI))] (· = .s (.agg [.sl r.L.length (r.L.flatMap eGReadsRead)])) := by
  unfold m32_reads_Drop at h
  refine callsA_of Try.func32 rfl (nt := 8) rfl (Nat.le_of_ble_eq_true rfl) ?_
  intro w0 S0
  refine cseq ?_
  refine cregion ?_
  refine sbox rfl rfl ?_
  refine salloc rfl zi29 ?_
  refine snil ?_
  refine cseq ?_
  refine cregion ?_
  refine sv rfl (opv_loadN ti29 rfl (.lp _ _ _ rfl) (Nat.le_of_ble_eq_true rfl)) ?_
  refine sv rfl (opv_mv rfl) ?_
  obtain ⟨v1, hv1, h⟩ := bind_eq h
  refine scall1 rfl fn55 (opnds_cons rfl (opnds_cons rfl (opnds_cons rfl opnds_nil))) (pubA_id rfl) (m55_reads_only_c hv1) ?_
  refine sstore sz29 rfl rfl rfl rfl (Nat.le_of_ble_eq_true rfl) ?_
  refine smem [.box [.sl a0.L.length (a0.L.flatMap eGReadsRead)], .box [.sl v1.L.length (v1.L.flatMap eGReadsRead)]] rfl ?_
  refine snil ?_
  refine cret ?_
  obtain rfl := Option.some.inj h
  refine ⟨Or.inr rfl, _, _, _, (resVs_cons (ResV.agg _ _ _ _ _ ti29 rfl (.lp _ _ _ rfl) (Nat.le_of_ble_eq_true rfl)) resVs_nil), (pubA_id rfl), ?_⟩
  rfl

def m13_ssi_Sane_k2 (a0 : GSsiCert) (b2 : Unit) : Option Bool :=
  (m33_ssi_ids a0.Txs).bind fun v3 => (m32_reads_Drop (GReadsTable.mk a0.Reads.L) v3).bind fun v4 => some (decide ((v4.L.length : Int) = 0))

def m13_ssi_Sane_k9 (s5 : Int) (b9 : Unit) : Option (LR (Int) (Unit) (Bool)) :=
  some (.cont (wI (s5 + 1)))

def m13_ssi_Sane_s10 (u6 : GSsiTx) (c8 : List GSsiTx) (s10 : Int) : Option (LR (Int) (Unit) (Bool)) :=
  if (decide (s10 < (c8.length : Int))) then ((idx c8 s10).bind fun u11 => (m31_ssi_clash u6 u11).bind fun v12 => if v12 then (some (.ret false)) else (some (.cont (wI (s10 + 1))))) else (some (.brk ()))

def m13_ssi_Sane_s5 (a0 : GSsiCert) (s5 : Int) : Option (LR (Int) (Unit) (Bool)) :=
  if (decide (s5 < (a0.Txs.length : Int))) then ((idx a0.Txs s5).bind fun u6 => (m30_ssi_saneTx u6).bind fun v7 => if (!v7) then (some (.ret false)) else ((cut a0.Txs 0 s5).bind fun c8 => (iter (m13_ssi_Sane_s10 u6 c8) fuel 0).bind fun x => match x with | .inl r => some (.ret r) | .inr e13 => m13_ssi_Sane_k9 s5 e13)) else (some (.brk ()))

def m13_ssi_Sane_k1 (a0 : GSsiCert) (b1 : Unit) : Option Bool :=
  (iter (m13_ssi_Sane_s5 a0) fuel 0).bind fun x => match x with | .inl r => some r | .inr e14 => m13_ssi_Sane_k2 a0 e14
def m13_ssi_Sane (a0 : GSsiCert) : Option Bool :=
  if (decide (64 < (a0.Txs.length : Int))) then (some false) else ((m29_reads_Sane (GReadsTable.mk a0.Reads.L)).bind fun v15 => if (!v15) then (some false) else (m13_ssi_Sane_k1 a0 ()))

set_option maxRecDepth 100000 in
theorem m13_ssi_Sane_c {a0 : GSsiCert} {r : Bool} (h : m13_ssi_Sane a0 = some r) : CallsA Try.prog 13 [.agg a0] (· = .s (.one (.b r))) := by
  unfold m13_ssi_Sane at h
  refine callsA_of Try.func13 rfl (nt := 51) rfl (Nat.le_of_ble_eq_true rfl) ?_
  intro w0 S0
  refine cseq ?_
  refine cregion ?_
  refine sbox rfl rfl ?_
  refine sv rfl (opv_as rfl) ?_
  refine snil ?_
  refine cseq ?_
  refine cseq ?_
  refine cjoin3 (Unit) (fun b1 => [(1, .s (.one (.lp 0 0)))]) (fun b1 => [.box a0]) (fun b1 => m13_ssi_Sane_k1 a0 b1 = some r) (fun _ _ => inbL_of rfl) (fun _ _ => blkinb_of rfl) (fun _ _ => Nat.le_of_ble_eq_true rfl) (fun b1 h => ?_) ?_
  · unfold m13_ssi_Sane_k1 at h
    refine cseq ?_
    refine cseq ?_
    refine cregion ?_
    refine sv rfl (opv_fieldAddr_lp fi31_0 rfl) ?_
    refine sv rfl (opv_load1 ti26 rfl (.lp _ _ _ rfl) rfl) ?_
    refine sv rfl (opv_len_sl si26 rfl) ?_
    refine sv rfl (opv_mv rfl) ?_
    refine snil ?_
    refine cjoin (Unit) (fun b2 => [(1, .s (.one (.lp 0 0)))]) (fun b2 => [.box a0]) (fun b2 => m13_ssi_Sane_k2 a0 b2 = some r) (fun _ _ => inbL_of rfl) (fun _ _ => blkinb_of rfl) (fun _ _ => Nat.le_of_ble_eq_true rfl) (fun b2 h => ?_) ?_
    · unfold m13_ssi_Sane_k2 at h
      refine cseq ?_
      refine cdraw mixed (by kernel_rfl) ?_
      refine dv rfl (opv_fieldAddr_lp fi31_1 rfl) ?_
      refine dv rfl (opv_loadN ti29 rfl (.lp _ _ _ rfl) (Nat.le_of_ble_eq_true rfl)) ?_
      refine dv rfl (opv_fieldAddr_lp fi31_0 rfl) ?_
      refine dv rfl (opv_load1 ti26 rfl (.lp _ _ _ rfl) rfl) ?_
      obtain ⟨v3, hv3, h⟩ := bind_eq h
      refine dd rfl (opD_call fn33 (opnds_cons rfl opnds_nil) rfl (m33_ssi_ids_c hv3)) ?_
      obtain ⟨v4, hv4, h⟩ := bind_eq h
      refine dd rfl (opD_call fn32 (opnds_cons rfl (opnds_cons rfl opnds_nil)) rfl (m32_reads_Drop_c hv4)) ?_
      refine dv rfl (opv_field1 ft29_0 ti27 rfl rfl) ?_
      refine dv rfl (opv_len_sl si27 rfl) ?_
      refine dv rfl (opv_ieql rfl rfl) ?_
      refine dv rfl (opv_as rfl) ?_
      refine dnil ?_
      refine then_normal ?_
      refine cret ?_
      obtain rfl := Option.some.inj h
      refine ⟨Or.inr rfl, _, _, _, (resVs_cons (ResV.tmp _ _ rfl) resVs_nil), (pubA_id rfl), ?_⟩
      rfl
    · skip
      refine cblock ?_
      obtain ⟨x5, hx5, ho5⟩ := bind_eq h
      refine awc_loop (G := Nat × (Int)) (fun g => [(1, .s (.one (.lp 0 0))), (18, .s (.one (.sl a0.Txs.length (a0.Txs.flatMap eGSsiTx)))), (19, .s (.one (.i .i64 (a0.Txs.length : Int)))), (20, .s (.one (.i .i64 g.2)))]) (fun g => [.box a0]) (fun g => iter (m13_ssi_Sane_s5 a0) g.1 g.2 = some x5) (fun g => g.1) (fuel, 0) hx5 ⟨rfl, rfl, rfl, rfl, trivial⟩ [] rfl (fun _ _ => inbL_of rfl) (fun _ _ => blkinb_of rfl) (fun _ _ => Nat.le_of_ble_eq_true rfl) ?_
      clear hx5 h
      rintro ⟨n5, s5⟩ h
      obtain ⟨n5, y5, rfl, h, hk5⟩ := iter_eq h
      unfold m13_ssi_Sane_s5 at h
      refine cseq ?_
      refine cregion ?_
      refine sv rfl (opv_lss rfl rfl) ?_
      refine snil ?_
      refine cseq ?_
      refine ccond rfl (fun hc => ?_) (fun hc => ?_)
      · replace h := ite_t hc h
        clear hc
        refine cskip ?_
        refine then_normal ?_
        refine cseq ?_
        refine cblock ?_
        refine cseq ?_
        refine cregion ?_
        refine sv rfl (opv_mv rfl) ?_
        obtain ⟨u6, hu6, h⟩ := bind_eq h
        refine sv rfl (opv_ix (f := eGSsiTx) si26 (fun _ => rfl) rfl rfl rfl rfl hu6) ?_
        refine sv rfl (opv_loadNe (ys := [.i .i64 u6.ID, .i .i64 u6.Begin, .i .i64 u6.End, .i .i64 u6.State, .b u6.In, .b u6.Out, .b u6.RO, .sl u6.Keys.length (u6.Keys.flatMap (eL eU8))]) ti48 rfl (.cp _) rfl rfl) ?_
        refine salloc rfl zi48 ?_
        refine sv rfl (opv_as rfl) ?_
        refine sstore sz48 rfl rfl rfl rfl (Nat.le_of_ble_eq_true rfl) ?_
        refine smem [.box a0, .box u6] rfl ?_
        refine snil ?_
        refine cseq ?_
        refine cseq ?_
        refine cregion ?_
        refine sv rfl (opv_loadN ti48 rfl (.lp _ _ _ rfl) (Nat.le_of_ble_eq_true rfl)) ?_
        obtain ⟨v7, hv7, h⟩ := bind_eq h
        refine scall1 rfl fn30 (opnds_cons rfl opnds_nil) (pubA_id rfl) (m30_ssi_saneTx_c hv7) ?_
        refine sv rfl (opv_not rfl) ?_
        refine snil ?_
        refine ccond rfl (fun hc => ?_) (fun hc => ?_)
        · replace h := ite_t hc h
          clear hc
          refine cseq ?_
          refine cregion ?_
          refine sv rfl (opv_as rfl) ?_
          refine snil ?_
          refine cret ?_
          refine then_ret ?_
          refine block_ret ?_
          refine then_ret ?_
          refine then_ret ?_
          refine block_ret ?_
          refine then_ret ?_
          obtain rfl := Option.some.inj h
          obtain rfl : Sum.inl _ = x5 := hk5
          replace ho5 : some _ = some _ := ho5
          obtain rfl := Option.some.inj ho5
          refine ⟨Or.inr rfl, _, _, _, (resVs_cons (ResV.tmp _ _ rfl) resVs_nil), (pubA_id rfl), ?_⟩
          rfl
        · replace h := ite_f hc h
          clear hc
          refine cskip ?_
          refine then_normal ?_
          refine cseq ?_
          refine cregion ?_
          refine sv rfl (opv_fieldAddr_lp fi31_0 rfl) ?_
          refine sv rfl (opv_load1 ti26 rfl (.lp _ _ _ rfl) rfl) ?_
          refine sv rfl (opv_mv rfl) ?_
          obtain ⟨c8, hc8, h⟩ := bind_eq h
          refine sv rfl (opv_cut (f := eGSsiTx) (lo := 0) (hi := s5) si26 (fun _ => rfl) rfl rfl rfl bound_none (bound_some rfl (Int.le_trans (cut_eq hc8).1.1 (cut_eq hc8).1.2.1)) hc8) ?_
          refine sv rfl (opv_len_sl si26 rfl) ?_
          refine sv rfl (opv_mv rfl) ?_
          refine snil ?_
          refine cjoinb (Unit) (fun b9 => [(1, .s (.one (.lp 0 0))), (18, .s (.one (.sl a0.Txs.length (a0.Txs.flatMap eGSsiTx)))), (19, .s (.one (.i .i64 (a0.Txs.length : Int)))), (20, .s (.one (.i .i64 s5)))]) (fun b9 => [.box a0, .box u6]) (fun b9 => m13_ssi_Sane_k9 s5 b9 = some y5) (fun _ _ => inbL_of rfl) (fun _ _ => blkinb_of rfl) (fun _ _ => Nat.le_of_ble_eq_true rfl) (fun b9 h => ?_) ?_
          · unfold m13_ssi_Sane_k9 at h
            refine cregion ?_
            refine sv rfl (opv_add rfl rfl) ?_
            refine sv rfl (opv_mv rfl) ?_
            refine snil ?_
            obtain rfl := Option.some.inj h
            exact ⟨(n5, (wI (s5 + 1))), _, hk5, ⟨rfl, rfl, rfl, rfl, trivial⟩, rfl, Nat.lt_succ_self _⟩
          · skip
            refine cblock ?_
            obtain ⟨x10, hx10, ho10⟩ := bind_eq h
            refine awc_loop (G := Nat × (Int)) (fun g => [(1, .s (.one (.lp 0 0))), (4, .s (.one (.lp 1 0))), (18, .s (.one (.sl a0.Txs.length (a0.Txs.flatMap eGSsiTx)))), (19, .s (.one (.i .i64 (a0.Txs.length : Int)))), (20, .s (.one (.i .i64 s5))), (31, .s (.one (.sl c8.length (c8.flatMap eGSsiTx)))), (32, .s (.one (.i .i64 (c8.length : Int)))), (33, .s (.one (.i .i64 g.2)))]) (fun g => [.box a0, .box u6]) (fun g => iter (m13_ssi_Sane_s10 u6 c8) g.1 g.2 = some x10) (fun g => g.1) (fuel, 0) hx10 ⟨rfl, rfl, rfl, rfl, rfl, rfl, rfl, rfl, trivial⟩ [] rfl (fun _ _ => inbL_of rfl) (fun _ _ => blkinb_of rfl) (fun _ _ => Nat.le_of_ble_eq_true rfl) ?_
            clear hx10 h
            rintro ⟨n10, s10⟩ h
            obtain ⟨n10, y10, rfl, h, hk10⟩ := iter_eq h
            unfold m13_ssi_Sane_s10 at h
            refine cseq ?_
            refine cregion ?_
            refine sv rfl (opv_lss rfl rfl) ?_
            refine snil ?_
            refine cseq ?_
            refine ccond rfl (fun hc => ?_) (fun hc => ?_)
            · replace h := ite_t hc h
              clear hc
              refine cskip ?_
              refine then_normal ?_
              refine cseq ?_
              refine cblock ?_
              refine cseq ?_
              refine cregion ?_
              obtain ⟨u11, hu11, h⟩ := bind_eq h
              refine sv rfl (opv_ix (f := eGSsiTx) si26 (fun _ => rfl) rfl rfl rfl rfl hu11) ?_
              refine sv rfl (opv_loadNe (ys := [.i .i64 u11.ID, .i .i64 u11.Begin, .i .i64 u11.End, .i .i64 u11.State, .b u11.In, .b u11.Out, .b u11.RO, .sl u11.Keys.length (u11.Keys.flatMap (eL eU8))]) ti48 rfl (.cp _) rfl rfl) ?_
              refine salloc rfl zi48 ?_
              refine sstore sz48 rfl rfl rfl rfl (Nat.le_of_ble_eq_true rfl) ?_
              refine smem [.box a0, .box u6, .box u11] rfl ?_
              refine snil ?_
              refine cseq ?_
              refine cregion ?_
              refine sv rfl (opv_loadN ti48 rfl (.lp _ _ _ rfl) (Nat.le_of_ble_eq_true rfl)) ?_
              refine sv rfl (opv_loadN ti48 rfl (.lp _ _ _ rfl) (Nat.le_of_ble_eq_true rfl)) ?_
              obtain ⟨v12, hv12, h⟩ := bind_eq h
              refine scall1 rfl fn31 (opnds_cons rfl (opnds_cons rfl opnds_nil)) (pubA_id rfl) (m31_ssi_clash_c hv12) ?_
              refine snil ?_
              refine ccond rfl (fun hc => ?_) (fun hc => ?_)
              · replace h := ite_t hc h
                clear hc
                refine cseq ?_
                refine cregion ?_
                refine sv rfl (opv_as rfl) ?_
                refine snil ?_
                refine cret ?_
                refine block_ret ?_
                refine then_ret ?_
                refine then_ret ?_
                refine block_ret ?_
                refine block_ret ?_
                refine then_ret ?_
                refine then_ret ?_
                refine block_ret ?_
                refine then_ret ?_
                obtain rfl := Option.some.inj h
                obtain rfl : Sum.inl _ = x10 := hk10
                replace ho10 : some _ = some _ := ho10
                obtain rfl := Option.some.inj ho10
                obtain rfl : Sum.inl _ = x5 := hk5
                replace ho5 : some _ = some _ := ho5
                obtain rfl := Option.some.inj ho5
                refine ⟨Or.inr rfl, _, _, _, (resVs_cons (ResV.tmp _ _ rfl) resVs_nil), (pubA_id rfl), ?_⟩
                rfl
              · replace h := ite_f hc h
                clear hc
                refine cskip ?_
                refine block_normal ?_
                refine then_normal ?_
                refine cregion ?_
                refine sv rfl (opv_add rfl rfl) ?_
                refine sv rfl (opv_mv rfl) ?_
                refine snil ?_
                obtain rfl := Option.some.inj h
                exact ⟨(n10, (wI (s10 + 1))), _, hk10, ⟨rfl, rfl, rfl, rfl, rfl, rfl, rfl, rfl, trivial⟩, rfl, Nat.lt_succ_self _⟩
            · replace h := ite_f hc h
              clear hc
              refine cexit ?_
              refine then_exit ?_
              refine then_exit ?_
              refine block_hit ?_
              refine block_normal ?_
              refine then_normal ?_
              obtain rfl := Option.some.inj h
              obtain rfl : _ = x10 := hk10
              exact ⟨(), _, ho10, ⟨rfl, rfl, rfl, rfl, trivial⟩, rfl⟩
      · replace h := ite_f hc h
        clear hc
        refine cexit ?_
        refine then_exit ?_
        refine then_exit ?_
        refine block_hit ?_
        refine then_normal ?_
        obtain rfl := Option.some.inj h
        obtain rfl : _ = x5 := hk5
        exact ⟨(), _, ho5, ⟨rfl, trivial⟩, rfl⟩
  · skip
    refine cregion ?_
    refine sv rfl (opv_fieldAddr_lp fi31_0 rfl) ?_
    refine sv rfl (opv_load1 ti26 rfl (.lp _ _ _ rfl) rfl) ?_
    refine sv rfl (opv_len_sl si26 rfl) ?_
    refine sv rfl (opv_gtr rfl rfl) ?_
    refine sv rfl (opv_mv rfl) ?_
    refine ssplit 11 rfl (fun hc => ?_) (fun hc => ?_)
    · replace h := ite_t hc h
      clear hc
      refine soff rfl rfl rfl rfl ?_
      refine soff rfl rfl rfl rfl ?_
      refine soff rfl rfl rfl rfl ?_
      refine soff rfl rfl rfl rfl ?_
      refine sv rfl (opv_pick_t rfl rfl) ?_
      refine snil ?_
      refine ccond rfl (fun _ => ?_) (fun hx => Bool.noConfusion hx)
      refine cseq ?_
      refine cregion ?_
      refine sv rfl (opv_as rfl) ?_
      refine snil ?_
      refine cret ?_
      refine then_ret ?_
      obtain rfl := Option.some.inj h
      refine ⟨Or.inr rfl, _, _, _, (resVs_cons (ResV.tmp _ _ rfl) resVs_nil), (pubA_id rfl), ?_⟩
      rfl
    · replace h := ite_f hc h
      clear hc
      refine son rfl rfl rfl ?_
      refine sv rfl (opv_fieldAddr_lp fi31_1 rfl) ?_
      refine son rfl rfl rfl ?_
      refine sv rfl (opv_loadN ti29 rfl (.lp _ _ _ rfl) (Nat.le_of_ble_eq_true rfl)) ?_
      refine son rfl rfl rfl ?_
      obtain ⟨v15, hv15, h⟩ := bind_eq h
      refine scall1 rfl fn29 (opnds_cons rfl opnds_nil) (pubA_id rfl) (m29_reads_Sane_c hv15) ?_
      refine son rfl rfl rfl ?_
      refine sv rfl (opv_not rfl) ?_
      refine sv rfl (opv_pick_f rfl rfl) ?_
      refine snil ?_
      refine ccond rfl (fun hc => ?_) (fun hc => ?_)
      · replace h := ite_t hc h
        clear hc
        refine cseq ?_
        refine cregion ?_
        refine sv rfl (opv_as rfl) ?_
        refine snil ?_
        refine cret ?_
        refine then_ret ?_
        obtain rfl := Option.some.inj h
        refine ⟨Or.inr rfl, _, _, _, (resVs_cons (ResV.tmp _ _ rfl) resVs_nil), (pubA_id rfl), ?_⟩
        rfl
      · replace h := ite_f hc h
        clear hc
        refine cskip ?_
        refine then_normal ?_
        exact ⟨(), _, h, ⟨rfl, trivial⟩, rfl⟩

def m37_ssi_place (a0 : GSsiCert) (a1 : Int) : Option Int :=
  (m33_ssi_ids a0.Txs).bind fun v1 => (m58_slices_Index v1 a1).bind fun v2 => some v2

set_option maxRecDepth 100000 in
theorem m37_ssi_place_c {a0 : GSsiCert} {a1 : Int} {r : Int} (h : m37_ssi_place a0 a1 = some r) : CallsA Try.prog 37 [.agg a0, .one (.i .i64 a1)] (· = .s (.one (.i .i64 r))) := by
  unfold m37_ssi_place at h
  refine callsA_of Try.func37 rfl (nt := 10) rfl (Nat.le_of_ble_eq_true rfl) ?_
  intro w0 S0
  refine cseq ?_
  refine cregion ?_
  refine sbox rfl rfl ?_
  refine sv rfl (opv_as rfl) ?_
  refine snil ?_
  refine cseq ?_
  refine cregion ?_
  refine sv rfl (opv_fieldAddr_lp fi31_0 rfl) ?_
  refine sv rfl (opv_load1 ti26 rfl (.lp _ _ _ rfl) rfl) ?_
  obtain ⟨v1, hv1, h⟩ := bind_eq h
  refine scall1 rfl fn33 (opnds_cons rfl opnds_nil) (pubA_id rfl) (m33_ssi_ids_c hv1) ?_
  refine sv rfl (opv_mv rfl) ?_
  obtain ⟨v2, hv2, h⟩ := bind_eq h
  refine scall1 rfl fn58 (opnds_cons rfl (opnds_cons rfl opnds_nil)) (pubA_id rfl) (m58_slices_Index_c hv2) ?_
  refine sv rfl (opv_as rfl) ?_
  refine snil ?_
  refine cret ?_
  obtain rfl := Option.some.inj h
  refine ⟨Or.inr rfl, _, _, _, (resVs_cons (ResV.tmp _ _ rfl) resVs_nil), (pubA_id rfl), ?_⟩
  rfl

def m59_slices_Growo_k1 (a0 : Int) (b1 : Unit) : Option (List GSsiTx) :=
  if (decide (0 < (wI (a0 - (wI (0 - 0)))))) then (if 0 < (wI (a0 - (wI (0 - 0)))) ∧ (wI (a0 - (wI (0 - 0)))) * ((64 : Nat) : Int) ≤ 281474976710656 then (if (0 : Int) ≤ 0 ∧ 0 ≤ ((List.replicate (wI (a0 - (wI (0 - 0)))).toNat (GSsiTx.mk 0 0 0 0 false false false ([] : List (List UInt8)))).length : Int) then (some ((List.replicate (wI (a0 - (wI (0 - 0)))).toNat (GSsiTx.mk 0 0 0 0 false false false ([] : List (List UInt8)))).take (0 : Int).toNat)) else none) else none) else (some ([] : List GSsiTx))
def m59_slices_Growo (a0 : Int) : Option (List GSsiTx) :=
  if (decide (a0 < 0)) then none else (m59_slices_Growo_k1 a0 ())

set_option maxRecDepth 100000 in
theorem m59_slices_Growo_c {a0 : Int} {r : (List GSsiTx)} (h : m59_slices_Growo a0 = some r) : CallsB Try.prog 59 [] [.one (.raw (.slice none 0 0)), .one (.i .i64 a0)] (fun y m' => y = .s (.one (.ls 0 r.length)) ∧ m' = [.arr 48 8 0 (r.flatMap eGSsiTx)]) := by
  unfold m59_slices_Growo at h
  refine callsB_of Try.func59 rfl (nt := 27) rfl (Nat.le_of_ble_eq_true rfl) ?_
  intro w0 S0 X0 H0
  refine cseq ?_
  refine cregion ?_
  refine sv rfl (opv_as rfl) ?_
  refine snil ?_
  refine cseq ?_
  refine cseq ?_
  refine cregion ?_
  refine sv rfl (opv_mv rfl) ?_
  refine sv rfl (opv_lss rfl rfl) ?_
  refine snil ?_
  refine cjoin (Unit) (fun b1 => [(0, .s (.one (.raw (.slice none 0 0)))), (1, .s (.one (.i .i64 a0)))]) (fun b1 => []) (fun b1 => m59_slices_Growo_k1 a0 b1 = some r) (fun _ _ => inbL_of rfl) (fun _ _ => blkinb_of rfl) (fun _ _ => Nat.le_of_ble_eq_true rfl) (fun b1 h => ?_) ?_
  · unfold m59_slices_Growo_k1 at h
    refine cseq ?_
    refine cseq ?_
    refine cregion ?_
    refine sv rfl (opv_mv rfl) ?_
    refine sv rfl (opv_mv rfl) ?_
    refine sv rfl (opv_cap_nil si26 rfl) ?_
    refine sv rfl (opv_mv rfl) ?_
    refine sv rfl (opv_len_nil si26 rfl) ?_
    refine sv rfl (opv_sub rfl rfl) ?_
    refine sv rfl (opv_sub rfl rfl) ?_
    refine sv rfl (opv_as rfl) ?_
    refine snil ?_
    refine cseq ?_
    refine cregion ?_
    refine sv rfl (opv_mv rfl) ?_
    refine sv rfl (opv_gtr rfl rfl) ?_
    refine snil ?_
    refine ccond rfl (fun hc => ?_) (fun hc => ?_)
    · replace h := ite_t hc h
      clear hc
      refine cregion ?_
      refine sv rfl (opv_mv rfl) ?_
      refine sv rfl (opv_mv rfl) ?_
      refine sv rfl (opv_cap_nil si26 rfl) ?_
      refine sv rfl (opv_slice_nil si26 rfl rfl) ?_
      refine sv rfl (opv_mv rfl) ?_
      obtain ⟨hm2, h⟩ := chk_eq h
      refine sappzc (f := eGSsiTx) (z := (GSsiTx.mk 0 0 0 0 false false false ([] : List (List UInt8)))) rfl Try.underlying26 ei48 Try.underlying3 (fun _ => rfl) rfl rfl rfl hm2 (by decide) ?_
      refine sv rfl (opv_mv rfl) ?_
      refine sv rfl (opv_len_nil si26 rfl) ?_
      obtain ⟨hs3, h⟩ := chk_eq h
      refine strunc (f := eGSsiTx) rfl si26 (fun _ => rfl) rfl rfl rfl rfl rfl hs3 ?_
      refine sv rfl (opv_as rfl) ?_
      refine snil ?_
      refine cseq ?_
      refine cregion ?_
      refine sv rfl (opv_mv rfl) ?_
      refine sv rfl (opv_as rfl) ?_
      refine snil ?_
      refine cret ?_
      obtain rfl := Option.some.inj h
      exact ⟨Or.inr rfl, _, [1], [.one (.ls 0 ((List.replicate (wI (a0 - (wI (0 - 0)))).toNat (GSsiTx.mk 0 0 0 0 false false false ([] : List (List UInt8)))).take (0 : Int).toNat).length)], [.arr 48 8 0 (((List.replicate (wI (a0 - (wI (0 - 0)))).toNat (GSsiTx.mk 0 0 0 0 false false false ([] : List (List UInt8)))).take (0 : Int).toNat).flatMap eGSsiTx)], (resVs_cons (ResV.tmp _ _ rfl) resVs_nil), rfl, rfl, ⟨by decide, rfl⟩, rfl, rfl, ⟨rfl, rfl⟩⟩
    · replace h := ite_f hc h
      clear hc
      refine cskip ?_
      refine then_normal ?_
      refine cseq ?_
      refine cregion ?_
      refine sv rfl (opv_mv rfl) ?_
      refine sv rfl (opv_as rfl) ?_
      refine snil ?_
      refine sadopt_c 48 8 4 (by decide) rfl ?_
      refine cret ?_
      obtain rfl := Option.some.inj h
      exact ⟨Or.inr rfl, _, [0], [.one (.ls 0 ([] : List GSsiTx).length)], [.arr 48 8 0 (([] : List GSsiTx).flatMap eGSsiTx)], (resVs_cons (ResV.tmp _ _ rfl) resVs_nil), rfl, rfl, ⟨by decide, rfl⟩, rfl, rfl, ⟨rfl, rfl⟩⟩
  · skip
    refine ccond rfl (fun hc => ?_) (fun hc => ?_)
    · replace h := ite_t hc h
      clear hc
      cases h
    · replace h := ite_f hc h
      clear hc
      refine cskip ?_
      refine then_normal ?_
      exact ⟨(), _, h, ⟨rfl, rfl, trivial⟩, rfl⟩

def m38_slices_Concat_k3 (b3 : (List GSsiTx)) : Option (List GSsiTx) :=
  some b3

def m38_slices_Concat_s4 (a0 : List (List GSsiTx)) (s4 : Int × (List GSsiTx)) : Option (LB (Int × (List GSsiTx)) ((List GSsiTx))) :=
  if (decide (s4.1 < (a0.length : Int))) then ((idx a0 s4.1).bind fun u5 => if (s4.2.length + u5.length) * 64 ≤ 140737488355328 then (some (.cont ((wI (s4.1 + 1)), (s4.2 ++ u5)))) else none) else (some (.brk s4.2))

def m38_slices_Concat_k1 (a0 : List (List GSsiTx)) (b1 : Int) : Option (List GSsiTx) :=
  (m59_slices_Growo b1).bind fun v2 => (iterB (m38_slices_Concat_s4 a0) fuel (0, v2)).bind fun e7 => m38_slices_Concat_k3 e7

def m38_slices_Concat_s8 (a0 : List (List GSsiTx)) (s8 : Int × Int) : Option (LB (Int × Int) (Int)) :=
  if (decide (s8.2 < (a0.length : Int))) then ((idx a0 s8.2).bind fun u9 => if (decide ((wI (s8.1 + (u9.length : Int))) < 0)) then none else (some (.cont ((wI (s8.1 + (u9.length : Int))), (wI (s8.2 + 1)))))) else (some (.brk s8.1))
def m38_slices_Concat (a0 : List (List GSsiTx)) : Option (List GSsiTx) :=
  (iterB (m38_slices_Concat_s8 a0) fuel (0, 0)).bind fun e10 => m38_slices_Concat_k1 a0 e10

set_option maxRecDepth 100000 in
theorem m38_slices_Concat_c {a0 : List (List GSsiTx)} {r : (List GSsiTx)} (h : m38_slices_Concat a0 = some r) : CallsA Try.prog 38 [.one (.sl a0.length (a0.flatMap (eL eGSsiTx)))] (· = .s (.one (.sl r.length (r.flatMap eGSsiTx)))) := by
  unfold m38_slices_Concat at h
  refine callsA_of Try.func38 rfl (nt := 36) rfl (Nat.le_of_ble_eq_true rfl) ?_
  intro w0 S0
  refine cseq ?_
  refine cregion ?_
  refine sv rfl (opv_as rfl) ?_
  refine snil ?_
  refine cseq ?_
  refine cregion ?_
  refine sv rfl (opv_as rfl) ?_
  refine snil ?_
  refine cseq ?_
  refine cseq ?_
  refine cregion ?_
  refine sv rfl (opv_mv rfl) ?_
  refine sv rfl (opv_len_sl si108 rfl) ?_
  refine sv rfl (opv_mv rfl) ?_
  refine snil ?_
  refine cjoin (Int) (fun b1 => [(0, .s (.one (.sl a0.length (a0.flatMap (eL eGSsiTx))))), (3, .s (.one (.i .i64 b1)))]) (fun b1 => []) (fun b1 => m38_slices_Concat_k1 a0 b1 = some r) (fun _ _ => inbL_of rfl) (fun _ _ => blkinb_of rfl) (fun _ _ => Nat.le_of_ble_eq_true rfl) (fun b1 h => ?_) ?_
  · unfold m38_slices_Concat_k1 at h
    refine cseq ?_
    refine cregion ?_
    refine sv rfl (opv_mv rfl) ?_
    obtain ⟨v2, hv2, h⟩ := bind_eq h
    refine scallB (x' := .s (.one (.ls 0 v2.length))) (M' := [.arr 48 8 0 (v2.flatMap eGSsiTx)]) [] rfl fn59 (.func _) (opnds_cons rfl (opnds_cons rfl opnds_nil)) (m59_slices_Growo_c hv2) rfl rfl (by decide) rfl rfl rfl ?_
    refine sv rfl (opv_as rfl) ?_
    refine snil ?_
    refine cseq ?_
    refine cseq ?_
    refine cregion ?_
    refine sv rfl (opv_mv rfl) ?_
    refine sv rfl (opv_len_sl si108 rfl) ?_
    refine sv rfl (opv_mv rfl) ?_
    refine snil ?_
    refine cjoin ((List GSsiTx)) (fun b3 => [(6, .s (.one (.ls 0 b3.length)))]) (fun b3 => [.arr 48 8 0 (b3.flatMap eGSsiTx)]) (fun b3 => m38_slices_Concat_k3 b3 = some r) (fun _ _ => inbL_of rfl) (fun _ _ => blkinb_of rfl) (fun _ _ => Nat.le_of_ble_eq_true rfl) (fun b3 h => ?_) ?_
    · unfold m38_slices_Concat_k3 at h
      refine cseq ?_
      refine cregion ?_
      refine sv rfl (opv_mv rfl) ?_
      refine sv rfl (opv_as rfl) ?_
      refine snil ?_
      refine cret ?_
      obtain rfl := Option.some.inj h
      refine ⟨Or.inr rfl, _, _, _, (resVs_cons (ResV.tmp _ _ rfl) resVs_nil), (by (repeat' first | exact PubA.nil _ | apply PubA.cons | apply PubV.one | apply PubV.agg | exact PubL.nil | exact PubL.ls _ _ _ _ _ _ rfl (flat_len (f := eGSsiTx) (fun _ => rfl) _).symm | exact PubL.id _ rfl | exact PubLs.nil _ | apply PubLs.cons)), ?_⟩
      rfl
    · skip
      refine cblock ?_
      obtain ⟨x4, hx4, ho4⟩ := bind_eq h
      refine awc_loop (G := Nat × (Int × (List GSsiTx))) (fun g => [(6, .s (.one (.ls 0 g.2.2.length))), (25, .s (.one (.sl a0.length (a0.flatMap (eL eGSsiTx))))), (26, .s (.one (.i .i64 (a0.length : Int)))), (27, .s (.one (.i .i64 g.2.1)))]) (fun g => [.arr 48 8 0 (g.2.2.flatMap eGSsiTx)]) (fun g => iterB (m38_slices_Concat_s4 a0) g.1 g.2 = some x4) (fun g => g.1) (fuel, (0, v2)) hx4 ⟨rfl, rfl, rfl, rfl, trivial⟩ [] rfl (fun _ _ => inbL_of rfl) (fun _ _ => blkinb_of rfl) (fun _ _ => Nat.le_of_ble_eq_true rfl) ?_
      clear hx4 h
      rintro ⟨n4, s4⟩ h
      obtain ⟨n4, y4, rfl, h, hk4⟩ := iterB_eq h
      unfold m38_slices_Concat_s4 at h
      refine cseq ?_
      refine cregion ?_
      refine sv rfl (opv_lss rfl rfl) ?_
      refine snil ?_
      refine cseq ?_
      refine ccond rfl (fun hc => ?_) (fun hc => ?_)
      · replace h := ite_t hc h
        clear hc
        refine cskip ?_
        refine then_normal ?_
        refine cseq ?_
        refine cblock ?_
        refine cseq ?_
        refine cregion ?_
        obtain ⟨u5, hu5, h⟩ := bind_eq h
        refine sv rfl (opv_ix (f := (eL eGSsiTx)) si108 (fun _ => rfl) rfl rfl rfl rfl hu5) ?_
        refine sv rfl (opv_load1 ti26 rfl (.cp _) rfl) ?_
        refine sv rfl (opv_as rfl) ?_
        refine snil ?_
        refine cregion ?_
        refine sv rfl (opv_mv rfl) ?_
        refine sv rfl (opv_mv rfl) ?_
        obtain ⟨hb6, h⟩ := chk_eq h
        refine sapp (f := eGSsiTx) (xs := s4.2) (us := u5) rfl Try.underlying26 ei48 ni26 (fun _ => rfl) rfl rfl (.one _ _ _ _ (.id _ rfl)) rfl rfl rfl (.sl _ _ _ (flat_len (f := eGSsiTx) (fun _ => rfl) _)) rfl rfl hb6 (by decide) ?_
        refine sv rfl (opv_as rfl) ?_
        refine snil0 ?_
        refine block_normal ?_
        refine then_normal ?_
        refine cregion ?_
        refine sv rfl (opv_add rfl rfl) ?_
        refine sv rfl (opv_mv rfl) ?_
        refine snil ?_
        obtain rfl := Option.some.inj h
        exact ⟨(n4, ((wI (s4.1 + 1)), (s4.2 ++ u5))), _, hk4, ⟨rfl, rfl, rfl, rfl, trivial⟩, rfl, Nat.lt_succ_self _⟩
      · replace h := ite_f hc h
        clear hc
        refine cexit ?_
        refine then_exit ?_
        refine then_exit ?_
        refine block_hit ?_
        refine then_normal ?_
        obtain rfl := Option.some.inj h
        obtain rfl : _ = x4 := hk4
        exact ⟨s4.2, _, ho4, ⟨rfl, trivial⟩, rfl⟩
  · skip
    refine cblock ?_
    obtain ⟨x8, hx8, ho8⟩ := bind_eq h
    refine awc_loop (G := Nat × (Int × Int)) (fun g => [(0, .s (.one (.sl a0.length (a0.flatMap (eL eGSsiTx))))), (3, .s (.one (.i .i64 g.2.1))), (9, .s (.one (.sl a0.length (a0.flatMap (eL eGSsiTx))))), (10, .s (.one (.i .i64 (a0.length : Int)))), (11, .s (.one (.i .i64 g.2.2)))]) (fun g => []) (fun g => iterB (m38_slices_Concat_s8 a0) g.1 g.2 = some x8) (fun g => g.1) (fuel, (0, 0)) hx8 ⟨rfl, rfl, rfl, rfl, rfl, trivial⟩ [] rfl (fun _ _ => inbL_of rfl) (fun _ _ => blkinb_of rfl) (fun _ _ => Nat.le_of_ble_eq_true rfl) ?_
    clear hx8 h
    rintro ⟨n8, s8⟩ h
    obtain ⟨n8, y8, rfl, h, hk8⟩ := iterB_eq h
    unfold m38_slices_Concat_s8 at h
    refine cseq ?_
    refine cregion ?_
    refine sv rfl (opv_lss rfl rfl) ?_
    refine snil ?_
    refine cseq ?_
    refine ccond rfl (fun hc => ?_) (fun hc => ?_)
    · replace h := ite_t hc h
      clear hc
      refine cskip ?_
      refine then_normal ?_
      refine cseq ?_
      refine cblock ?_
      refine cseq ?_
      refine cregion ?_
      obtain ⟨u9, hu9, h⟩ := bind_eq h
      refine sv rfl (opv_ix (f := (eL eGSsiTx)) si108 (fun _ => rfl) rfl rfl rfl rfl hu9) ?_
      refine sv rfl (opv_load1 ti26 rfl (.cp _) rfl) ?_
      refine sv rfl (opv_as rfl) ?_
      refine snil ?_
      refine cseq ?_
      refine cregion ?_
      refine sv rfl (opv_mv rfl) ?_
      refine sv rfl (opv_mv rfl) ?_
      refine sv rfl (opv_len_sl si26 rfl) ?_
      refine sv rfl (opv_add rfl rfl) ?_
      refine sv rfl (opv_as rfl) ?_
      refine snil ?_
      refine cseq ?_
      refine cregion ?_
      refine sv rfl (opv_mv rfl) ?_
      refine sv rfl (opv_lss rfl rfl) ?_
      refine snil ?_
      refine ccond rfl (fun hc => ?_) (fun hc => ?_)
      · replace h := ite_t hc h
        clear hc
        cases h
      · replace h := ite_f hc h
        clear hc
        refine cskip ?_
        refine block_normal ?_
        refine then_normal ?_
        refine cregion ?_
        refine sv rfl (opv_add rfl rfl) ?_
        refine sv rfl (opv_mv rfl) ?_
        refine snil ?_
        obtain rfl := Option.some.inj h
        exact ⟨(n8, ((wI (s8.1 + (u9.length : Int))), (wI (s8.2 + 1)))), _, hk8, ⟨rfl, rfl, rfl, rfl, rfl, trivial⟩, rfl, Nat.lt_succ_self _⟩
    · replace h := ite_f hc h
      clear hc
      refine cexit ?_
      refine then_exit ?_
      refine then_exit ?_
      refine block_hit ?_
      refine then_normal ?_
      obtain rfl := Option.some.inj h
      obtain rfl : _ = x8 := hk8
      exact ⟨s8.1, _, ho8, ⟨rfl, rfl, trivial⟩, rfl⟩

def m17_ssi_Begin (a0 : GSsiCert) (a1 : Int) (a2 : Int) (a3 : Bool) : Option (GSsiCert × Int) :=
  (m13_ssi_Sane (GSsiCert.mk a0.Txs (GReadsTable.mk a0.Reads.L))).bind fun v1 => if (!v1) then (some ((GSsiCert.mk ([] : List GSsiTx) (GReadsTable.mk ([] : List GReadsRead))), 1)) else ((m30_ssi_saneTx (GSsiTx.mk a1 a2 0 1 false false a3 ([] : List (List UInt8)))).bind fun v2 => if (!v2) then (some ((GSsiCert.mk ([] : List GSsiTx) (GReadsTable.mk ([] : List GReadsRead))), 1)) else ((m37_ssi_place (GSsiCert.mk a0.Txs (GReadsTable.mk a0.Reads.L)) a1).bind fun v3 => if (decide (0 ≤ v3)) then (some ((GSsiCert.mk ([] : List GSsiTx) (GReadsTable.mk ([] : List GReadsRead))), 7)) else (if (decide (64 ≤ (a0.Txs.length : Int))) then (some ((GSsiCert.mk ([] : List GSsiTx) (GReadsTable.mk ([] : List GReadsRead))), 8)) else ((m38_slices_Concat ([a0.Txs, ([(GSsiTx.mk a1 a2 0 1 false false a3 ([] : List (List UInt8)))] : List GSsiTx)] : List (List GSsiTx))).bind fun v4 => some ((GSsiCert.mk v4 (GReadsTable.mk a0.Reads.L)), 0)))))

set_option maxRecDepth 100000 in
theorem m17_ssi_Begin_c {a0 : GSsiCert} {a1 : Int} {a2 : Int} {a3 : Bool} {r : GSsiCert × Int} (h : m17_ssi_Begin a0 a1 a2 a3 = some r) : CallsA Try.prog 17 [.agg a0, .one (.i .i64 a1), .one (.i .i64 a2), .one (.b a3)] (· = .tup [.agg r.1, .one (.i .i64 r.2)]) := by
  unfold m17_ssi_Begin at h
  refine callsA_of Try.func17 rfl (nt := 46) rfl (Nat.le_of_ble_eq_true rfl) ?_
  intro w0 S0
  refine cseq ?_
  refine cregion ?_
  refine sbox rfl rfl ?_
  refine salloc rfl zi31 ?_
  refine sv rfl (opv_as rfl) ?_
  refine snil ?_
  refine cseq ?_
  refine cregion ?_
  refine sv rfl (opv_mv rfl) ?_
  refine sv rfl (opv_mv rfl) ?_
  refine sv rfl (opv_mv rfl) ?_
  refine sv rfl (opv_build zi48 pi48 (parts_cons rfl (parts_cons rfl (parts_cons rfl (parts_cons rfl parts_nil)))) (.cons _ _ _ _ _ _ _ rfl rfl (Nat.le_of_ble_eq_true rfl) (.cons _ _ _ _ _ _ _ rfl rfl (Nat.le_of_ble_eq_true rfl) (.cons _ _ _ _ _ _ _ rfl rfl (Nat.le_of_ble_eq_true rfl) (.cons _ _ _ _ _ _ _ rfl rfl (Nat.le_of_ble_eq_true rfl) (.nil _)))))) ?_
  refine salloc rfl zi48 ?_
  refine sstore sz48 rfl rfl rfl rfl (Nat.le_of_ble_eq_true rfl) ?_
  refine smem [.box a0, .box [.raw (.slice none 0 0), .raw (.slice none 0 0)], .box [.i .i64 a1, .i .i64 a2, .i .i64 0, .i .i64 1, .b false, .b false, .b a3, .raw (.slice none 0 0)]] rfl ?_
  refine snil ?_
  refine cseq ?_
  refine cblock ?_
  refine cseq ?_
  refine cregion ?_
  refine sv rfl (opv_loadN ti31 rfl (.lp _ _ _ rfl) (Nat.le_of_ble_eq_true rfl)) ?_
  obtain ⟨v1, hv1, h⟩ := bind_eq h
  refine scall1 rfl fn13 (opnds_cons rfl opnds_nil) (pubA_id rfl) (m13_ssi_Sane_c hv1) ?_
  refine sv rfl (opv_not rfl) ?_
  refine sv rfl (opv_mv rfl) ?_
  refine ssplit 19 rfl (fun hc => ?_) (fun hc => ?_)
  · replace h := ite_t hc h
    clear hc
    refine soff rfl rfl rfl rfl ?_
    refine soff rfl rfl rfl rfl ?_
    refine soff rfl rfl rfl rfl ?_
    refine sv rfl (opv_pick_t rfl rfl) ?_
    refine sv rfl (opv_as rfl) ?_
    refine snil ?_
    refine ccond rfl (fun _ => ?_) (fun hx => Bool.noConfusion hx)
    refine cseq ?_
    refine cregion ?_
    refine sv rfl (opv_build zi31 pi31 parts_nil (.nil _)) ?_
    refine sstore sz31 rfl rfl rfl rfl (Nat.le_of_ble_eq_true rfl) ?_
    refine smem [.box a0, .box [.raw (.slice none 0 0), .raw (.slice none 0 0)], .box [.i .i64 a1, .i .i64 a2, .i .i64 0, .i .i64 1, .b false, .b false, .b a3, .raw (.slice none 0 0)]] rfl ?_
    refine sv rfl (opv_as rfl) ?_
    refine snil ?_
    refine cret ?_
    refine block_ret ?_
    refine then_ret ?_
    obtain rfl := Option.some.inj h
    refine ⟨Or.inr rfl, _, _, _, (resVs_cons (ResV.agg _ _ _ _ _ ti31 rfl (.lp _ _ _ rfl) (Nat.le_of_ble_eq_true rfl)) (resVs_cons (ResV.tmp _ _ rfl) resVs_nil)), (pubC rfl), ?_⟩
    rfl
  · replace h := ite_f hc h
    clear hc
    refine son rfl rfl rfl ?_
    refine sv rfl (opv_loadN ti48 rfl (.lp _ _ _ rfl) (Nat.le_of_ble_eq_true rfl)) ?_
    refine son rfl rfl rfl ?_
    obtain ⟨v2, hv2, h⟩ := bind_eq h
    refine scall1 rfl fn30 (opnds_cons rfl opnds_nil) (pubC rfl) (m30_ssi_saneTx_c hv2) ?_
    refine son rfl rfl rfl ?_
    refine sv rfl (opv_not rfl) ?_
    refine sv rfl (opv_pick_f rfl rfl) ?_
    refine sv rfl (opv_as rfl) ?_
    refine snil ?_
    refine ccond rfl (fun hc => ?_) (fun hc => ?_)
    · replace h := ite_t hc h
      clear hc
      refine cseq ?_
      refine cregion ?_
      refine sv rfl (opv_build zi31 pi31 parts_nil (.nil _)) ?_
      refine sstore sz31 rfl rfl rfl rfl (Nat.le_of_ble_eq_true rfl) ?_
      refine smem [.box a0, .box [.raw (.slice none 0 0), .raw (.slice none 0 0)], .box [.i .i64 a1, .i .i64 a2, .i .i64 0, .i .i64 1, .b false, .b false, .b a3, .raw (.slice none 0 0)]] rfl ?_
      refine sv rfl (opv_as rfl) ?_
      refine snil ?_
      refine cret ?_
      refine block_ret ?_
      refine then_ret ?_
      obtain rfl := Option.some.inj h
      refine ⟨Or.inr rfl, _, _, _, (resVs_cons (ResV.agg _ _ _ _ _ ti31 rfl (.lp _ _ _ rfl) (Nat.le_of_ble_eq_true rfl)) (resVs_cons (ResV.tmp _ _ rfl) resVs_nil)), (pubC rfl), ?_⟩
      rfl
    · replace h := ite_f hc h
      clear hc
      refine cseq ?_
      refine cregion ?_
      refine sv rfl (opv_loadN ti31 rfl (.lp _ _ _ rfl) (Nat.le_of_ble_eq_true rfl)) ?_
      refine sv rfl (opv_mv rfl) ?_
      obtain ⟨v3, hv3, h⟩ := bind_eq h
      refine scall1 rfl fn37 (opnds_cons rfl (opnds_cons rfl opnds_nil)) (pubA_id rfl) (m37_ssi_place_c hv3) ?_
      refine sv rfl (opv_geq rfl rfl) ?_
      refine sv rfl (opv_as rfl) ?_
      refine snil ?_
      refine ccond rfl (fun hc => ?_) (fun hc => ?_)
      · replace h := ite_t hc h
        clear hc
        refine cseq ?_
        refine cregion ?_
        refine sv rfl (opv_build zi31 pi31 parts_nil (.nil _)) ?_
        refine sstore sz31 rfl rfl rfl rfl (Nat.le_of_ble_eq_true rfl) ?_
        refine smem [.box a0, .box [.raw (.slice none 0 0), .raw (.slice none 0 0)], .box [.i .i64 a1, .i .i64 a2, .i .i64 0, .i .i64 1, .b false, .b false, .b a3, .raw (.slice none 0 0)]] rfl ?_
        refine sv rfl (opv_as rfl) ?_
        refine snil ?_
        refine cret ?_
        refine block_ret ?_
        refine then_ret ?_
        obtain rfl := Option.some.inj h
        refine ⟨Or.inr rfl, _, _, _, (resVs_cons (ResV.agg _ _ _ _ _ ti31 rfl (.lp _ _ _ rfl) (Nat.le_of_ble_eq_true rfl)) (resVs_cons (ResV.tmp _ _ rfl) resVs_nil)), (pubC rfl), ?_⟩
        rfl
      · replace h := ite_f hc h
        clear hc
        refine cseq ?_
        refine cregion ?_
        refine sv rfl (opv_fieldAddr_lp fi31_0 rfl) ?_
        refine sv rfl (opv_load1 ti26 rfl (.lp _ _ _ rfl) rfl) ?_
        refine sv rfl (opv_len_sl si26 rfl) ?_
        refine sv rfl (opv_geq rfl rfl) ?_
        refine sv rfl (opv_as rfl) ?_
        refine snil ?_
        refine ccond rfl (fun hc => ?_) (fun hc => ?_)
        · replace h := ite_t hc h
          clear hc
          refine cseq ?_
          refine cregion ?_
          refine sv rfl (opv_build zi31 pi31 parts_nil (.nil _)) ?_
          refine sstore sz31 rfl rfl rfl rfl (Nat.le_of_ble_eq_true rfl) ?_
          refine smem [.box a0, .box [.raw (.slice none 0 0), .raw (.slice none 0 0)], .box [.i .i64 a1, .i .i64 a2, .i .i64 0, .i .i64 1, .b false, .b false, .b a3, .raw (.slice none 0 0)]] rfl ?_
          refine sv rfl (opv_as rfl) ?_
          refine snil ?_
          refine cret ?_
          refine block_ret ?_
          refine then_ret ?_
          obtain rfl := Option.some.inj h
          refine ⟨Or.inr rfl, _, _, _, (resVs_cons (ResV.agg _ _ _ _ _ ti31 rfl (.lp _ _ _ rfl) (Nat.le_of_ble_eq_true rfl)) (resVs_cons (ResV.tmp _ _ rfl) resVs_nil)), (pubC rfl), ?_⟩
          rfl
        · replace h := ite_f hc h
          clear hc
          refine cskip ?_
          refine block_normal ?_
          refine then_normal ?_
          refine cseq ?_
          obtain ⟨v4, hv4, h⟩ := bind_eq h
          refine cdraw_e [9] [0, 1, 0, 4, 15, 31, 0, 64, 255, 511, 1023] [[.box a0, .box [.raw (.slice none 0 0), .raw (.slice none 0 0)], .box [.i .i64 a1, .i .i64 a2, .i .i64 0, .i .i64 1, .b false, .b false, .b a3, .raw (.slice none 0 0)]], [.box a0, .box [.sl v4.length (v4.flatMap eGSsiTx), .sl a0.Reads.L.length (a0.Reads.L.flatMap eGReadsRead)], .box [.i .i64 a1, .i .i64 a2, .i .i64 0, .i .i64 1, .b false, .b false, .b a3, .raw (.slice none 0 0)]]] (by kernel_rfl) mixed (by kernel_rfl) (by decide) rfl rfl rfl rfl ?_
          refine ev (sees_at 0 rfl rfl) rfl rfl (opv_fieldAddr_lp fi31_0 rfl) ?_
          refine ev (sees_at 0 rfl rfl) rfl rfl (opv_load1 ti26 rfl (.lp _ _ _ rfl) rfl) ?_
          refine ev (sees_at 0 rfl rfl) rfl rfl (opv_loadN ti48 rfl (.lp _ _ _ rfl) (Nat.le_of_ble_eq_true rfl)) ?_
          refine ed (sees_at 0 rfl rfl) rfl rfl (opD_bldc (out' := ([(GSsiTx.mk a1 a2 0 1 false false a3 ([] : List (List UInt8)))] : List GSsiTx).flatMap eGSsiTx) Try.underlying26 ei48 (parts_cons rfl parts_nil) (.cons _ _ _ _ _ _ _ rfl rfl (Nat.le_of_ble_eq_true rfl) (.nil _)) rfl (by decide) rfl) ?_
          refine ed (sees_at 0 rfl rfl) rfl rfl (opD_bld (out := ([a0.Txs, ([(GSsiTx.mk a1 a2 0 1 false false a3 ([] : List (List UInt8)))] : List GSsiTx)] : List (List GSsiTx)).flatMap (eL eGSsiTx)) Try.underlying108 ei26 (parts_cons rfl (parts_cons rfl parts_nil)) (.cons _ _ _ _ _ _ _ rfl rfl (Nat.le_of_ble_eq_true rfl) (.cons _ _ _ _ _ _ _ rfl rfl (Nat.le_of_ble_eq_true rfl) (.nil _))) rfl (by decide)) ?_
          refine ed (sees_at 0 rfl rfl) rfl rfl (opD_call fn38 (opnds_cons rfl opnds_nil) rfl (m38_slices_Concat_c hv4)) ?_
          refine ev (sees_at 0 rfl rfl) rfl rfl (opv_fieldAddr_lp fi31_1 rfl) ?_
          refine ev (sees_at 0 rfl rfl) rfl rfl (opv_loadN ti29 rfl (.lp _ _ _ rfl) (Nat.le_of_ble_eq_true rfl)) ?_
          refine ev (sees_at 0 rfl rfl) rfl rfl (opv_build zi31 pi31 (parts_cons rfl (parts_cons rfl parts_nil)) (.cons _ _ _ _ _ _ _ rfl rfl (Nat.le_of_ble_eq_true rfl) (.cons _ _ _ _ _ _ _ rfl rfl (Nat.le_of_ble_eq_true rfl) (.nil _)))) ?_
          refine ee0 0 rfl rfl rfl rfl (fun ζ => ?_) ?_
          · refine sstore sz31 rfl rfl rfl rfl (Nat.le_of_ble_eq_true rfl) ?_
            refine smem [.box a0, .box [.sl v4.length (v4.flatMap eGSsiTx), .sl a0.Reads.L.length (a0.Reads.L.flatMap eGReadsRead)], .box [.i .i64 a1, .i .i64 a2, .i .i64 0, .i .i64 1, .b false, .b false, .b a3, .raw (.slice none 0 0)]] rfl ?_
            exact eend
          refine ev (sees_at 1 rfl rfl) rfl rfl (opv_as rfl) ?_
          refine enil ?_
          refine then_normal ?_
          refine cret ?_
          obtain rfl := Option.some.inj h
          refine ⟨Or.inr rfl, _, _, _, (resVs_cons (ResV.agg _ _ _ _ _ ti31 rfl (.lp _ _ _ rfl) (Nat.le_of_ble_eq_true rfl)) (resVs_cons (ResV.tmp _ _ rfl) resVs_nil)), (pubA_id rfl), ?_⟩
          rfl

def m51_r06_One (a0 : List UInt8) : Option GApiRange :=
  if (([] : List UInt8).length + a0.length) * 1 ≤ 140737488355328 then (if ((([] : List UInt8) ++ a0).length + [(UInt8.ofBitVec (0#8))].length) * 1 ≤ 140737488355328 then (some (GApiRange.mk a0 ((([] : List UInt8) ++ a0) ++ [(UInt8.ofBitVec (0#8))]) false)) else none) else none

set_option maxRecDepth 100000 in
theorem m51_r06_One_c {a0 : List UInt8} {r : GApiRange} (h : m51_r06_One a0 = some r) : CallsA Try.prog 51 [.one (.sl a0.length (a0.flatMap eU8))] (· = .s (.agg r)) := by
  unfold m51_r06_One at h
  refine callsA_of Try.func51 rfl (nt := 13) rfl (Nat.le_of_ble_eq_true rfl) ?_
  intro w0 S0
  refine cseq ?_
  refine cregion ?_
  refine salloc rfl zi40 ?_
  refine snil ?_
  refine cseq ?_
  refine cregion ?_
  refine sbuild0 rfl Try.underlying38 ei5 ?_
  refine sv rfl (opv_mv rfl) ?_
  obtain ⟨hb1, h⟩ := chk_eq h
  refine sapp (f := eU8) (xs := ([] : List UInt8)) (us := a0) rfl Try.underlying38 ei5 ni38 (fun _ => rfl) rfl rfl (.one _ _ _ _ (.id _ rfl)) rfl rfl rfl (.sl _ _ _ (flat_len (f := eU8) (fun _ => rfl) _)) rfl rfl hb1 (by decide) ?_
  refine sv rfl (opv_as rfl) ?_
  refine snil ?_
  refine cseq ?_
  refine cregion ?_
  refine sv rfl (opv_mv rfl) ?_
  refine sbuild1 rfl Try.underlying38 ei5 rfl rfl (List.all_eq_true.1 rfl) (by decide) ?_
  refine smem [.box [.raw (.slice none 0 0), .raw (.slice none 0 0), .b false], .arr 5 1 0 ((([] : List UInt8) ++ a0).flatMap eU8), .arr 5 1 0 ([(UInt8.ofBitVec (0#8))].flatMap eU8)] rfl ?_
  obtain ⟨hb2, h⟩ := chk_eq h
  refine sapp (f := eU8) (xs := (([] : List UInt8) ++ a0)) (us := [(UInt8.ofBitVec (0#8))]) rfl Try.underlying38 ei5 ni38 (fun _ => rfl) rfl rfl (.one _ _ _ _ (.ls _ _ _ _ _ _ rfl (flat_len (f := eU8) (fun _ => rfl) [(UInt8.ofBitVec (0#8))]).symm)) rfl rfl rfl (.sl _ _ _ (flat_len (f := eU8) (fun _ => rfl) _)) rfl rfl hb2 (by decide) ?_
  refine sv rfl (opv_as rfl) ?_
  refine snil ?_
  refine cseq ?_
  refine cregion ?_
  refine sv rfl (opv_mv rfl) ?_
  refine sv rfl (opv_mv rfl) ?_
  refine sv rfl (opv_build zi40 pi40 (parts_cons rfl (parts_cons rfl parts_nil)) (.cons _ _ _ _ _ _ _ rfl rfl (Nat.le_of_ble_eq_true rfl) (.cons _ _ _ _ _ _ _ rfl rfl (Nat.le_of_ble_eq_true rfl) (.nil _)))) ?_
  refine sstore sz40 rfl rfl rfl rfl (Nat.le_of_ble_eq_true rfl) ?_
  refine smem [.box [.sl a0.length (a0.flatMap eU8), .ls 1 ((([] : List UInt8) ++ a0) ++ [(UInt8.ofBitVec (0#8))]).length, .b false], .arr 5 1 0 (((([] : List UInt8) ++ a0) ++ [(UInt8.ofBitVec (0#8))]).flatMap eU8), .arr 5 1 ([(UInt8.ofBitVec (0#8))].flatMap eU8).length ([(UInt8.ofBitVec (0#8))].flatMap eU8)] rfl ?_
  refine snil ?_
  refine cret ?_
  obtain rfl := Option.some.inj h
  refine ⟨Or.inr rfl, _, _, _, (resVs_cons (ResV.agg _ _ _ _ _ ti40 rfl (.lp _ _ _ rfl) (Nat.le_of_ble_eq_true rfl)) resVs_nil), (by (repeat' first | exact PubA.nil _ | apply PubA.cons | apply PubV.one | apply PubV.agg | exact PubL.nil | exact PubL.ls _ _ _ _ _ _ rfl (flat_len (f := eU8) (fun _ => rfl) _).symm | exact PubL.id _ rfl | exact PubLs.nil _ | apply PubLs.cons)), ?_⟩
  rfl

def m28_l11_key (a0 : List UInt8) : Option GApiRange :=
  if a0.length ≤ 140737488355328 then ((m51_r06_One a0).bind fun v2 => some v2) else none

set_option maxRecDepth 100000 in
theorem m28_l11_key_c {a0 : List UInt8} {r : GApiRange} (h : m28_l11_key a0 = some r) : CallsA Try.prog 28 [.one (.s ⟨a0.toArray⟩)] (· = .s (.agg r)) := by
  unfold m28_l11_key at h
  refine callsA_of Try.func28 rfl (nt := 6) rfl (Nat.le_of_ble_eq_true rfl) ?_
  intro w0 S0
  refine cseq ?_
  refine cregion ?_
  refine salloc rfl zi40 ?_
  refine snil ?_
  refine cseq ?_
  refine cregion ?_
  refine sv rfl (opv_mv rfl) ?_
  obtain ⟨hm1, h⟩ := chk_eq h
  refine sd rfl (opD_sb (l := a0) Try.underlying9 Try.underlying38 Try.underlying5 rfl hm1) ?_
  obtain ⟨v2, hv2, h⟩ := bind_eq h
  refine scall1 rfl fn51 (opnds_cons rfl opnds_nil) (pubA_id rfl) (m51_r06_One_c hv2) ?_
  refine sstore sz40 rfl rfl rfl rfl (Nat.le_of_ble_eq_true rfl) ?_
  refine smem [.box v2] rfl ?_
  refine snil ?_
  refine cret ?_
  obtain rfl := Option.some.inj h
  refine ⟨Or.inr rfl, _, _, _, (resVs_cons (ResV.agg _ _ _ _ _ ti40 rfl (.lp _ _ _ rfl) (Nat.le_of_ble_eq_true rfl)) resVs_nil), (pubA_id rfl), ?_⟩
  rfl

def m35_ssi_active (a0 : GSsiCert) (a1 : Int) : Option Int :=
  (m37_ssi_place (GSsiCert.mk a0.Txs (GReadsTable.mk a0.Reads.L)) a1).bind fun v1 => if (decide (v1 < 0)) then (some (-1)) else ((idx a0.Txs v1).bind fun u2 => if (!decide (u2.State = 1)) then (some (-1)) else (some v1))

set_option maxRecDepth 100000 in
theorem m35_ssi_active_c {a0 : GSsiCert} {a1 : Int} {r : Int} (h : m35_ssi_active a0 a1 = some r) : CallsA Try.prog 35 [.agg a0, .one (.i .i64 a1)] (· = .s (.one (.i .i64 r))) := by
  unfold m35_ssi_active at h
  refine callsA_of Try.func35 rfl (nt := 21) rfl (Nat.le_of_ble_eq_true rfl) ?_
  intro w0 S0
  refine cseq ?_
  refine cregion ?_
  refine sbox rfl rfl ?_
  refine sv rfl (opv_as rfl) ?_
  refine snil ?_
  refine cseq ?_
  refine cregion ?_
  refine sv rfl (opv_loadN ti31 rfl (.lp _ _ _ rfl) (Nat.le_of_ble_eq_true rfl)) ?_
  refine sv rfl (opv_mv rfl) ?_
  obtain ⟨v1, hv1, h⟩ := bind_eq h
  refine scall1 rfl fn37 (opnds_cons rfl (opnds_cons rfl opnds_nil)) (pubA_id rfl) (m37_ssi_place_c hv1) ?_
  refine sv rfl (opv_as rfl) ?_
  refine snil ?_
  refine cseq ?_
  refine cseq ?_
  refine cregion ?_
  refine sv rfl (opv_mv rfl) ?_
  refine sv rfl (opv_lss rfl rfl) ?_
  refine sv rfl (opv_mv rfl) ?_
  refine ssplit 11 rfl (fun hc => ?_) (fun hc => ?_)
  · replace h := ite_t hc h
    clear hc
    refine soff rfl rfl rfl rfl ?_
    refine soff rfl rfl rfl rfl ?_
    refine soff rfl rfl rfl rfl ?_
    refine soff rfl rfl rfl rfl ?_
    refine soff rfl rfl rfl rfl ?_
    refine soff rfl rfl rfl rfl ?_
    refine soff rfl rfl rfl rfl ?_
    refine sv rfl (opv_pick_t rfl rfl) ?_
    refine snil ?_
    refine ccond rfl (fun _ => ?_) (fun hx => Bool.noConfusion hx)
    refine cseq ?_
    refine cregion ?_
    refine sv rfl (opv_as rfl) ?_
    refine snil ?_
    refine cret ?_
    refine then_ret ?_
    obtain rfl := Option.some.inj h
    refine ⟨Or.inr rfl, _, _, _, (resVs_cons (ResV.tmp _ _ rfl) resVs_nil), (pubA_id rfl), ?_⟩
    rfl
  · replace h := ite_f hc h
    clear hc
    refine son rfl rfl rfl ?_
    refine sv rfl (opv_fieldAddr_lp fi31_0 rfl) ?_
    refine son rfl rfl rfl ?_
    refine sv rfl (opv_load1 ti26 rfl (.lp _ _ _ rfl) rfl) ?_
    refine son rfl rfl rfl ?_
    refine sv rfl (opv_mv rfl) ?_
    refine son rfl rfl rfl ?_
    obtain ⟨u2, hu2, h⟩ := bind_eq h
    refine sv rfl (opv_ix (f := eGSsiTx) si26 (fun _ => rfl) rfl rfl rfl rfl hu2) ?_
    refine son rfl rfl rfl ?_
    refine sv rfl (opv_fieldAddr_cp fi48_3 rfl) ?_
    refine son rfl rfl rfl ?_
    refine sv rfl (opv_load1 ti3 rfl (.cp _) rfl) ?_
    refine son rfl rfl rfl ?_
    refine sv rfl (opv_ineq rfl rfl) ?_
    refine sv rfl (opv_pick_f rfl rfl) ?_
    refine snil ?_
    refine ccond rfl (fun hc => ?_) (fun hc => ?_)
    · replace h := ite_t hc h
      clear hc
      refine cseq ?_
      refine cregion ?_
      refine sv rfl (opv_as rfl) ?_
      refine snil ?_
      refine cret ?_
      refine then_ret ?_
      obtain rfl := Option.some.inj h
      refine ⟨Or.inr rfl, _, _, _, (resVs_cons (ResV.tmp _ _ rfl) resVs_nil), (pubA_id rfl), ?_⟩
      rfl
    · replace h := ite_f hc h
      clear hc
      refine cskip ?_
      refine then_normal ?_
      refine cseq ?_
      refine cregion ?_
      refine sv rfl (opv_mv rfl) ?_
      refine sv rfl (opv_as rfl) ?_
      refine snil ?_
      refine cret ?_
      obtain rfl := Option.some.inj h
      refine ⟨Or.inr rfl, _, _, _, (resVs_cons (ResV.tmp _ _ rfl) resVs_nil), (pubA_id rfl), ?_⟩
      rfl

def m73_slices_Growo_k1 (a0 : Int) (b1 : Unit) : Option (List GReadsRead) :=
  if (decide (0 < (wI (a0 - (wI (0 - 0)))))) then (if 0 < (wI (a0 - (wI (0 - 0)))) ∧ (wI (a0 - (wI (0 - 0)))) * ((64 : Nat) : Int) ≤ 281474976710656 then (if (0 : Int) ≤ 0 ∧ 0 ≤ ((List.replicate (wI (a0 - (wI (0 - 0)))).toNat (GReadsRead.mk 0 (GApiRange.mk ([] : List UInt8) ([] : List UInt8) false))).length : Int) then (some ((List.replicate (wI (a0 - (wI (0 - 0)))).toNat (GReadsRead.mk 0 (GApiRange.mk ([] : List UInt8) ([] : List UInt8) false))).take (0 : Int).toNat)) else none) else none) else (some ([] : List GReadsRead))
def m73_slices_Growo (a0 : Int) : Option (List GReadsRead) :=
  if (decide (a0 < 0)) then none else (m73_slices_Growo_k1 a0 ())

set_option maxRecDepth 100000 in
theorem m73_slices_Growo_c {a0 : Int} {r : (List GReadsRead)} (h : m73_slices_Growo a0 = some r) : CallsB Try.prog 73 [] [.one (.raw (.slice none 0 0)), .one (.i .i64 a0)] (fun y m' => y = .s (.one (.ls 0 r.length)) ∧ m' = [.arr 72 4 0 (r.flatMap eGReadsRead)]) := by
  unfold m73_slices_Growo at h
  refine callsB_of Try.func73 rfl (nt := 27) rfl (Nat.le_of_ble_eq_true rfl) ?_
  intro w0 S0 X0 H0
  refine cseq ?_
  refine cregion ?_
  refine sv rfl (opv_as rfl) ?_
  refine snil ?_
  refine cseq ?_
  refine cseq ?_
  refine cregion ?_
  refine sv rfl (opv_mv rfl) ?_
  refine sv rfl (opv_lss rfl rfl) ?_
  refine snil ?_
  refine cjoin (Unit) (fun b1 => [(0, .s (.one (.raw (.slice none 0 0)))), (1, .s (.one (.i .i64 a0)))]) (fun b1 => []) (fun b1 => m73_slices_Growo_k1 a0 b1 = some r) (fun _ _ => inbL_of rfl) (fun _ _ => blkinb_of rfl) (fun _ _ => Nat.le_of_ble_eq_true rfl) (fun b1 h => ?_) ?_
  · unfold m73_slices_Growo_k1 at h
    refine cseq ?_
    refine cseq ?_
    refine cregion ?_
    refine sv rfl (opv_mv rfl) ?_
    refine sv rfl (opv_mv rfl) ?_
    refine sv rfl (opv_cap_nil si27 rfl) ?_
    refine sv rfl (opv_mv rfl) ?_
    refine sv rfl (opv_len_nil si27 rfl) ?_
    refine sv rfl (opv_sub rfl rfl) ?_
    refine sv rfl (opv_sub rfl rfl) ?_
    refine sv rfl (opv_as rfl) ?_
    refine snil ?_
    refine cseq ?_
    refine cregion ?_
    refine sv rfl (opv_mv rfl) ?_
    refine sv rfl (opv_gtr rfl rfl) ?_
    refine snil ?_
    refine ccond rfl (fun hc => ?_) (fun hc => ?_)
    · replace h := ite_t hc h
      clear hc
      refine cregion ?_
      refine sv rfl (opv_mv rfl) ?_
      refine sv rfl (opv_mv rfl) ?_
      refine sv rfl (opv_cap_nil si27 rfl) ?_
      refine sv rfl (opv_slice_nil si27 rfl rfl) ?_
      refine sv rfl (opv_mv rfl) ?_
      obtain ⟨hm2, h⟩ := chk_eq h
      refine sappzc (f := eGReadsRead) (z := (GReadsRead.mk 0 (GApiRange.mk ([] : List UInt8) ([] : List UInt8) false))) rfl Try.underlying27 ei72 Try.underlying3 (fun _ => rfl) rfl rfl rfl hm2 (by decide) ?_
      refine sv rfl (opv_mv rfl) ?_
      refine sv rfl (opv_len_nil si27 rfl) ?_
      obtain ⟨hs3, h⟩ := chk_eq h
      refine strunc (f := eGReadsRead) rfl si27 (fun _ => rfl) rfl rfl rfl rfl rfl hs3 ?_
      refine sv rfl (opv_as rfl) ?_
      refine snil ?_
      refine cseq ?_
      refine cregion ?_
      refine sv rfl (opv_mv rfl) ?_
      refine sv rfl (opv_as rfl) ?_
      refine snil ?_
      refine cret ?_
      obtain rfl := Option.some.inj h
      exact ⟨Or.inr rfl, _, [1], [.one (.ls 0 ((List.replicate (wI (a0 - (wI (0 - 0)))).toNat (GReadsRead.mk 0 (GApiRange.mk ([] : List UInt8) ([] : List UInt8) false))).take (0 : Int).toNat).length)], [.arr 72 4 0 (((List.replicate (wI (a0 - (wI (0 - 0)))).toNat (GReadsRead.mk 0 (GApiRange.mk ([] : List UInt8) ([] : List UInt8) false))).take (0 : Int).toNat).flatMap eGReadsRead)], (resVs_cons (ResV.tmp _ _ rfl) resVs_nil), rfl, rfl, ⟨by decide, rfl⟩, rfl, rfl, ⟨rfl, rfl⟩⟩
    · replace h := ite_f hc h
      clear hc
      refine cskip ?_
      refine then_normal ?_
      refine cseq ?_
      refine cregion ?_
      refine sv rfl (opv_mv rfl) ?_
      refine sv rfl (opv_as rfl) ?_
      refine snil ?_
      refine sadopt_c 72 4 4 (by decide) rfl ?_
      refine cret ?_
      obtain rfl := Option.some.inj h
      exact ⟨Or.inr rfl, _, [0], [.one (.ls 0 ([] : List GReadsRead).length)], [.arr 72 4 0 (([] : List GReadsRead).flatMap eGReadsRead)], (resVs_cons (ResV.tmp _ _ rfl) resVs_nil), rfl, rfl, ⟨by decide, rfl⟩, rfl, rfl, ⟨rfl, rfl⟩⟩
  · skip
    refine ccond rfl (fun hc => ?_) (fun hc => ?_)
    · replace h := ite_t hc h
      clear hc
      cases h
    · replace h := ite_f hc h
      clear hc
      refine cskip ?_
      refine then_normal ?_
      exact ⟨(), _, h, ⟨rfl, rfl, trivial⟩, rfl⟩

def m61_slices_Concato_k3 (b3 : (List GReadsRead)) : Option (List GReadsRead) :=
  some b3

def m61_slices_Concato_s4 (a0 : List (List GReadsRead)) (s4 : Int × (List GReadsRead)) : Option (LB (Int × (List GReadsRead)) ((List GReadsRead))) :=
  if (decide (s4.1 < (a0.length : Int))) then ((idx a0 s4.1).bind fun u5 => if (s4.2.length + u5.length) * 64 ≤ 140737488355328 then (some (.cont ((wI (s4.1 + 1)), (s4.2 ++ u5)))) else none) else (some (.brk s4.2))

def m61_slices_Concato_k1 (a0 : List (List GReadsRead)) (b1 : Int) : Option (List GReadsRead) :=
  (m73_slices_Growo b1).bind fun v2 => (iterB (m61_slices_Concato_s4 a0) fuel (0, v2)).bind fun e7 => m61_slices_Concato_k3 e7

def m61_slices_Concato_s8 (a0 : List (List GReadsRead)) (s8 : Int × Int) : Option (LB (Int × Int) (Int)) :=
  if (decide (s8.2 < (a0.length : Int))) then ((idx a0 s8.2).bind fun u9 => if (decide ((wI (s8.1 + (u9.length : Int))) < 0)) then none else (some (.cont ((wI (s8.1 + (u9.length : Int))), (wI (s8.2 + 1)))))) else (some (.brk s8.1))
def m61_slices_Concato (a0 : List (List GReadsRead)) : Option (List GReadsRead) :=
  (iterB (m61_slices_Concato_s8 a0) fuel (0, 0)).bind fun e10 => m61_slices_Concato_k1 a0 e10

set_option maxRecDepth 100000 in
theorem m61_slices_Concato_c {a0 : List (List GReadsRead)} {r : (List GReadsRead)} (h : m61_slices_Concato a0 = some r) : CallsB Try.prog 61 [] [.one (.sl a0.length (a0.flatMap (eL eGReadsRead)))] (fun y m' => y = .s (.one (.ls 0 r.length)) ∧ m' = [.arr 72 4 0 (r.flatMap eGReadsRead)]) := by
  unfold m61_slices_Concato at h
  refine callsB_of Try.func61 rfl (nt := 36) rfl (Nat.le_of_ble_eq_true rfl) ?_
  intro w0 S0 X0 H0
  refine cseq ?_
  refine cregion ?_
  refine sv rfl (opv_as rfl) ?_
  refine snil ?_
  refine cseq ?_
  refine cregion ?_
  refine sv rfl (opv_as rfl) ?_
  refine snil ?_
  refine cseq ?_
  refine cseq ?_
  refine cregion ?_
  refine sv rfl (opv_mv rfl) ?_
  refine sv rfl (opv_len_sl si119 rfl) ?_
  refine sv rfl (opv_mv rfl) ?_
  refine snil ?_
  refine cjoin (Int) (fun b1 => [(0, .s (.one (.sl a0.length (a0.flatMap (eL eGReadsRead))))), (3, .s (.one (.i .i64 b1)))]) (fun b1 => []) (fun b1 => m61_slices_Concato_k1 a0 b1 = some r) (fun _ _ => inbL_of rfl) (fun _ _ => blkinb_of rfl) (fun _ _ => Nat.le_of_ble_eq_true rfl) (fun b1 h => ?_) ?_
  · unfold m61_slices_Concato_k1 at h
    refine cseq ?_
    refine cregion ?_
    refine sv rfl (opv_mv rfl) ?_
    obtain ⟨v2, hv2, h⟩ := bind_eq h
    refine scallB (x' := .s (.one (.ls 0 v2.length))) (M' := [.arr 72 4 0 (v2.flatMap eGReadsRead)]) [] rfl fn73 (.func _) (opnds_cons rfl (opnds_cons rfl opnds_nil)) (m73_slices_Growo_c hv2) rfl rfl (by decide) rfl rfl rfl ?_
    refine sv rfl (opv_as rfl) ?_
    refine snil ?_
    refine cseq ?_
    refine cseq ?_
    refine cregion ?_
    refine sv rfl (opv_mv rfl) ?_
    refine sv rfl (opv_len_sl si119 rfl) ?_
    refine sv rfl (opv_mv rfl) ?_
    refine snil ?_
    refine cjoin ((List GReadsRead)) (fun b3 => [(6, .s (.one (.ls 0 b3.length)))]) (fun b3 => [.arr 72 4 0 (b3.flatMap eGReadsRead)]) (fun b3 => m61_slices_Concato_k3 b3 = some r) (fun _ _ => inbL_of rfl) (fun _ _ => blkinb_of rfl) (fun _ _ => Nat.le_of_ble_eq_true rfl) (fun b3 h => ?_) ?_
    · unfold m61_slices_Concato_k3 at h
      refine cseq ?_
      refine cregion ?_
      refine sv rfl (opv_mv rfl) ?_
      refine sv rfl (opv_as rfl) ?_
      refine snil ?_
      refine cret ?_
      obtain rfl := Option.some.inj h
      exact ⟨Or.inr rfl, _, [0], [.one (.ls 0 b3.length)], [.arr 72 4 0 (b3.flatMap eGReadsRead)], (resVs_cons (ResV.tmp _ _ rfl) resVs_nil), rfl, rfl, ⟨by decide, rfl⟩, rfl, rfl, ⟨rfl, rfl⟩⟩
    · skip
      refine cblock ?_
      obtain ⟨x4, hx4, ho4⟩ := bind_eq h
      refine awc_loop (G := Nat × (Int × (List GReadsRead))) (fun g => [(6, .s (.one (.ls 0 g.2.2.length))), (25, .s (.one (.sl a0.length (a0.flatMap (eL eGReadsRead))))), (26, .s (.one (.i .i64 (a0.length : Int)))), (27, .s (.one (.i .i64 g.2.1)))]) (fun g => [.arr 72 4 0 (g.2.2.flatMap eGReadsRead)]) (fun g => iterB (m61_slices_Concato_s4 a0) g.1 g.2 = some x4) (fun g => g.1) (fuel, (0, v2)) hx4 ⟨rfl, rfl, rfl, rfl, trivial⟩ [] rfl (fun _ _ => inbL_of rfl) (fun _ _ => blkinb_of rfl) (fun _ _ => Nat.le_of_ble_eq_true rfl) ?_
      clear hx4 h
      rintro ⟨n4, s4⟩ h
      obtain ⟨n4, y4, rfl, h, hk4⟩ := iterB_eq h
      unfold m61_slices_Concato_s4 at h
      refine cseq ?_
      refine cregion ?_
      refine sv rfl (opv_lss rfl rfl) ?_
      refine snil ?_
      refine cseq ?_
      refine ccond rfl (fun hc => ?_) (fun hc => ?_)
      · replace h := ite_t hc h
        clear hc
        refine cskip ?_
        refine then_normal ?_
        refine cseq ?_
        refine cblock ?_
        refine cseq ?_
        refine cregion ?_
        obtain ⟨u5, hu5, h⟩ := bind_eq h
        refine sv rfl (opv_ix (f := (eL eGReadsRead)) si119 (fun _ => rfl) rfl rfl rfl rfl hu5) ?_
        refine sv rfl (opv_load1 ti27 rfl (.cp _) rfl) ?_
        refine sv rfl (opv_as rfl) ?_
        refine snil ?_
        refine cregion ?_
        refine sv rfl (opv_mv rfl) ?_
        refine sv rfl (opv_mv rfl) ?_
        obtain ⟨hb6, h⟩ := chk_eq h
        refine sapp (f := eGReadsRead) (xs := s4.2) (us := u5) rfl Try.underlying27 ei72 ni27 (fun _ => rfl) rfl rfl (.one _ _ _ _ (.id _ rfl)) rfl rfl rfl (.sl _ _ _ (flat_len (f := eGReadsRead) (fun _ => rfl) _)) rfl rfl hb6 (by decide) ?_
        refine sv rfl (opv_as rfl) ?_
        refine snil0 ?_
        refine block_normal ?_
        refine then_normal ?_
        refine cregion ?_
        refine sv rfl (opv_add rfl rfl) ?_
        refine sv rfl (opv_mv rfl) ?_
        refine snil ?_
        obtain rfl := Option.some.inj h
        exact ⟨(n4, ((wI (s4.1 + 1)), (s4.2 ++ u5))), _, hk4, ⟨rfl, rfl, rfl, rfl, trivial⟩, rfl, Nat.lt_succ_self _⟩
      · replace h := ite_f hc h
        clear hc
        refine cexit ?_
        refine then_exit ?_
        refine then_exit ?_
        refine block_hit ?_
        refine then_normal ?_
        obtain rfl := Option.some.inj h
        obtain rfl : _ = x4 := hk4
        exact ⟨s4.2, _, ho4, ⟨rfl, trivial⟩, rfl⟩
  · skip
    refine cblock ?_
    obtain ⟨x8, hx8, ho8⟩ := bind_eq h
    refine awc_loop (G := Nat × (Int × Int)) (fun g => [(0, .s (.one (.sl a0.length (a0.flatMap (eL eGReadsRead))))), (3, .s (.one (.i .i64 g.2.1))), (9, .s (.one (.sl a0.length (a0.flatMap (eL eGReadsRead))))), (10, .s (.one (.i .i64 (a0.length : Int)))), (11, .s (.one (.i .i64 g.2.2)))]) (fun g => []) (fun g => iterB (m61_slices_Concato_s8 a0) g.1 g.2 = some x8) (fun g => g.1) (fuel, (0, 0)) hx8 ⟨rfl, rfl, rfl, rfl, rfl, trivial⟩ [] rfl (fun _ _ => inbL_of rfl) (fun _ _ => blkinb_of rfl) (fun _ _ => Nat.le_of_ble_eq_true rfl) ?_
    clear hx8 h
    rintro ⟨n8, s8⟩ h
    obtain ⟨n8, y8, rfl, h, hk8⟩ := iterB_eq h
    unfold m61_slices_Concato_s8 at h
    refine cseq ?_
    refine cregion ?_
    refine sv rfl (opv_lss rfl rfl) ?_
    refine snil ?_
    refine cseq ?_
    refine ccond rfl (fun hc => ?_) (fun hc => ?_)
    · replace h := ite_t hc h
      clear hc
      refine cskip ?_
      refine then_normal ?_
      refine cseq ?_
      refine cblock ?_
      refine cseq ?_
      refine cregion ?_
      obtain ⟨u9, hu9, h⟩ := bind_eq h
      refine sv rfl (opv_ix (f := (eL eGReadsRead)) si119 (fun _ => rfl) rfl rfl rfl rfl hu9) ?_
      refine sv rfl (opv_load1 ti27 rfl (.cp _) rfl) ?_
      refine sv rfl (opv_as rfl) ?_
      refine snil ?_
      refine cseq ?_
      refine cregion ?_
      refine sv rfl (opv_mv rfl) ?_
      refine sv rfl (opv_mv rfl) ?_
      refine sv rfl (opv_len_sl si27 rfl) ?_
      refine sv rfl (opv_add rfl rfl) ?_
      refine sv rfl (opv_as rfl) ?_
      refine snil ?_
      refine cseq ?_
      refine cregion ?_
      refine sv rfl (opv_mv rfl) ?_
      refine sv rfl (opv_lss rfl rfl) ?_
      refine snil ?_
      refine ccond rfl (fun hc => ?_) (fun hc => ?_)
      · replace h := ite_t hc h
        clear hc
        cases h
      · replace h := ite_f hc h
        clear hc
        refine cskip ?_
        refine block_normal ?_
        refine then_normal ?_
        refine cregion ?_
        refine sv rfl (opv_add rfl rfl) ?_
        refine sv rfl (opv_mv rfl) ?_
        refine snil ?_
        obtain rfl := Option.some.inj h
        exact ⟨(n8, ((wI (s8.1 + (u9.length : Int))), (wI (s8.2 + 1)))), _, hk8, ⟨rfl, rfl, rfl, rfl, rfl, trivial⟩, rfl, Nat.lt_succ_self _⟩
    · replace h := ite_f hc h
      clear hc
      refine cexit ?_
      refine then_exit ?_
      refine then_exit ?_
      refine block_hit ?_
      refine then_normal ?_
      obtain rfl := Option.some.inj h
      obtain rfl : _ = x8 := hk8
      exact ⟨s8.1, _, ho8, ⟨rfl, rfl, trivial⟩, rfl⟩

def m39_reads_Add_k1 (a0 : GReadsTable) (a1 : Int) (a2 : GApiRange) (b1 : Unit) : Option (GReadsTable × Int) :=
  (m53_reads_indexs a0.L).bind fun v2 => (m60_reads_knownOf (GReadsRead.mk a1 a2)).bind fun v3 => if (ixHas v2 v3) then (some ((GReadsTable.mk a0.L), 0)) else (if (decide (128 ≤ (a0.L.length : Int))) then (some ((GReadsTable.mk ([] : List GReadsRead)), 8)) else ((m61_slices_Concato [a0.L, [(GReadsRead.mk a1 a2)]]).bind fun v4 => some ((GReadsTable.mk v4), 0)))
def m39_reads_Add (a0 : GReadsTable) (a1 : Int) (a2 : GApiRange) : Option (GReadsTable × Int) :=
  (m29_reads_Sane (GReadsTable.mk a0.L)).bind fun v5 => if (!v5) then (some ((GReadsTable.mk ([] : List GReadsRead)), 1)) else ((m52_reads_saneRead (GReadsRead.mk a1 a2)).bind fun v6 => if (!v6) then (some ((GReadsTable.mk ([] : List GReadsRead)), 1)) else (m39_reads_Add_k1 a0 a1 a2 ()))

set_option maxRecDepth 100000 in
theorem m39_reads_Add_c {a0 : GReadsTable} {a1 : Int} {a2 : GApiRange} {r : GReadsTable × Int} (h : m39_reads_Add a0 a1 a2 = some r) : CallsA Try.prog 39 [.agg [.sl a0.L.length (a0.L.flatMap eGReadsRead)], .one (.i .i64 a1), .agg a2] (· = .tup [.agg [.sl r.1.L.length (r.1.L.flatMap eGReadsRead)], .one (.i .i64 r.2)]) := by
  unfold m39_reads_Add at h
  refine callsA_of Try.func39 rfl (nt := 46) rfl (Nat.le_of_ble_eq_true rfl) ?_
  intro w0 S0
  refine cseq ?_
  refine cregion ?_
  refine sbox rfl rfl ?_
  refine sbox rfl rfl ?_
  refine salloc rfl zi29 ?_
  refine sv rfl (opv_as rfl) ?_
  refine snil ?_
  refine cseq ?_
  refine cregion ?_
  refine sv rfl (opv_mv rfl) ?_
  refine sv rfl (opv_loadN ti40 rfl (.lp _ _ _ rfl) (Nat.le_of_ble_eq_true rfl)) ?_
  refine sv rfl (opv_build zi72 pi72 (parts_cons rfl (parts_cons rfl parts_nil)) (.cons _ _ _ _ _ _ _ rfl rfl (Nat.le_of_ble_eq_true rfl) (.cons _ _ _ _ _ _ _ rfl rfl (Nat.le_of_ble_eq_true rfl) (.nil _)))) ?_
  refine salloc rfl zi72 ?_
  refine sstore sz72 rfl rfl rfl rfl (Nat.le_of_ble_eq_true rfl) ?_
  refine smem [.box [.sl a0.L.length (a0.L.flatMap eGReadsRead)], .box a2, .box [.raw (.slice none 0 0)], .box [.i .i64 a1, .sl a2.Lo.length (a2.Lo.flatMap eU8), .sl a2.Hi.length (a2.Hi.flatMap eU8), .b a2.Open]] rfl ?_
  refine snil ?_
  refine cseq ?_
  refine cseq ?_
  refine cjoin3 (Unit) (fun b1 => [(3, .s (.one (.lp 0 0))), (6, .s (.one (.lp 2 0))), (8, .s (.one (.lp 3 0)))]) (fun b1 => [.box [.sl a0.L.length (a0.L.flatMap eGReadsRead)], .box a2, .box [.raw (.slice none 0 0)], .box [.i .i64 a1, .sl a2.Lo.length (a2.Lo.flatMap eU8), .sl a2.Hi.length (a2.Hi.flatMap eU8), .b a2.Open]]) (fun b1 => m39_reads_Add_k1 a0 a1 a2 b1 = some r) (fun _ _ => inbL_of rfl) (fun _ _ => blkinb_of rfl) (fun _ _ => Nat.le_of_ble_eq_true rfl) (fun b1 h => ?_) ?_
  · unfold m39_reads_Add_k1 at h
    refine cseq ?_
    refine cseq ?_
    refine chole ?_
    obtain ⟨v2, hv2, h⟩ := bind_eq h
    obtain ⟨v3, hv3, h⟩ := bind_eq h
    refine cdraw_e [2] [0, 1, 3, 0, 15, 31, 63, 127, 127, 255, 1023] [[.box [.sl a0.L.length (a0.L.flatMap eGReadsRead)], .box a2, .box [.raw (.slice none 0 0)], .box [.i .i64 a1, .sl a2.Lo.length (a2.Lo.flatMap eU8), .sl a2.Hi.length (a2.Hi.flatMap eU8), .b a2.Open], .hole], [.box [.sl a0.L.length (a0.L.flatMap eGReadsRead)], .box a2, .box [.raw (.slice none 0 0)], .box [.i .i64 a1, .sl a2.Lo.length (a2.Lo.flatMap eU8), .sl a2.Hi.length (a2.Hi.flatMap eU8), .b a2.Open], ixBlk eGReadsKnown v2]] (by kernel_rfl) mixed (by kernel_rfl) (by decide) rfl rfl rfl rfl ?_
    refine ev (sees_at 0 rfl rfl) rfl rfl (opv_fieldAddr_lp fi29_0 rfl) ?_
    refine ev (sees_at 0 rfl rfl) rfl rfl (opv_load1 ti27 rfl (.lp _ _ _ rfl) rfl) ?_
    refine ee (x := .s (.one (.mp 0 4))) 0 rfl rfl rfl rfl rfl (fun ζ => ?_) ?_
    · refine scallT_at 4 rfl fn53 (.func _) (opnds_cons rfl opnds_nil) (m53_reads_indexs_c hv2) rfl rfl rfl ?_
      exact eend
    refine ev (sees_all (md := [.box [.sl a0.L.length (a0.L.flatMap eGReadsRead)], .box a2, .box [.raw (.slice none 0 0)], .box [.i .i64 a1, .sl a2.Lo.length (a2.Lo.flatMap eU8), .sl a2.Hi.length (a2.Hi.flatMap eU8), .b a2.Open], .dead]) ⟨⟨rfl, ⟨rfl, ⟨rfl, ⟨rfl, ⟨trivial, trivial⟩⟩⟩⟩⟩, ⟨⟨rfl, ⟨rfl, ⟨rfl, ⟨rfl, ⟨trivial, trivial⟩⟩⟩⟩⟩, trivial⟩⟩) rfl rfl (opv_loadN ti72 rfl (.lp _ _ _ rfl) (Nat.le_of_ble_eq_true rfl)) ?_
    refine ed (sees_at 1 rfl rfl) rfl rfl (opD_call fn60 (opnds_cons rfl opnds_nil) rfl (m60_reads_knownOf_c hv3)) ?_
    refine ev (sees_at 1 rfl rfl) rfl rfl (opv_tabget (M := v2) (k := v3) ke112 Try.underlying101 zv3 rfl rfl rfl) ?_
    refine ev (sees_at 1 rfl rfl) rfl rfl (opv_mvt rfl) ?_
    refine ev (sees_at 1 rfl rfl) rfl rfl (opv_extract rfl rfl) ?_
    refine ev (sees_at 1 rfl rfl) rfl rfl (opv_extract rfl rfl) ?_
    refine ev (sees_at 1 rfl rfl) rfl rfl (opv_as rfl) ?_
    refine ev (sees_at 1 rfl rfl) rfl rfl (opv_as rfl) ?_
    refine enil ?_
    refine then_normal ?_
    refine cseq ?_
    refine cregion ?_
    refine sv rfl (opv_mv rfl) ?_
    refine snil ?_
    refine ccond rfl (fun hc => ?_) (fun hc => ?_)
    · replace h := ite_t hc h
      clear hc
      refine cseq ?_
      refine cregion ?_
      refine sv rfl (opv_loadN ti29 rfl (.lp _ _ _ rfl) (Nat.le_of_ble_eq_true rfl)) ?_
      refine sstore sz29 rfl rfl rfl rfl (Nat.le_of_ble_eq_true rfl) ?_
      refine smem [.box [.sl a0.L.length (a0.L.flatMap eGReadsRead)], .box a2, .box [.sl a0.L.length (a0.L.flatMap eGReadsRead)], .box [.i .i64 a1, .sl a2.Lo.length (a2.Lo.flatMap eU8), .sl a2.Hi.length (a2.Hi.flatMap eU8), .b a2.Open], ixBlk eGReadsKnown v2] rfl ?_
      refine sv rfl (opv_as rfl) ?_
      refine snil ?_
      refine cret ?_
      refine then_ret ?_
      obtain rfl := Option.some.inj h
      refine ⟨Or.inr rfl, _, _, _, (resVs_cons (ResV.agg _ _ _ _ _ ti29 rfl (.lp _ _ _ rfl) (Nat.le_of_ble_eq_true rfl)) (resVs_cons (ResV.tmp _ _ rfl) resVs_nil)), (pubA_id rfl), ?_⟩
      rfl
    · replace h := ite_f hc h
      clear hc
      refine cskip ?_
      refine then_normal ?_
      refine cseq ?_
      refine cseq ?_
      refine cregion ?_
      refine sv rfl (opv_fieldAddr_lp fi29_0 rfl) ?_
      refine sv rfl (opv_load1 ti27 rfl (.lp _ _ _ rfl) rfl) ?_
      refine sv rfl (opv_len_sl si27 rfl) ?_
      refine sv rfl (opv_geq rfl rfl) ?_
      refine snil ?_
      refine ccond rfl (fun hc => ?_) (fun hc => ?_)
      · replace h := ite_t hc h
        clear hc
        refine cseq ?_
        refine cregion ?_
        refine sv rfl (opv_build zi29 pi29 parts_nil (.nil _)) ?_
        refine sstore sz29 rfl rfl rfl rfl (Nat.le_of_ble_eq_true rfl) ?_
        refine smem [.box [.sl a0.L.length (a0.L.flatMap eGReadsRead)], .box a2, .box [.raw (.slice none 0 0)], .box [.i .i64 a1, .sl a2.Lo.length (a2.Lo.flatMap eU8), .sl a2.Hi.length (a2.Hi.flatMap eU8), .b a2.Open], ixBlk eGReadsKnown v2] rfl ?_
        refine sv rfl (opv_as rfl) ?_
        refine snil ?_
        refine cret ?_
        refine then_ret ?_
        obtain rfl := Option.some.inj h
        refine ⟨Or.inr rfl, _, _, _, (resVs_cons (ResV.agg _ _ _ _ _ ti29 rfl (.lp _ _ _ rfl) (Nat.le_of_ble_eq_true rfl)) (resVs_cons (ResV.tmp _ _ rfl) resVs_nil)), (pubC rfl), ?_⟩
        rfl
      · replace h := ite_f hc h
        clear hc
        refine cskip ?_
        refine then_normal ?_
        refine cseq ?_
        refine cregion ?_
        refine sv rfl (opv_fieldAddr_lp fi29_0 rfl) ?_
        refine sv rfl (opv_load1 ti27 rfl (.lp _ _ _ rfl) rfl) ?_
        refine sv rfl (opv_loadN ti72 rfl (.lp _ _ _ rfl) (Nat.le_of_ble_eq_true rfl)) ?_
        refine sbuild1 rfl Try.underlying27 ei72 rfl rfl (List.all_eq_true.1 rfl) (by decide) ?_
        refine smem [.box [.sl a0.L.length (a0.L.flatMap eGReadsRead)], .box a2, .box [.raw (.slice none 0 0)], .box [.i .i64 a1, .sl a2.Lo.length (a2.Lo.flatMap eU8), .sl a2.Hi.length (a2.Hi.flatMap eU8), .b a2.Open], ixBlk eGReadsKnown v2, .arr 72 4 0 ([(GReadsRead.mk a1 a2)].flatMap eGReadsRead)] rfl ?_
        refine spub 42 rfl (by (repeat' first | exact PubA.nil _ | apply PubA.cons | apply PubV.one | apply PubV.agg | exact PubL.nil | exact PubL.ls _ _ _ _ _ _ rfl (flat_len (f := eGReadsRead) (fun _ => rfl) ([(GReadsRead.mk a1 a2)] : List GReadsRead)).symm | exact PubL.ls _ _ _ _ _ _ rfl (flat_len (f := eGReadsRead) (fun _ => rfl) _).symm | exact PubL.id _ rfl | exact PubLs.nil _ | apply PubLs.cons)) ?_
        refine sbuildN (out := ([a0.L, [(GReadsRead.mk a1 a2)]] : List (List GReadsRead)).flatMap (eL eGReadsRead)) rfl Try.underlying119 ei27 (parts_cons rfl (parts_cons rfl parts_nil)) (.cons _ _ _ _ _ _ _ rfl rfl (Nat.le_of_ble_eq_true rfl) (.cons _ _ _ _ _ _ _ rfl rfl (Nat.le_of_ble_eq_true rfl) (.nil _))) rfl (by decide) ?_
        refine spub 43 rfl (by (repeat' first | exact PubA.nil _ | apply PubA.cons | apply PubV.one | apply PubV.agg | exact PubL.nil | exact PubL.ls _ _ _ _ _ _ rfl (flat_len (f := (eL eGReadsRead)) (fun _ => rfl) ([a0.L, [(GReadsRead.mk a1 a2)]] : List (List GReadsRead))).symm | exact PubL.ls _ _ _ _ _ _ rfl (flat_len (f := (eL eGReadsRead)) (fun _ => rfl) _).symm | exact PubL.ls _ _ _ _ _ _ rfl (flat_len (f := eGReadsRead) (fun _ => rfl) _).symm | exact PubL.id _ rfl | exact PubLs.nil _ | apply PubLs.cons)) ?_
        obtain ⟨v4, hv4, h⟩ := bind_eq h
        refine scallB (x' := .s (.one (.ls 7 v4.length))) (M' := [.box [.sl a0.L.length (a0.L.flatMap eGReadsRead)], .box a2, .box [.raw (.slice none 0 0)], .box [.i .i64 a1, .sl a2.Lo.length (a2.Lo.flatMap eU8), .sl a2.Hi.length (a2.Hi.flatMap eU8), .b a2.Open], ixBlk eGReadsKnown v2, .arr 72 4 ([(GReadsRead.mk a1 a2)].flatMap eGReadsRead).length ([(GReadsRead.mk a1 a2)].flatMap eGReadsRead), .arr 27 1 ([a0.L, [(GReadsRead.mk a1 a2)]].flatMap (eL eGReadsRead)).length ([a0.L, [(GReadsRead.mk a1 a2)]].flatMap (eL eGReadsRead)), .arr 72 4 0 (v4.flatMap eGReadsRead)]) [] rfl fn61 (.func _) (opnds_cons rfl opnds_nil) (m61_slices_Concato_c hv4) rfl rfl (by decide) rfl rfl rfl ?_
        refine sv rfl (opv_build zi29 pi29 (parts_cons rfl parts_nil) (.cons _ _ _ _ _ _ _ rfl rfl (Nat.le_of_ble_eq_true rfl) (.nil _))) ?_
        refine sstore sz29 rfl rfl rfl rfl (Nat.le_of_ble_eq_true rfl) ?_
        refine smem [.box [.sl a0.L.length (a0.L.flatMap eGReadsRead)], .box a2, .box [.ls 7 v4.length], .box [.i .i64 a1, .sl a2.Lo.length (a2.Lo.flatMap eU8), .sl a2.Hi.length (a2.Hi.flatMap eU8), .b a2.Open], ixBlk eGReadsKnown v2, .arr 72 4 ([(GReadsRead.mk a1 a2)].flatMap eGReadsRead).length ([(GReadsRead.mk a1 a2)].flatMap eGReadsRead), .arr 27 1 ([a0.L, [(GReadsRead.mk a1 a2)]].flatMap (eL eGReadsRead)).length ([a0.L, [(GReadsRead.mk a1 a2)]].flatMap (eL eGReadsRead)), .arr 72 4 0 (v4.flatMap eGReadsRead)] rfl ?_
        refine sv rfl (opv_as rfl) ?_
        refine snil ?_
        refine cret ?_
        obtain rfl := Option.some.inj h
        refine ⟨Or.inr rfl, _, _, _, (resVs_cons (ResV.agg _ _ _ _ _ ti29 rfl (.lp _ _ _ rfl) (Nat.le_of_ble_eq_true rfl)) (resVs_cons (ResV.tmp _ _ rfl) resVs_nil)), (by (repeat' first | exact PubA.nil _ | apply PubA.cons | apply PubV.one | apply PubV.agg | exact PubL.nil | exact PubL.ls _ _ _ _ _ _ rfl (flat_len (f := (eL eGReadsRead)) (fun _ => rfl) _).symm | exact PubL.ls _ _ _ _ _ _ rfl (flat_len (f := eGReadsRead) (fun _ => rfl) _).symm | exact PubL.id _ rfl | exact PubLs.nil _ | apply PubLs.cons)), ?_⟩
        rfl
  · skip
    refine cregion ?_
    refine sv rfl (opv_loadN ti29 rfl (.lp _ _ _ rfl) (Nat.le_of_ble_eq_true rfl)) ?_
    obtain ⟨v5, hv5, h⟩ := bind_eq h
    refine scall1 rfl fn29 (opnds_cons rfl opnds_nil) (pubA_id rfl) (m29_reads_Sane_c hv5) ?_
    refine sv rfl (opv_not rfl) ?_
    refine sv rfl (opv_mv rfl) ?_
    refine ssplit 17 rfl (fun hc => ?_) (fun hc => ?_)
    · replace h := ite_t hc h
      clear hc
      refine soff rfl rfl rfl rfl ?_
      refine soff rfl rfl rfl rfl ?_
      refine soff rfl rfl rfl rfl ?_
      refine sv rfl (opv_pick_t rfl rfl) ?_
      refine snil ?_
      refine ccond rfl (fun _ => ?_) (fun hx => Bool.noConfusion hx)
      refine cseq ?_
      refine cregion ?_
      refine sv rfl (opv_build zi29 pi29 parts_nil (.nil _)) ?_
      refine sstore sz29 rfl rfl rfl rfl (Nat.le_of_ble_eq_true rfl) ?_
      refine smem [.box [.sl a0.L.length (a0.L.flatMap eGReadsRead)], .box a2, .box [.raw (.slice none 0 0)], .box [.i .i64 a1, .sl a2.Lo.length (a2.Lo.flatMap eU8), .sl a2.Hi.length (a2.Hi.flatMap eU8), .b a2.Open]] rfl ?_
      refine sv rfl (opv_as rfl) ?_
      refine snil ?_
      refine cret ?_
      refine then_ret ?_
      obtain rfl := Option.some.inj h
      refine ⟨Or.inr rfl, _, _, _, (resVs_cons (ResV.agg _ _ _ _ _ ti29 rfl (.lp _ _ _ rfl) (Nat.le_of_ble_eq_true rfl)) (resVs_cons (ResV.tmp _ _ rfl) resVs_nil)), (pubC rfl), ?_⟩
      rfl
    · replace h := ite_f hc h
      clear hc
      refine son rfl rfl rfl ?_
      refine sv rfl (opv_loadN ti72 rfl (.lp _ _ _ rfl) (Nat.le_of_ble_eq_true rfl)) ?_
      refine son rfl rfl rfl ?_
      obtain ⟨v6, hv6, h⟩ := bind_eq h
      refine scall1 rfl fn52 (opnds_cons rfl opnds_nil) (pubA_id rfl) (m52_reads_saneRead_c hv6) ?_
      refine son rfl rfl rfl ?_
      refine sv rfl (opv_not rfl) ?_
      refine sv rfl (opv_pick_f rfl rfl) ?_
      refine snil ?_
      refine ccond rfl (fun hc => ?_) (fun hc => ?_)
      · replace h := ite_t hc h
        clear hc
        refine cseq ?_
        refine cregion ?_
        refine sv rfl (opv_build zi29 pi29 parts_nil (.nil _)) ?_
        refine sstore sz29 rfl rfl rfl rfl (Nat.le_of_ble_eq_true rfl) ?_
        refine smem [.box [.sl a0.L.length (a0.L.flatMap eGReadsRead)], .box a2, .box [.raw (.slice none 0 0)], .box [.i .i64 a1, .sl a2.Lo.length (a2.Lo.flatMap eU8), .sl a2.Hi.length (a2.Hi.flatMap eU8), .b a2.Open]] rfl ?_
        refine sv rfl (opv_as rfl) ?_
        refine snil ?_
        refine cret ?_
        refine then_ret ?_
        obtain rfl := Option.some.inj h
        refine ⟨Or.inr rfl, _, _, _, (resVs_cons (ResV.agg _ _ _ _ _ ti29 rfl (.lp _ _ _ rfl) (Nat.le_of_ble_eq_true rfl)) (resVs_cons (ResV.tmp _ _ rfl) resVs_nil)), (pubC rfl), ?_⟩
        rfl
      · replace h := ite_f hc h
        clear hc
        refine cskip ?_
        refine then_normal ?_
        exact ⟨(), _, h, ⟨rfl, rfl, rfl, trivial⟩, rfl⟩

def m40_slices_Cloneo (a0 : List GSsiTx) : Option (List GSsiTx) :=
  if (([] : List GSsiTx).length + a0.length) * 64 ≤ 140737488355328 then (some (([] : List GSsiTx) ++ a0)) else none

set_option maxRecDepth 100000 in
theorem m40_slices_Cloneo_c {a0 : List GSsiTx} {r : (List GSsiTx)} (h : m40_slices_Cloneo a0 = some r) : CallsB Try.prog 40 [] [.one (.sl a0.length (a0.flatMap eGSsiTx))] (fun y m' => y = .s (.one (.ls 0 r.length)) ∧ m' = [.arr 48 8 0 (r.flatMap eGSsiTx)]) := by
  unfold m40_slices_Cloneo at h
  refine callsB_of Try.func40 rfl (nt := 8) rfl (Nat.le_of_ble_eq_true rfl) ?_
  intro w0 S0 X0 H0
  refine cseq ?_
  refine cregion ?_
  refine sv rfl (opv_as rfl) ?_
  refine snil ?_
  refine cseq ?_
  refine cseq ?_
  refine cregion ?_
  refine sv rfl (opv_mv rfl) ?_
  refine snilq rfl Try.underlying26 rfl (fun nq hnq => ?_)
  cases nq
  · skip
    refine snil ?_
    refine ccond rfl (fun hx => Bool.noConfusion hx) (fun _ => ?_)
    refine cskip ?_
    refine then_normal ?_
    refine cseq ?_
    refine cregion ?_
    refine sbuild0 rfl Try.underlying26 ei48 ?_
    refine sv rfl (opv_mv rfl) ?_
    obtain ⟨hb1, h⟩ := chk_eq h
    refine sapp (f := eGSsiTx) (xs := ([] : List GSsiTx)) (us := a0) rfl Try.underlying26 ei48 ni26 (fun _ => rfl) rfl rfl (.one _ _ _ _ (.id _ rfl)) rfl rfl rfl (.sl _ _ _ (flat_len (f := eGSsiTx) (fun _ => rfl) _)) rfl rfl hb1 (by decide) ?_
    refine sv rfl (opv_as rfl) ?_
    refine snil ?_
    refine cret ?_
    obtain rfl := Option.some.inj h
    exact ⟨Or.inr rfl, _, [0], [.one (.ls 0 (([] : List GSsiTx) ++ a0).length)], [.arr 48 8 0 ((([] : List GSsiTx) ++ a0).flatMap eGSsiTx)], (resVs_cons (ResV.tmp _ _ rfl) resVs_nil), rfl, rfl, ⟨by decide, rfl⟩, rfl, rfl, ⟨rfl, rfl⟩⟩
  · obtain rfl := List.eq_nil_of_length_eq_zero (hnq rfl)
    replace h : (some ([] : List GSsiTx)) = some r := by first | exact h | (rw [if_pos (by decide)] at h; exact h)
    refine snil ?_
    refine ccond rfl (fun _ => ?_) (fun hx => Bool.noConfusion hx)
    refine cseq ?_
    refine cregion ?_
    refine sv rfl (opv_as rfl) ?_
    refine snil ?_
    refine sadopt_c 48 8 2 (by decide) rfl ?_
    refine cret ?_
    refine then_ret ?_
    obtain rfl := Option.some.inj h
    exact ⟨Or.inr rfl, _, [0], [.one (.ls 0 ([] : List GSsiTx).length)], [.arr 48 8 0 (([] : List GSsiTx).flatMap eGSsiTx)], (resVs_cons (ResV.tmp _ _ rfl) resVs_nil), rfl, rfl, ⟨by decide, rfl⟩, rfl, rfl, ⟨rfl, rfl⟩⟩

def m62_ssi_ended (a0 : GSsiTx) (a1 : GSsiTx) : Option Bool :=
  if (decide (a0.State = 2)) then (some (decide (a0.End ≤ a1.Begin))) else (some false)

set_option maxRecDepth 100000 in
theorem m62_ssi_ended_c {a0 : GSsiTx} {a1 : GSsiTx} {r : Bool} (h : m62_ssi_ended a0 a1 = some r) : CallsA Try.prog 62 [.agg a0, .agg a1] (· = .s (.one (.b r))) := by
  unfold m62_ssi_ended at h
  refine callsA_of Try.func62 rfl (nt := 15) rfl (Nat.le_of_ble_eq_true rfl) ?_
  intro w0 S0
  refine cseq ?_
  refine cregion ?_
  refine sbox rfl rfl ?_
  refine sbox rfl rfl ?_
  refine sv rfl (opv_as rfl) ?_
  refine snil ?_
  refine cseq ?_
  refine cregion ?_
  refine sv rfl (opv_fieldAddr_lp fi48_3 rfl) ?_
  refine sv rfl (opv_load1 ti3 rfl (.lp _ _ _ rfl) rfl) ?_
  refine sv rfl (opv_ieql rfl rfl) ?_
  refine sv rfl (opv_mv rfl) ?_
  refine ssplit 8 rfl (fun hc => ?_) (fun hc => ?_)
  · replace h := ite_t hc h
    clear hc
    refine son rfl rfl rfl ?_
    refine sv rfl (opv_fieldAddr_lp fi48_2 rfl) ?_
    refine son rfl rfl rfl ?_
    refine sv rfl (opv_load1 ti3 rfl (.lp _ _ _ rfl) rfl) ?_
    refine son rfl rfl rfl ?_
    refine sv rfl (opv_fieldAddr_lp fi48_1 rfl) ?_
    refine son rfl rfl rfl ?_
    refine sv rfl (opv_load1 ti3 rfl (.lp _ _ _ rfl) rfl) ?_
    refine son rfl rfl rfl ?_
    refine sv rfl (opv_leq rfl rfl) ?_
    refine sv rfl (opv_pick_t rfl rfl) ?_
    refine sv rfl (opv_as rfl) ?_
    refine snil ?_
    refine cret ?_
    obtain rfl := Option.some.inj h
    refine ⟨Or.inr rfl, _, _, _, (resVs_cons (ResV.tmp _ _ rfl) resVs_nil), (pubA_id rfl), ?_⟩
    rfl
  · replace h := ite_f hc h
    clear hc
    refine soff rfl rfl rfl rfl ?_
    refine soff rfl rfl rfl rfl ?_
    refine soff rfl rfl rfl rfl ?_
    refine soff rfl rfl rfl rfl ?_
    refine soff rfl rfl rfl rfl ?_
    refine sv rfl (opv_pick_f rfl rfl) ?_
    refine sv rfl (opv_as rfl) ?_
    refine snil ?_
    refine cret ?_
    obtain rfl := Option.some.inj h
    refine ⟨Or.inr rfl, _, _, _, (resVs_cons (ResV.tmp _ _ rfl) resVs_nil), (pubA_id rfl), ?_⟩
    rfl

def m41_ssi_beside (a0 : GSsiTx) (a1 : GSsiTx) : Option Bool :=
  (m62_ssi_ended a0 a1).bind fun v1 => if (!v1) then ((m62_ssi_ended a1 a0).bind fun v2 => some (!v2)) else (some false)

set_option maxRecDepth 100000 in
theorem m41_ssi_beside_c {a0 : GSsiTx} {a1 : GSsiTx} {r : Bool} (h : m41_ssi_beside a0 a1 = some r) : CallsA Try.prog 41 [.agg a0, .agg a1] (· = .s (.one (.b r))) := by
  unfold m41_ssi_beside at h
  refine callsA_of Try.func41 rfl (nt := 15) rfl (Nat.le_of_ble_eq_true rfl) ?_
  intro w0 S0
  refine cseq ?_
  refine cregion ?_
  refine sbox rfl rfl ?_
  refine sbox rfl rfl ?_
  refine sv rfl (opv_as rfl) ?_
  refine snil ?_
  refine cseq ?_
  refine cregion ?_
  refine sv rfl (opv_loadN ti48 rfl (.lp _ _ _ rfl) (Nat.le_of_ble_eq_true rfl)) ?_
  refine sv rfl (opv_loadN ti48 rfl (.lp _ _ _ rfl) (Nat.le_of_ble_eq_true rfl)) ?_
  obtain ⟨v1, hv1, h⟩ := bind_eq h
  refine scall1 rfl fn62 (opnds_cons rfl (opnds_cons rfl opnds_nil)) (pubA_id rfl) (m62_ssi_ended_c hv1) ?_
  refine sv rfl (opv_not rfl) ?_
  refine sv rfl (opv_mv rfl) ?_
  refine ssplit 9 rfl (fun hc => ?_) (fun hc => ?_)
  · replace h := ite_t hc h
    clear hc
    refine son rfl rfl rfl ?_
    refine sv rfl (opv_loadN ti48 rfl (.lp _ _ _ rfl) (Nat.le_of_ble_eq_true rfl)) ?_
    refine son rfl rfl rfl ?_
    refine sv rfl (opv_loadN ti48 rfl (.lp _ _ _ rfl) (Nat.le_of_ble_eq_true rfl)) ?_
    refine son rfl rfl rfl ?_
    obtain ⟨v2, hv2, h⟩ := bind_eq h
    refine scall1 rfl fn62 (opnds_cons rfl (opnds_cons rfl opnds_nil)) (pubA_id rfl) (m62_ssi_ended_c hv2) ?_
    refine son rfl rfl rfl ?_
    refine sv rfl (opv_not rfl) ?_
    refine sv rfl (opv_pick_t rfl rfl) ?_
    refine sv rfl (opv_as rfl) ?_
    refine snil ?_
    refine cret ?_
    obtain rfl := Option.some.inj h
    refine ⟨Or.inr rfl, _, _, _, (resVs_cons (ResV.tmp _ _ rfl) resVs_nil), (pubA_id rfl), ?_⟩
    rfl
  · replace h := ite_f hc h
    clear hc
    refine soff rfl rfl rfl rfl ?_
    refine soff rfl rfl rfl rfl ?_
    refine soff rfl rfl rfl rfl ?_
    refine soff rfl rfl rfl rfl ?_
    refine sv rfl (opv_pick_f rfl rfl) ?_
    refine sv rfl (opv_as rfl) ?_
    refine snil ?_
    refine cret ?_
    obtain rfl := Option.some.inj h
    refine ⟨Or.inr rfl, _, _, _, (resVs_cons (ResV.tmp _ _ rfl) resVs_nil), (pubA_id rfl), ?_⟩
    rfl

def m63_keys_Has (a0 : GApiRange) (a1 : List UInt8) : Option Bool :=
  (m74_keys_Cmp a1 a0.Lo).bind fun v1 => if (decide (0 ≤ v1)) then (if a0.Open then (some true) else ((m74_keys_Cmp a1 a0.Hi).bind fun v2 => some (decide (v2 < 0)))) else (some false)

set_option maxRecDepth 100000 in
theorem m63_keys_Has_c {a0 : GApiRange} {a1 : List UInt8} {r : Bool} (h : m63_keys_Has a0 a1 = some r) : CallsA Try.prog 63 [.agg a0, .one (.sl a1.length (a1.flatMap eU8))] (· = .s (.one (.b r))) := by
  unfold m63_keys_Has at h
  refine callsA_of Try.func63 rfl (nt := 21) rfl (Nat.le_of_ble_eq_true rfl) ?_
  intro w0 S0
  refine cseq ?_
  refine cregion ?_
  refine sbox rfl rfl ?_
  refine sv rfl (opv_as rfl) ?_
  refine snil ?_
  refine cseq ?_
  refine cregion ?_
  refine sv rfl (opv_mv rfl) ?_
  refine sv rfl (opv_fieldAddr_lp fi40_0 rfl) ?_
  refine sv rfl (opv_load1 ti38 rfl (.lp _ _ _ rfl) rfl) ?_
  obtain ⟨v1, hv1, h⟩ := bind_eq h
  refine scall1 rfl fn74 (opnds_cons rfl (opnds_cons rfl opnds_nil)) (pubA_id rfl) (m74_keys_Cmp_c hv1) ?_
  refine sv rfl (opv_geq rfl rfl) ?_
  refine sv rfl (opv_mv rfl) ?_
  refine ssplit 10 rfl (fun hc => ?_) (fun hc => ?_)
  · replace h := ite_t hc h
    clear hc
    refine son rfl rfl rfl ?_
    refine sv rfl (opv_fieldAddr_lp fi40_2 rfl) ?_
    refine son rfl rfl rfl ?_
    refine sv rfl (opv_load1 ti4 rfl (.lp _ _ _ rfl) rfl) ?_
    refine son rfl rfl rfl ?_
    refine sv rfl (opv_mv rfl) ?_
    refine ssplit 13 rfl (fun hc => ?_) (fun hc => ?_)
    · replace h := ite_t hc h
      clear hc
      refine soff rfl rfl rfl rfl ?_
      refine soff rfl rfl rfl rfl ?_
      refine soff rfl rfl rfl rfl ?_
      refine soff rfl rfl rfl rfl ?_
      refine soff rfl rfl rfl rfl ?_
      refine son rfl rfl rfl ?_
      refine sv rfl (opv_pick_t rfl rfl) ?_
      refine sv rfl (opv_pick_t rfl rfl) ?_
      refine sv rfl (opv_as rfl) ?_
      refine snil ?_
      refine cret ?_
      obtain rfl := Option.some.inj h
      refine ⟨Or.inr rfl, _, _, _, (resVs_cons (ResV.tmp _ _ rfl) resVs_nil), (pubA_id rfl), ?_⟩
      rfl
    · replace h := ite_f hc h
      clear hc
      refine son rfl rfl rfl ?_
      refine sv rfl (opv_mv rfl) ?_
      refine son rfl rfl rfl ?_
      refine sv rfl (opv_fieldAddr_lp fi40_1 rfl) ?_
      refine son rfl rfl rfl ?_
      refine sv rfl (opv_load1 ti38 rfl (.lp _ _ _ rfl) rfl) ?_
      refine son rfl rfl rfl ?_
      obtain ⟨v2, hv2, h⟩ := bind_eq h
      refine scall1 rfl fn74 (opnds_cons rfl (opnds_cons rfl opnds_nil)) (pubA_id rfl) (m74_keys_Cmp_c hv2) ?_
      refine son rfl rfl rfl ?_
      refine sv rfl (opv_lss rfl rfl) ?_
      refine son rfl rfl rfl ?_
      refine sv rfl (opv_pick_f rfl rfl) ?_
      refine sv rfl (opv_pick_t rfl rfl) ?_
      refine sv rfl (opv_as rfl) ?_
      refine snil ?_
      refine cret ?_
      obtain rfl := Option.some.inj h
      refine ⟨Or.inr rfl, _, _, _, (resVs_cons (ResV.tmp _ _ rfl) resVs_nil), (pubA_id rfl), ?_⟩
      rfl
  · replace h := ite_f hc h
    clear hc
    refine soff rfl rfl rfl rfl ?_
    refine soff rfl rfl rfl rfl ?_
    refine soff rfl rfl rfl rfl ?_
    refine soffu rfl rfl rfl ?_
    refine soffu rfl rfl rfl ?_
    refine soffu rfl rfl rfl ?_
    refine soffu rfl rfl rfl ?_
    refine soffu rfl rfl rfl ?_
    refine soff rfl rfl rfl rfl ?_
    refine sv rfl (opv_pick_f rfl rfl) ?_
    refine sv rfl (opv_as rfl) ?_
    refine snil ?_
    refine cret ?_
    obtain rfl := Option.some.inj h
    refine ⟨Or.inr rfl, _, _, _, (resVs_cons (ResV.tmp _ _ rfl) resVs_nil), (pubA_id rfl), ?_⟩
    rfl

def m42_ssi_wroteIn_k1 (b1 : Unit) : Option Bool :=
  some false

def m42_ssi_wroteIn_s2 (a0 : GSsiTx) (a1 : GApiRange) (s2 : Int) : Option (LR (Int) (Unit) (Bool)) :=
  if (decide (s2 < (a0.Keys.length : Int))) then ((idx a0.Keys s2).bind fun u3 => (m63_keys_Has (GApiRange.mk a1.Lo a1.Hi a1.Open) u3).bind fun v4 => if v4 then (some (.ret true)) else (some (.cont (wI (s2 + 1))))) else (some (.brk ()))
def m42_ssi_wroteIn (a0 : GSsiTx) (a1 : GApiRange) : Option Bool :=
  (iter (m42_ssi_wroteIn_s2 a0 a1) fuel 0).bind fun x => match x with | .inl r => some r | .inr e5 => m42_ssi_wroteIn_k1 e5

set_option maxRecDepth 100000 in
theorem m42_ssi_wroteIn_c {a0 : GSsiTx} {a1 : GApiRange} {r : Bool} (h : m42_ssi_wroteIn a0 a1 = some r) : CallsA Try.prog 42 [.agg a0, .agg a1] (· = .s (.one (.b r))) := by
  unfold m42_ssi_wroteIn at h
  refine callsA_of Try.func42 rfl (nt := 18) rfl (Nat.le_of_ble_eq_true rfl) ?_
  intro w0 S0
  refine cseq ?_
  refine cregion ?_
  refine sbox rfl rfl ?_
  refine sbox rfl rfl ?_
  refine sv rfl (opv_as rfl) ?_
  refine snil ?_
  refine cseq ?_
  refine cseq ?_
  refine cregion ?_
  refine sv rfl (opv_fieldAddr_lp fi48_7 rfl) ?_
  refine sv rfl (opv_load1 ti41 rfl (.lp _ _ _ rfl) rfl) ?_
  refine sv rfl (opv_len_sl si41 rfl) ?_
  refine sv rfl (opv_mv rfl) ?_
  refine snil ?_
  refine cjoin (Unit) (fun b1 => []) (fun b1 => [.box a0, .box a1]) (fun b1 => m42_ssi_wroteIn_k1 b1 = some r) (fun _ _ => inbL_of rfl) (fun _ _ => blkinb_of rfl) (fun _ _ => Nat.le_of_ble_eq_true rfl) (fun b1 h => ?_) ?_
  · unfold m42_ssi_wroteIn_k1 at h
    refine cseq ?_
    refine cregion ?_
    refine sv rfl (opv_as rfl) ?_
    refine snil ?_
    refine cret ?_
    obtain rfl := Option.some.inj h
    refine ⟨Or.inr rfl, _, _, _, (resVs_cons (ResV.tmp _ _ rfl) resVs_nil), (pubA_id rfl), ?_⟩
    rfl
  · skip
    refine cblock ?_
    obtain ⟨x2, hx2, ho2⟩ := bind_eq h
    refine awc_loop (G := Nat × (Int)) (fun g => [(3, .s (.one (.lp 1 0))), (8, .s (.one (.sl a0.Keys.length (a0.Keys.flatMap (eL eU8))))), (9, .s (.one (.i .i64 (a0.Keys.length : Int)))), (10, .s (.one (.i .i64 g.2)))]) (fun g => [.box a0, .box a1]) (fun g => iter (m42_ssi_wroteIn_s2 a0 a1) g.1 g.2 = some x2) (fun g => g.1) (fuel, 0) hx2 ⟨rfl, rfl, rfl, rfl, trivial⟩ [] rfl (fun _ _ => inbL_of rfl) (fun _ _ => blkinb_of rfl) (fun _ _ => Nat.le_of_ble_eq_true rfl) ?_
    clear hx2 h
    rintro ⟨n2, s2⟩ h
    obtain ⟨n2, y2, rfl, h, hk2⟩ := iter_eq h
    unfold m42_ssi_wroteIn_s2 at h
    refine cseq ?_
    refine cregion ?_
    refine sv rfl (opv_lss rfl rfl) ?_
    refine snil ?_
    refine cseq ?_
    refine ccond rfl (fun hc => ?_) (fun hc => ?_)
    · replace h := ite_t hc h
      clear hc
      refine cskip ?_
      refine then_normal ?_
      refine cseq ?_
      refine cblock ?_
      refine cseq ?_
      refine cregion ?_
      obtain ⟨u3, hu3, h⟩ := bind_eq h
      refine sv rfl (opv_ix (f := (eL eU8)) si41 (fun _ => rfl) rfl rfl rfl rfl hu3) ?_
      refine sv rfl (opv_load1 ti38 rfl (.cp _) rfl) ?_
      refine sv rfl (opv_as rfl) ?_
      refine snil ?_
      refine cseq ?_
      refine cregion ?_
      refine sv rfl (opv_loadN ti40 rfl (.lp _ _ _ rfl) (Nat.le_of_ble_eq_true rfl)) ?_
      refine sv rfl (opv_mv rfl) ?_
      obtain ⟨v4, hv4, h⟩ := bind_eq h
      refine scall1 rfl fn63 (opnds_cons rfl (opnds_cons rfl opnds_nil)) (pubA_id rfl) (m63_keys_Has_c hv4) ?_
      refine snil ?_
      refine ccond rfl (fun hc => ?_) (fun hc => ?_)
      · replace h := ite_t hc h
        clear hc
        refine cseq ?_
        refine cregion ?_
        refine sv rfl (opv_as rfl) ?_
        refine snil ?_
        refine cret ?_
        refine block_ret ?_
        refine then_ret ?_
        refine then_ret ?_
        refine block_ret ?_
        refine then_ret ?_
        obtain rfl := Option.some.inj h
        obtain rfl : Sum.inl _ = x2 := hk2
        replace ho2 : some _ = some _ := ho2
        obtain rfl := Option.some.inj ho2
        refine ⟨Or.inr rfl, _, _, _, (resVs_cons (ResV.tmp _ _ rfl) resVs_nil), (pubA_id rfl), ?_⟩
        rfl
      · replace h := ite_f hc h
        clear hc
        refine cskip ?_
        refine block_normal ?_
        refine then_normal ?_
        refine cregion ?_
        refine sv rfl (opv_add rfl rfl) ?_
        refine sv rfl (opv_mv rfl) ?_
        refine snil ?_
        obtain rfl := Option.some.inj h
        exact ⟨(n2, (wI (s2 + 1))), _, hk2, ⟨rfl, rfl, rfl, rfl, trivial⟩, rfl, Nat.lt_succ_self _⟩
    · replace h := ite_f hc h
      clear hc
      refine cexit ?_
      refine then_exit ?_
      refine then_exit ?_
      refine block_hit ?_
      refine then_normal ?_
      obtain rfl := Option.some.inj h
      obtain rfl : _ = x2 := hk2
      exact ⟨(), _, ho2, trivial, rfl⟩

def m43_ssi_passings  : Option Unit :=
  some ()

set_option maxRecDepth 100000 in
theorem m43_ssi_passings_c  {r : Unit} (h : m43_ssi_passings = some r) : CallsB Try.prog 43 [] [] (fun y m' => y = .s (.agg [.raw (.func (.func 64) #[] #[]), .raw (.func (.func 65) #[] #[])]) ∧ m' = []) := by
  unfold m43_ssi_passings at h
  refine callsB_of Try.func43 rfl (nt := 2) rfl (Nat.le_of_ble_eq_true rfl) ?_
  intro w0 S0 X0 H0
  refine cseq ?_
  refine cregion ?_
  refine salloc rfl zi91 ?_
  refine snil ?_
  refine cseq ?_
  refine cregion ?_
  refine sv rfl (opv_build zi91 pi91 (parts_cons rfl (parts_cons rfl parts_nil)) (.cons _ _ _ _ _ _ _ rfl rfl (Nat.le_of_ble_eq_true rfl) (.cons _ _ _ _ _ _ _ rfl rfl (Nat.le_of_ble_eq_true rfl) (.nil _)))) ?_
  refine sstore sz91 rfl rfl rfl rfl (Nat.le_of_ble_eq_true rfl) ?_
  refine smem [.box [.raw (.func (.func 64) #[] #[]), .raw (.func (.func 65) #[] #[])]] rfl ?_
  refine snil ?_
  refine cret ?_
  obtain rfl := Option.some.inj h
  exact ⟨Or.inr rfl, _, [], [.agg [.raw (.func (.func 64) #[] #[]), .raw (.func (.func 65) #[] #[])]], [], (resVs_cons (ResV.agg _ _ _ _ _ ti91 rfl (.lp _ _ _ rfl) (Nat.le_of_ble_eq_true rfl)) resVs_nil), rfl, rfl, ⟨by decide, rfl⟩, rfl, rfl, ⟨rfl, rfl⟩⟩

def m64_ssi_passing_1s (a0 : GSsiTx) : Option GSsiTx :=
  some (GSsiTx.mk a0.ID a0.Begin a0.End a0.State a0.In true a0.RO a0.Keys)

set_option maxRecDepth 100000 in
theorem m64_ssi_passing_1s_c {a0 : GSsiTx} {r : GSsiTx} (h : m64_ssi_passing_1s a0 = some r) : CallsA Try.prog 64 [.agg a0] (· = .s (.agg r)) := by
  unfold m64_ssi_passing_1s at h
  refine callsA_of Try.func64 rfl (nt := 5) rfl (Nat.le_of_ble_eq_true rfl) ?_
  intro w0 S0
  refine cseq ?_
  refine cregion ?_
  refine sbox rfl rfl ?_
  refine salloc rfl zi48 ?_
  refine snil ?_
  refine cseq ?_
  refine cregion ?_
  refine sv rfl (opv_fieldAddr_lp fi48_5 rfl) ?_
  refine sstore sz4 rfl rfl rfl rfl (Nat.le_of_ble_eq_true rfl) ?_
  refine smem [.box [.i .i64 a0.ID, .i .i64 a0.Begin, .i .i64 a0.End, .i .i64 a0.State, .b a0.In, .b true, .b a0.RO, .sl a0.Keys.length (a0.Keys.flatMap (eL eU8))], .box [.i .i64 0, .i .i64 0, .i .i64 0, .i .i64 0, .b false, .b false, .b false, .raw (.slice none 0 0)]] rfl ?_
  refine snil ?_
  refine cseq ?_
  refine cregion ?_
  refine sv rfl (opv_loadN ti48 rfl (.lp _ _ _ rfl) (Nat.le_of_ble_eq_true rfl)) ?_
  refine sstore sz48 rfl rfl rfl rfl (Nat.le_of_ble_eq_true rfl) ?_
  refine smem [.box [.i .i64 a0.ID, .i .i64 a0.Begin, .i .i64 a0.End, .i .i64 a0.State, .b a0.In, .b true, .b a0.RO, .sl a0.Keys.length (a0.Keys.flatMap (eL eU8))], .box [.i .i64 a0.ID, .i .i64 a0.Begin, .i .i64 a0.End, .i .i64 a0.State, .b a0.In, .b true, .b a0.RO, .sl a0.Keys.length (a0.Keys.flatMap (eL eU8))]] rfl ?_
  refine snil ?_
  refine cret ?_
  obtain rfl := Option.some.inj h
  refine ⟨Or.inr rfl, _, _, _, (resVs_cons (ResV.agg _ _ _ _ _ ti48 rfl (.lp _ _ _ rfl) (Nat.le_of_ble_eq_true rfl)) resVs_nil), (pubA_id rfl), ?_⟩
  rfl

def m65_ssi_passing_2s (a0 : GSsiTx) : Option GSsiTx :=
  some (GSsiTx.mk a0.ID a0.Begin a0.End a0.State true a0.Out a0.RO a0.Keys)

set_option maxRecDepth 100000 in
theorem m65_ssi_passing_2s_c {a0 : GSsiTx} {r : GSsiTx} (h : m65_ssi_passing_2s a0 = some r) : CallsA Try.prog 65 [.agg a0] (· = .s (.agg r)) := by
  unfold m65_ssi_passing_2s at h
  refine callsA_of Try.func65 rfl (nt := 5) rfl (Nat.le_of_ble_eq_true rfl) ?_
  intro w0 S0
  refine cseq ?_
  refine cregion ?_
  refine sbox rfl rfl ?_
  refine salloc rfl zi48 ?_
  refine snil ?_
  refine cseq ?_
  refine cregion ?_
  refine sv rfl (opv_fieldAddr_lp fi48_4 rfl) ?_
  refine sstore sz4 rfl rfl rfl rfl (Nat.le_of_ble_eq_true rfl) ?_
  refine smem [.box [.i .i64 a0.ID, .i .i64 a0.Begin, .i .i64 a0.End, .i .i64 a0.State, .b true, .b a0.Out, .b a0.RO, .sl a0.Keys.length (a0.Keys.flatMap (eL eU8))], .box [.i .i64 0, .i .i64 0, .i .i64 0, .i .i64 0, .b false, .b false, .b false, .raw (.slice none 0 0)]] rfl ?_
  refine snil ?_
  refine cseq ?_
  refine cregion ?_
  refine sv rfl (opv_loadN ti48 rfl (.lp _ _ _ rfl) (Nat.le_of_ble_eq_true rfl)) ?_
  refine sstore sz48 rfl rfl rfl rfl (Nat.le_of_ble_eq_true rfl) ?_
  refine smem [.box [.i .i64 a0.ID, .i .i64 a0.Begin, .i .i64 a0.End, .i .i64 a0.State, .b true, .b a0.Out, .b a0.RO, .sl a0.Keys.length (a0.Keys.flatMap (eL eU8))], .box [.i .i64 a0.ID, .i .i64 a0.Begin, .i .i64 a0.End, .i .i64 a0.State, .b true, .b a0.Out, .b a0.RO, .sl a0.Keys.length (a0.Keys.flatMap (eL eU8))]] rfl ?_
  refine snil ?_
  refine cret ?_
  obtain rfl := Option.some.inj h
  refine ⟨Or.inr rfl, _, _, _, (resVs_cons (ResV.agg _ _ _ _ _ ti48 rfl (.lp _ _ _ rfl) (Nat.le_of_ble_eq_true rfl)) resVs_nil), (pubA_id rfl), ?_⟩
  rfl

def m44_ssi_effect_ons (a0 : List GSsiTx) (a1 : Int) (a2 : Int) : Option (List GSsiTx) :=
  (idx a0 a1).bind fun u1 => (m64_ssi_passing_1s u1).bind fun v2 => (idx a0 a1).bind fun u3 => (idx (a0.set a1.toNat v2) a2).bind fun u4 => (m65_ssi_passing_2s u4).bind fun v5 => (idx (a0.set a1.toNat v2) a2).bind fun u6 => some ((a0.set a1.toNat v2).set a2.toNat v5)

set_option maxRecDepth 100000 in
theorem m44_ssi_effect_ons_c {a0 : List GSsiTx} {a1 : Int} {a2 : Int} {r : (List GSsiTx)} (h : m44_ssi_effect_ons a0 a1 a2 = some r) : CallsB Try.prog 44 [.arr 48 8 0 (a0.flatMap eGSsiTx)] [.agg [.raw (.func (.func 64) #[] #[]), .raw (.func (.func 65) #[] #[])], .one (.ls 0 a0.length), .one (.i .i64 a1), .one (.i .i64 a2)] (fun y m' => y = .tup [] ∧ m' = [.arr 48 8 0 (r.flatMap eGSsiTx)]) := by
  unfold m44_ssi_effect_ons at h
  refine callsB_of Try.func44 rfl (nt := 28) rfl (Nat.le_of_ble_eq_true rfl) ?_
  intro w0 S0 X0 H0
  refine cseq ?_
  refine cregion ?_
  refine sbox rfl rfl ?_
  refine snil ?_
  refine cseq ?_
  obtain ⟨u1, hu1, h⟩ := bind_eq h
  obtain ⟨v2, hv2, h⟩ := bind_eq h
  obtain ⟨u3, hu3, h⟩ := bind_eq h
  refine cdraw_e [10] [0, 0, 0, 4, 0, 0, 48, 112, 252, 511, 1023] [[.arr 48 8 0 (a0.flatMap eGSsiTx), .box [.raw (.func (.func 64) #[] #[]), .raw (.func (.func 65) #[] #[])]], [.arr 48 8 0 ((a0.set a1.toNat v2).flatMap eGSsiTx), .box [.raw (.func (.func 64) #[] #[]), .raw (.func (.func 65) #[] #[])]]] (by kernel_rfl) mixed (by kernel_rfl) (by decide) rfl rfl rfl rfl ?_
  refine ev (sees_at 0 rfl rfl) rfl rfl (opv_mv rfl) ?_
  refine ev (sees_at 0 rfl rfl) rfl rfl (opv_mv rfl) ?_
  refine ev (sees_at 0 rfl rfl) rfl rfl (opv_fieldAddr_lp fi91_0 rfl) ?_
  refine ev (sees_at 0 rfl rfl) rfl rfl (opv_load1 ti89 rfl (.lp _ _ _ rfl) rfl) ?_
  refine ev (sees_at 0 rfl rfl) rfl rfl (opv_mv rfl) ?_
  refine ev (sees_at 0 rfl rfl) rfl rfl (opv_mv rfl) ?_
  refine ev (sees_at 0 rfl rfl) rfl rfl (opv_ixo (f := eGSsiTx) si26 (fun _ => rfl) rfl rfl rfl (by first | rfl | exact List.length_set.symm) rfl hu1) ?_
  refine ev (sees_at 0 rfl rfl) rfl rfl (opv_ldNo (f := eGSsiTx) (sz := 8) 0 ti48 (fun _ => rfl) rfl rfl rfl rfl (idx_eq hu1).2 (Nat.le_of_ble_eq_true rfl) rfl) ?_
  refine ed (sees_at 0 rfl rfl) rfl rfl (opD_callC fn64 (.raw _ _ rfl) (opnds_cons rfl opnds_nil) rfl (m64_ssi_passing_1s_c hv2)) ?_
  refine ev (sees_at 0 rfl rfl) rfl rfl (opv_ixo (f := eGSsiTx) si26 (fun _ => rfl) rfl rfl rfl (by first | rfl | exact List.length_set.symm) rfl hu3) ?_
  refine ee0 0 rfl rfl rfl rfl (fun ζ => ?_) ?_
  · refine sseto (f := eGSsiTx) (u' := v2) (sz := 8) 0 sz48 (fun _ => rfl) rfl rfl rfl rfl (by first | rfl | exact List.length_set.symm) rfl rfl (List.all_eq_true.1 rfl) (idx_eq hu3).2 (Nat.le_of_ble_eq_true rfl) rfl ?_
    exact eend
  refine enil ?_
  refine then_normal ?_
  refine stell_c 1 (y := .s (.one (.ls 0 a0.length))) (.s (.one (.ls 0 (a0.set a1.toNat v2).length))) rfl (congrArg (fun n => AV.s (.one (.ls 0 n))) List.length_set.symm) ?_
  refine stell_c 8 (y := .s (.one (.ls 0 a0.length))) (.s (.one (.ls 0 (a0.set a1.toNat v2).length))) rfl (congrArg (fun n => AV.s (.one (.ls 0 n))) List.length_set.symm) ?_
  refine stell_c 12 (y := .s (.one (.ls 0 a0.length))) (.s (.one (.ls 0 (a0.set a1.toNat v2).length))) rfl (congrArg (fun n => AV.s (.one (.ls 0 n))) List.length_set.symm) ?_
  obtain ⟨u4, hu4, h⟩ := bind_eq h
  obtain ⟨v5, hv5, h⟩ := bind_eq h
  obtain ⟨u6, hu6, h⟩ := bind_eq h
  refine cdraw_e [10] [0, 0, 0, 4, 0, 0, 48, 112, 252, 511, 1023] [[.arr 48 8 0 ((a0.set a1.toNat v2).flatMap eGSsiTx), .box [.raw (.func (.func 64) #[] #[]), .raw (.func (.func 65) #[] #[])]], [.arr 48 8 0 (((a0.set a1.toNat v2).set a2.toNat v5).flatMap eGSsiTx), .box [.raw (.func (.func 64) #[] #[]), .raw (.func (.func 65) #[] #[])]]] (by kernel_rfl) mixed (by kernel_rfl) (by decide) rfl rfl rfl rfl ?_
  refine ev (sees_at 0 rfl rfl) rfl rfl (opv_mv rfl) ?_
  refine ev (sees_at 0 rfl rfl) rfl rfl (opv_mv rfl) ?_
  refine ev (sees_at 0 rfl rfl) rfl rfl (opv_fieldAddr_lp fi91_1 rfl) ?_
  refine ev (sees_at 0 rfl rfl) rfl rfl (opv_load1 ti89 rfl (.lp _ _ _ rfl) rfl) ?_
  refine ev (sees_at 0 rfl rfl) rfl rfl (opv_mv rfl) ?_
  refine ev (sees_at 0 rfl rfl) rfl rfl (opv_mv rfl) ?_
  refine ev (sees_at 0 rfl rfl) rfl rfl (opv_ixo (f := eGSsiTx) si26 (fun _ => rfl) rfl rfl rfl (by first | rfl | exact List.length_set.symm) rfl hu4) ?_
  refine ev (sees_at 0 rfl rfl) rfl rfl (opv_ldNo (f := eGSsiTx) (sz := 8) 0 ti48 (fun _ => rfl) rfl rfl rfl rfl (idx_eq hu4).2 (Nat.le_of_ble_eq_true rfl) rfl) ?_
  refine ed (sees_at 0 rfl rfl) rfl rfl (opD_callC fn65 (.raw _ _ rfl) (opnds_cons rfl opnds_nil) rfl (m65_ssi_passing_2s_c hv5)) ?_
  refine ev (sees_at 0 rfl rfl) rfl rfl (opv_ixo (f := eGSsiTx) si26 (fun _ => rfl) rfl rfl rfl (by first | rfl | exact List.length_set.symm) rfl hu6) ?_
  refine ee0 0 rfl rfl rfl rfl (fun ζ => ?_) ?_
  · refine sseto (f := eGSsiTx) (u' := v5) (sz := 8) 0 sz48 (fun _ => rfl) rfl rfl rfl rfl (by first | rfl | exact List.length_set.symm) rfl rfl (List.all_eq_true.1 rfl) (idx_eq hu6).2 (Nat.le_of_ble_eq_true rfl) rfl ?_
    exact eend
  refine enil ?_
  obtain rfl := Option.some.inj h
  exact ⟨Or.inl rfl, _, [0], [], [.arr 48 8 0 (((a0.set a1.toNat v2).set a2.toNat v5).flatMap eGSsiTx)], resVs_nil, rfl, rfl, ⟨by decide, rfl⟩, rfl, rfl, ⟨rfl, rfl⟩⟩

def m45_ssi_pivot (a0 : GSsiTx) : Option Bool :=
  if a0.In then (some a0.Out) else (some false)

set_option maxRecDepth 100000 in
theorem m45_ssi_pivot_c {a0 : GSsiTx} {r : Bool} (h : m45_ssi_pivot a0 = some r) : CallsA Try.prog 45 [.agg a0] (· = .s (.one (.b r))) := by
  unfold m45_ssi_pivot at h
  refine callsA_of Try.func45 rfl (nt := 9) rfl (Nat.le_of_ble_eq_true rfl) ?_
  intro w0 S0
  refine cseq ?_
  refine cregion ?_
  refine sbox rfl rfl ?_
  refine sv rfl (opv_as rfl) ?_
  refine snil ?_
  refine cseq ?_
  refine cregion ?_
  refine sv rfl (opv_fieldAddr_lp fi48_4 rfl) ?_
  refine sv rfl (opv_load1 ti4 rfl (.lp _ _ _ rfl) rfl) ?_
  refine sv rfl (opv_mv rfl) ?_
  refine ssplit 5 rfl (fun hc => ?_) (fun hc => ?_)
  · replace h := ite_t hc h
    clear hc
    refine son rfl rfl rfl ?_
    refine sv rfl (opv_fieldAddr_lp fi48_5 rfl) ?_
    refine son rfl rfl rfl ?_
    refine sv rfl (opv_load1 ti4 rfl (.lp _ _ _ rfl) rfl) ?_
    refine sv rfl (opv_pick_t rfl rfl) ?_
    refine sv rfl (opv_as rfl) ?_
    refine snil ?_
    refine cret ?_
    obtain rfl := Option.some.inj h
    refine ⟨Or.inr rfl, _, _, _, (resVs_cons (ResV.tmp _ _ rfl) resVs_nil), (pubA_id rfl), ?_⟩
    rfl
  · replace h := ite_f hc h
    clear hc
    refine soff rfl rfl rfl rfl ?_
    refine soff rfl rfl rfl rfl ?_
    refine sv rfl (opv_pick_f rfl rfl) ?_
    refine sv rfl (opv_as rfl) ?_
    refine snil ?_
    refine cret ?_
    obtain rfl := Option.some.inj h
    refine ⟨Or.inr rfl, _, _, _, (resVs_cons (ResV.tmp _ _ rfl) resVs_nil), (pubA_id rfl), ?_⟩
    rfl

def m19_ssi_Read_k5 (v3 : GReadsTable × Int) (b5 : (List GSsiTx)) : Option (GSsiCert × Int) :=
  some ((GSsiCert.mk b5 v3.1), 0)

def m19_ssi_Read_k8 (v2 : Int) (s6 : Int × (List GSsiTx)) (b8 : Unit) : Option (LR (Int × (List GSsiTx)) ((List GSsiTx)) (GSsiCert × Int)) :=
  (m43_ssi_passings).bind fun v9 => (m44_ssi_effect_ons s6.2 v2 s6.1).bind fun v10 => if v10.length = s6.2.length then ((idx v10 s6.1).bind fun u12 => (m45_ssi_pivot u12).bind fun v13 => if v13 then (some (.ret ((GSsiCert.mk ([] : List GSsiTx) (GReadsTable.mk ([] : List GReadsRead))), 10))) else (some (.cont ((wI (s6.1 + 1)), v10)))) else none

def m19_ssi_Read_s6 (a2 : GApiRange) (v2 : Int) (v4 : (List GSsiTx)) (s6 : Int × (List GSsiTx)) : Option (LR (Int × (List GSsiTx)) ((List GSsiTx)) (GSsiCert × Int)) :=
  if (decide (s6.1 < (v4.length : Int))) then ((idx s6.2 s6.1).bind fun u7 => if (!decide (u7.State = 2)) then (some (.cont ((wI (s6.1 + 1)), s6.2))) else ((idx s6.2 v2).bind fun u14 => (m41_ssi_beside u7 u14).bind fun v15 => if (!v15) then (some (.cont ((wI (s6.1 + 1)), s6.2))) else ((m42_ssi_wroteIn u7 (GApiRange.mk a2.Lo a2.Hi a2.Open)).bind fun v16 => if (!v16) then (some (.cont ((wI (s6.1 + 1)), s6.2))) else (m19_ssi_Read_k8 v2 s6 ())))) else (some (.brk s6.2))
def m19_ssi_Read (a0 : GSsiCert) (a1 : Int) (a2 : GApiRange) : Option (GSsiCert × Int) :=
  (m13_ssi_Sane (GSsiCert.mk a0.Txs (GReadsTable.mk a0.Reads.L))).bind fun v1 => if (!v1) then (some ((GSsiCert.mk ([] : List GSsiTx) (GReadsTable.mk ([] : List GReadsRead))), 1)) else ((m35_ssi_active (GSsiCert.mk a0.Txs (GReadsTable.mk a0.Reads.L)) a1).bind fun v2 => if (decide (v2 < 0)) then (some ((GSsiCert.mk ([] : List GSsiTx) (GReadsTable.mk ([] : List GReadsRead))), 7)) else ((m39_reads_Add (GReadsTable.mk a0.Reads.L) a1 a2).bind fun v3 => if (!decide (v3.2 = 0)) then (some ((GSsiCert.mk ([] : List GSsiTx) (GReadsTable.mk ([] : List GReadsRead))), v3.2)) else ((m40_slices_Cloneo a0.Txs).bind fun v4 => (iter (m19_ssi_Read_s6 a2 v2 v4) fuel (0, v4)).bind fun x => match x with | .inl r => some r | .inr e17 => m19_ssi_Read_k5 v3 e17)))

set_option maxRecDepth 100000 in
theorem m19_ssi_Read_c {a0 : GSsiCert} {a1 : Int} {a2 : GApiRange} {r : GSsiCert × Int} (h : m19_ssi_Read a0 a1 a2 = some r) : CallsA Try.prog 19 [.agg a0, .one (.i .i64 a1), .agg a2] (· = .tup [.agg r.1, .one (.i .i64 r.2)]) := by
  unfold m19_ssi_Read at h
  refine callsA_of Try.func19 rfl (nt := 79) rfl (Nat.le_of_ble_eq_true rfl) ?_
  intro w0 S0
  refine cseq ?_
  refine cregion ?_
  refine sbox rfl rfl ?_
  refine sbox rfl rfl ?_
  refine salloc rfl zi31 ?_
  refine sv rfl (opv_as rfl) ?_
  refine snil ?_
  refine cseq ?_
  refine cseq ?_
  refine cregion ?_
  refine sv rfl (opv_loadN ti31 rfl (.lp _ _ _ rfl) (Nat.le_of_ble_eq_true rfl)) ?_
  obtain ⟨v1, hv1, h⟩ := bind_eq h
  refine scall1 rfl fn13 (opnds_cons rfl opnds_nil) (pubA_id rfl) (m13_ssi_Sane_c hv1) ?_
  refine sv rfl (opv_not rfl) ?_
  refine snil ?_
  refine ccond rfl (fun hc => ?_) (fun hc => ?_)
  · replace h := ite_t hc h
    clear hc
    refine cseq ?_
    refine cregion ?_
    refine sv rfl (opv_build zi31 pi31 parts_nil (.nil _)) ?_
    refine sstore sz31 rfl rfl rfl rfl (Nat.le_of_ble_eq_true rfl) ?_
    refine smem [.box a0, .box a2, .box [.raw (.slice none 0 0), .raw (.slice none 0 0)]] rfl ?_
    refine sv rfl (opv_as rfl) ?_
    refine snil ?_
    refine cret ?_
    refine then_ret ?_
    obtain rfl := Option.some.inj h
    refine ⟨Or.inr rfl, _, _, _, (resVs_cons (ResV.agg _ _ _ _ _ ti31 rfl (.lp _ _ _ rfl) (Nat.le_of_ble_eq_true rfl)) (resVs_cons (ResV.tmp _ _ rfl) resVs_nil)), (pubC rfl), ?_⟩
    rfl
  · replace h := ite_f hc h
    clear hc
    refine cskip ?_
    refine then_normal ?_
    refine cseq ?_
    refine cregion ?_
    refine sv rfl (opv_loadN ti31 rfl (.lp _ _ _ rfl) (Nat.le_of_ble_eq_true rfl)) ?_
    refine sv rfl (opv_mv rfl) ?_
    obtain ⟨v2, hv2, h⟩ := bind_eq h
    refine scall1 rfl fn35 (opnds_cons rfl (opnds_cons rfl opnds_nil)) (pubA_id rfl) (m35_ssi_active_c hv2) ?_
    refine sv rfl (opv_as rfl) ?_
    refine snil ?_
    refine cseq ?_
    refine cseq ?_
    refine cregion ?_
    refine sv rfl (opv_mv rfl) ?_
    refine sv rfl (opv_lss rfl rfl) ?_
    refine snil ?_
    refine ccond rfl (fun hc => ?_) (fun hc => ?_)
    · replace h := ite_t hc h
      clear hc
      refine cseq ?_
      refine cregion ?_
      refine sv rfl (opv_build zi31 pi31 parts_nil (.nil _)) ?_
      refine sstore sz31 rfl rfl rfl rfl (Nat.le_of_ble_eq_true rfl) ?_
      refine smem [.box a0, .box a2, .box [.raw (.slice none 0 0), .raw (.slice none 0 0)]] rfl ?_
      refine sv rfl (opv_as rfl) ?_
      refine snil ?_
      refine cret ?_
      refine then_ret ?_
      obtain rfl := Option.some.inj h
      refine ⟨Or.inr rfl, _, _, _, (resVs_cons (ResV.agg _ _ _ _ _ ti31 rfl (.lp _ _ _ rfl) (Nat.le_of_ble_eq_true rfl)) (resVs_cons (ResV.tmp _ _ rfl) resVs_nil)), (pubC rfl), ?_⟩
      rfl
    · replace h := ite_f hc h
      clear hc
      refine cskip ?_
      refine then_normal ?_
      refine cseq ?_
      refine cregion ?_
      refine sv rfl (opv_fieldAddr_lp fi31_1 rfl) ?_
      refine sv rfl (opv_loadN ti29 rfl (.lp _ _ _ rfl) (Nat.le_of_ble_eq_true rfl)) ?_
      refine sv rfl (opv_mv rfl) ?_
      refine sv rfl (opv_loadN ti40 rfl (.lp _ _ _ rfl) (Nat.le_of_ble_eq_true rfl)) ?_
      obtain ⟨v3, hv3, h⟩ := bind_eq h
      refine scall1 rfl fn39 (opnds_cons rfl (opnds_cons rfl (opnds_cons rfl opnds_nil))) (pubA_id rfl) (m39_reads_Add_c hv3) ?_
      refine sv rfl (opv_mvt rfl) ?_
      refine sv rfl (opv_extract rfl rfl) ?_
      refine sv rfl (opv_extract rfl rfl) ?_
      refine salloc rfl zi29 ?_
      refine sstore sz29 rfl rfl rfl rfl (Nat.le_of_ble_eq_true rfl) ?_
      refine smem [.box a0, .box a2, .box [.raw (.slice none 0 0), .raw (.slice none 0 0)], .box [.sl v3.1.L.length (v3.1.L.flatMap eGReadsRead)]] rfl ?_
      refine sv rfl (opv_as rfl) ?_
      refine snil ?_
      refine cseq ?_
      refine cseq ?_
      refine cregion ?_
      refine sv rfl (opv_mv rfl) ?_
      refine sv rfl (opv_ineq rfl rfl) ?_
      refine snil ?_
      refine ccond rfl (fun hc => ?_) (fun hc => ?_)
      · replace h := ite_t hc h
        clear hc
        refine cseq ?_
        refine cregion ?_
        refine sv rfl (opv_build zi31 pi31 parts_nil (.nil _)) ?_
        refine sv rfl (opv_mv rfl) ?_
        refine sstore sz31 rfl rfl rfl rfl (Nat.le_of_ble_eq_true rfl) ?_
        refine smem [.box a0, .box a2, .box [.raw (.slice none 0 0), .raw (.slice none 0 0)], .box [.sl v3.1.L.length (v3.1.L.flatMap eGReadsRead)]] rfl ?_
        refine sv rfl (opv_as rfl) ?_
        refine snil ?_
        refine cret ?_
        refine then_ret ?_
        obtain rfl := Option.some.inj h
        refine ⟨Or.inr rfl, _, _, _, (resVs_cons (ResV.agg _ _ _ _ _ ti31 rfl (.lp _ _ _ rfl) (Nat.le_of_ble_eq_true rfl)) (resVs_cons (ResV.tmp _ _ rfl) resVs_nil)), (pubC rfl), ?_⟩
        rfl
      · replace h := ite_f hc h
        clear hc
        refine cskip ?_
        refine then_normal ?_
        refine cseq ?_
        refine cregion ?_
        refine sv rfl (opv_fieldAddr_lp fi31_0 rfl) ?_
        refine sv rfl (opv_load1 ti26 rfl (.lp _ _ _ rfl) rfl) ?_
        obtain ⟨v4, hv4, h⟩ := bind_eq h
        refine scallB (x' := .s (.one (.ls 4 v4.length))) (M' := [.box a0, .box a2, .box [.raw (.slice none 0 0), .raw (.slice none 0 0)], .box [.sl v3.1.L.length (v3.1.L.flatMap eGReadsRead)], .arr 48 8 0 (v4.flatMap eGSsiTx)]) [] rfl fn40 (.func _) (opnds_cons rfl opnds_nil) (m40_slices_Cloneo_c hv4) rfl rfl (by decide) rfl rfl rfl ?_
        refine sv rfl (opv_as rfl) ?_
        refine snil ?_
        refine cseq ?_
        refine cseq ?_
        refine cregion ?_
        refine sv rfl (opv_mv rfl) ?_
        refine sv rfl (opv_len_ls si26 rfl rfl (flat_len (f := eGSsiTx) (fun _ => rfl) _).symm) ?_
        refine sv rfl (opv_mv rfl) ?_
        refine snil ?_
        refine cjoin ((List GSsiTx)) (fun b5 => [(6, .s (.one (.lp 2 0))), (9, .s (.one (.lp 3 0))), (11, .s (.one (.ls 4 b5.length)))]) (fun b5 => [.box a0, .box a2, .box [.raw (.slice none 0 0), .raw (.slice none 0 0)], .box [.sl v3.1.L.length (v3.1.L.flatMap eGReadsRead)], .arr 48 8 0 (b5.flatMap eGSsiTx)]) (fun b5 => m19_ssi_Read_k5 v3 b5 = some r) (fun _ _ => inbL_of rfl) (fun _ _ => blkinb_of rfl) (fun _ _ => Nat.le_of_ble_eq_true rfl) (fun b5 h => ?_) ?_
        · unfold m19_ssi_Read_k5 at h
          refine cseq ?_
          refine cregion ?_
          refine sv rfl (opv_mv rfl) ?_
          refine sv rfl (opv_loadN ti29 rfl (.lp _ _ _ rfl) (Nat.le_of_ble_eq_true rfl)) ?_
          refine sv rfl (opv_build zi31 pi31 (parts_cons rfl (parts_cons rfl parts_nil)) (.cons _ _ _ _ _ _ _ rfl rfl (Nat.le_of_ble_eq_true rfl) (.cons _ _ _ _ _ _ _ rfl rfl (Nat.le_of_ble_eq_true rfl) (.nil _)))) ?_
          refine sstore sz31 rfl rfl rfl rfl (Nat.le_of_ble_eq_true rfl) ?_
          refine smem [.box a0, .box a2, .box [.ls 4 b5.length, .sl v3.1.L.length (v3.1.L.flatMap eGReadsRead)], .box [.sl v3.1.L.length (v3.1.L.flatMap eGReadsRead)], .arr 48 8 0 (b5.flatMap eGSsiTx)] rfl ?_
          refine sv rfl (opv_as rfl) ?_
          refine snil ?_
          refine cret ?_
          obtain rfl := Option.some.inj h
          refine ⟨Or.inr rfl, _, _, _, (resVs_cons (ResV.agg _ _ _ _ _ ti31 rfl (.lp _ _ _ rfl) (Nat.le_of_ble_eq_true rfl)) (resVs_cons (ResV.tmp _ _ rfl) resVs_nil)), (by (repeat' first | exact PubA.nil _ | apply PubA.cons | apply PubV.one | apply PubV.agg | exact PubL.nil | exact PubL.ls _ _ _ _ _ _ rfl (flat_len (f := eGSsiTx) (fun _ => rfl) _).symm | exact PubL.id _ rfl | exact PubLs.nil _ | apply PubLs.cons)), ?_⟩
          rfl
        · skip
          refine cblock ?_
          obtain ⟨x6, hx6, ho6⟩ := bind_eq h
          refine awc_loop (G := Nat × (Int × (List GSsiTx))) (fun g => [(5, .s (.one (.lp 1 0))), (6, .s (.one (.lp 2 0))), (8, .s (.one (.i .i64 v2))), (9, .s (.one (.lp 3 0))), (11, .s (.one (.ls 4 g.2.2.length))), (39, .s (.one (.ls 4 g.2.2.length))), (40, .s (.one (.i .i64 (v4.length : Int)))), (41, .s (.one (.i .i64 g.2.1)))]) (fun g => [.box a0, .box a2, .box [.raw (.slice none 0 0), .raw (.slice none 0 0)], .box [.sl v3.1.L.length (v3.1.L.flatMap eGReadsRead)], .arr 48 8 0 (g.2.2.flatMap eGSsiTx)]) (fun g => iter (m19_ssi_Read_s6 a2 v2 v4) g.1 g.2 = some x6) (fun g => g.1) (fuel, (0, v4)) hx6 ⟨rfl, rfl, rfl, rfl, rfl, rfl, rfl, rfl, trivial⟩ [] rfl (fun _ _ => inbL_of rfl) (fun _ _ => blkinb_of rfl) (fun _ _ => Nat.le_of_ble_eq_true rfl) ?_
          clear hx6 h
          rintro ⟨n6, s6⟩ h
          obtain ⟨n6, y6, rfl, h, hk6⟩ := iter_eq h
          unfold m19_ssi_Read_s6 at h
          refine cseq ?_
          refine cregion ?_
          refine sv rfl (opv_lss rfl rfl) ?_
          refine snil ?_
          refine cseq ?_
          refine ccond rfl (fun hc => ?_) (fun hc => ?_)
          · replace h := ite_t hc h
            clear hc
            refine cskip ?_
            refine then_normal ?_
            refine cseq ?_
            refine cblock ?_
            refine cseq ?_
            refine cregion ?_
            refine sv rfl (opv_mv rfl) ?_
            obtain ⟨u7, hu7, h⟩ := bind_eq h
            refine sv rfl (opv_ixo (f := eGSsiTx) si26 (fun _ => rfl) rfl rfl rfl rfl rfl hu7) ?_
            refine sv rfl (opv_ldNo (f := eGSsiTx) (sz := 8) 0 ti48 (fun _ => rfl) rfl rfl rfl rfl (idx_eq hu7).2 (Nat.le_of_ble_eq_true rfl) rfl) ?_
            refine salloc rfl zi48 ?_
            refine sv rfl (opv_as rfl) ?_
            refine sstore sz48 rfl rfl rfl rfl (Nat.le_of_ble_eq_true rfl) ?_
            refine smem [.box a0, .box a2, .box [.raw (.slice none 0 0), .raw (.slice none 0 0)], .box [.sl v3.1.L.length (v3.1.L.flatMap eGReadsRead)], .arr 48 8 0 (s6.2.flatMap eGSsiTx), .box u7] rfl ?_
            refine snil ?_
            refine cseq ?_
            refine cseq ?_
            refine cjoin3 (Unit) (fun b8 => [(5, .s (.one (.lp 1 0))), (6, .s (.one (.lp 2 0))), (8, .s (.one (.i .i64 v2))), (9, .s (.one (.lp 3 0))), (11, .s (.one (.ls 4 s6.2.length))), (12, .s (.one (.i .i64 s6.1))), (39, .s (.one (.ls 4 s6.2.length))), (40, .s (.one (.i .i64 (v4.length : Int)))), (41, .s (.one (.i .i64 s6.1)))]) (fun b8 => [.box a0, .box a2, .box [.raw (.slice none 0 0), .raw (.slice none 0 0)], .box [.sl v3.1.L.length (v3.1.L.flatMap eGReadsRead)], .arr 48 8 0 (s6.2.flatMap eGSsiTx), .box u7]) (fun b8 => m19_ssi_Read_k8 v2 s6 b8 = some y6) (fun _ _ => inbL_of rfl) (fun _ _ => blkinb_of rfl) (fun _ _ => Nat.le_of_ble_eq_true rfl) (fun b8 h => ?_) ?_
            · unfold m19_ssi_Read_k8 at h
              refine cseq ?_
              refine cregion ?_
              obtain ⟨v9, hv9, h⟩ := bind_eq h
              refine scallB (x' := .s (.agg [.raw (.func (.func 64) #[] #[]), .raw (.func (.func 65) #[] #[])])) (M' := [.box a0, .box a2, .box [.raw (.slice none 0 0), .raw (.slice none 0 0)], .box [.sl v3.1.L.length (v3.1.L.flatMap eGReadsRead)], .arr 48 8 0 (s6.2.flatMap eGSsiTx), .box u7]) [] rfl fn43 (.func _) opnds_nil (m43_ssi_passings_c hv9) rfl rfl (by decide) rfl rfl rfl ?_
              refine sv rfl (opv_mv rfl) ?_
              refine sv rfl (opv_mv rfl) ?_
              refine sv rfl (opv_mv rfl) ?_
              obtain ⟨v10, hv10, h⟩ := bind_eq h
              refine scallB (x' := .tup []) (M' := [.box a0, .box a2, .box [.raw (.slice none 0 0), .raw (.slice none 0 0)], .box [.sl v3.1.L.length (v3.1.L.flatMap eGReadsRead)], .arr 48 8 0 (v10.flatMap eGSsiTx), .box u7]) [4] rfl fn44 (.func _) (opnds_cons rfl (opnds_cons rfl (opnds_cons rfl (opnds_cons rfl opnds_nil)))) (m44_ssi_effect_ons_c hv10) rfl rfl (by decide) rfl rfl rfl ?_
              obtain ⟨hl11, h⟩ := chk_eq h
              refine stell 11 (y := .s (.one (.ls 4 s6.2.length))) (.s (.one (.ls 4 v10.length))) rfl (congrArg (fun n => AV.s (.one (.ls 4 n))) hl11.symm) ?_
              refine stell 39 (y := .s (.one (.ls 4 s6.2.length))) (.s (.one (.ls 4 v10.length))) rfl (congrArg (fun n => AV.s (.one (.ls 4 n))) hl11.symm) ?_
              refine stell 65 (y := .s (.one (.ls 4 s6.2.length))) (.s (.one (.ls 4 v10.length))) rfl (congrArg (fun n => AV.s (.one (.ls 4 n))) hl11.symm) ?_
              refine snil ?_
              refine cseq ?_
              refine cregion ?_
              refine sv rfl (opv_mv rfl) ?_
              refine sv rfl (opv_mv rfl) ?_
              obtain ⟨u12, hu12, h⟩ := bind_eq h
              refine sv rfl (opv_ixo (f := eGSsiTx) si26 (fun _ => rfl) rfl rfl rfl rfl rfl hu12) ?_
              refine sv rfl (opv_ldNo (f := eGSsiTx) (sz := 8) 0 ti48 (fun _ => rfl) rfl rfl rfl rfl (idx_eq hu12).2 (Nat.le_of_ble_eq_true rfl) rfl) ?_
              obtain ⟨v13, hv13, h⟩ := bind_eq h
              refine scall1 rfl fn45 (opnds_cons rfl opnds_nil) (pubA_id rfl) (m45_ssi_pivot_c hv13) ?_
              refine snil ?_
              refine ccond rfl (fun hc => ?_) (fun hc => ?_)
              · replace h := ite_t hc h
                clear hc
                refine cseq ?_
                refine cregion ?_
                refine sv rfl (opv_build zi31 pi31 parts_nil (.nil _)) ?_
                refine sstore sz31 rfl rfl rfl rfl (Nat.le_of_ble_eq_true rfl) ?_
                refine smem [.box a0, .box a2, .box [.raw (.slice none 0 0), .raw (.slice none 0 0)], .box [.sl v3.1.L.length (v3.1.L.flatMap eGReadsRead)], .arr 48 8 0 (v10.flatMap eGSsiTx), .box u7] rfl ?_
                refine sv rfl (opv_as rfl) ?_
                refine snil ?_
                refine cret ?_
                refine block_ret ?_
                refine then_ret ?_
                refine then_ret ?_
                refine block_ret ?_
                refine then_ret ?_
                obtain rfl := Option.some.inj h
                obtain rfl : Sum.inl _ = x6 := hk6
                replace ho6 : some _ = some _ := ho6
                obtain rfl := Option.some.inj ho6
                refine ⟨Or.inr rfl, _, _, _, (resVs_cons (ResV.agg _ _ _ _ _ ti31 rfl (.lp _ _ _ rfl) (Nat.le_of_ble_eq_true rfl)) (resVs_cons (ResV.tmp _ _ rfl) resVs_nil)), (pubC rfl), ?_⟩
                rfl
              · replace h := ite_f hc h
                clear hc
                refine cskip ?_
                refine block_normal ?_
                refine then_normal ?_
                refine cregion ?_
                refine sv rfl (opv_add rfl rfl) ?_
                refine sv rfl (opv_mv rfl) ?_
                refine snil ?_
                obtain rfl := Option.some.inj h
                exact ⟨(n6, ((wI (s6.1 + 1)), v10)), _, hk6, ⟨rfl, rfl, rfl, rfl, rfl, rfl, rfl, rfl, trivial⟩, rfl, Nat.lt_succ_self _⟩
            · skip
              refine cdraw mixed (by kernel_rfl) ?_
              refine dv rfl (opv_fieldAddr_lp fi48_3 rfl) ?_
              refine dv rfl (opv_load1 ti3 rfl (.lp _ _ _ rfl) rfl) ?_
              refine dv rfl (opv_ineq rfl rfl) ?_
              refine dv rfl (opv_mv rfl) ?_
              refine dsplit 49 rfl (fun hc => ?_) (fun hc => ?_)
              · replace h := ite_t hc h
                clear hc
                refine doff rfl rfl rfl rfl ?_
                refine doff rfl rfl rfl rfl ?_
                refine doff rfl rfl rfl rfl ?_
                refine doff rfl rfl rfl rfl ?_
                refine doff rfl rfl rfl rfl ?_
                refine doff rfl rfl rfl rfl ?_
                refine doff rfl rfl rfl rfl ?_
                refine dv rfl (opv_pick_t rfl rfl) ?_
                refine dv rfl (opv_mv rfl) ?_
                refine doff rfl rfl rfl rfl ?_
                refine doff rfl rfl rfl rfl ?_
                refine doff rfl rfl rfl rfl ?_
                refine doff rfl rfl rfl rfl ?_
                refine dv rfl (opv_pick_t rfl rfl) ?_
                refine dnil ?_
                refine then_normal ?_
                refine ccond rfl (fun _ => ?_) (fun hx => Bool.noConfusion hx)
                refine cexit ?_
                refine then_exit ?_
                refine block_hit ?_
                refine then_normal ?_
                refine cregion ?_
                refine sv rfl (opv_add rfl rfl) ?_
                refine sv rfl (opv_mv rfl) ?_
                refine snil ?_
                obtain rfl := Option.some.inj h
                exact ⟨(n6, ((wI (s6.1 + 1)), s6.2)), _, hk6, ⟨rfl, rfl, rfl, rfl, rfl, rfl, rfl, rfl, trivial⟩, rfl, Nat.lt_succ_self _⟩
              · replace h := ite_f hc h
                clear hc
                refine dvg rfl rfl rfl (opv_loadN ti48 rfl (.lp _ _ _ rfl) (Nat.le_of_ble_eq_true rfl)) ?_
                refine dvg rfl rfl rfl (opv_mv rfl) ?_
                refine dvg rfl rfl rfl (opv_mv rfl) ?_
                obtain ⟨u14, hu14, h⟩ := bind_eq h
                refine dvg rfl rfl rfl (opv_ixo (f := eGSsiTx) si26 (fun _ => rfl) rfl rfl rfl rfl rfl hu14) ?_
                refine dvg rfl rfl rfl (opv_ldNo (f := eGSsiTx) (sz := 8) 0 ti48 (fun _ => rfl) rfl rfl rfl rfl (idx_eq hu14).2 (Nat.le_of_ble_eq_true rfl) rfl) ?_
                obtain ⟨v15, hv15, h⟩ := bind_eq h
                refine ddg rfl rfl rfl (opD_call fn41 (opnds_cons rfl (opnds_cons rfl opnds_nil)) rfl (m41_ssi_beside_c hv15)) ?_
                refine dvg rfl rfl rfl (opv_not rfl) ?_
                refine dv rfl (opv_pick_f rfl rfl) ?_
                refine dv rfl (opv_mv rfl) ?_
                refine dsplit 58 rfl (fun hc => ?_) (fun hc => ?_)
                · replace h := ite_t hc h
                  clear hc
                  refine doff rfl rfl rfl rfl ?_
                  refine doff rfl rfl rfl rfl ?_
                  refine doff rfl rfl rfl rfl ?_
                  refine doff rfl rfl rfl rfl ?_
                  refine dv rfl (opv_pick_t rfl rfl) ?_
                  refine dnil ?_
                  refine then_normal ?_
                  refine ccond rfl (fun _ => ?_) (fun hx => Bool.noConfusion hx)
                  refine cexit ?_
                  refine then_exit ?_
                  refine block_hit ?_
                  refine then_normal ?_
                  refine cregion ?_
                  refine sv rfl (opv_add rfl rfl) ?_
                  refine sv rfl (opv_mv rfl) ?_
                  refine snil ?_
                  obtain rfl := Option.some.inj h
                  exact ⟨(n6, ((wI (s6.1 + 1)), s6.2)), _, hk6, ⟨rfl, rfl, rfl, rfl, rfl, rfl, rfl, rfl, trivial⟩, rfl, Nat.lt_succ_self _⟩
                · replace h := ite_f hc h
                  clear hc
                  refine dvg rfl rfl rfl (opv_loadN ti48 rfl (.lp _ _ _ rfl) (Nat.le_of_ble_eq_true rfl)) ?_
                  refine dvg rfl rfl rfl (opv_loadN ti40 rfl (.lp _ _ _ rfl) (Nat.le_of_ble_eq_true rfl)) ?_
                  obtain ⟨v16, hv16, h⟩ := bind_eq h
                  refine ddg rfl rfl rfl (opD_call fn42 (opnds_cons rfl (opnds_cons rfl opnds_nil)) rfl (m42_ssi_wroteIn_c hv16)) ?_
                  refine dvg rfl rfl rfl (opv_not rfl) ?_
                  refine dv rfl (opv_pick_f rfl rfl) ?_
                  refine dnil ?_
                  refine then_normal ?_
                  refine ccond rfl (fun hc => ?_) (fun hc => ?_)
                  · replace h := ite_t hc h
                    clear hc
                    refine cexit ?_
                    refine then_exit ?_
                    refine block_hit ?_
                    refine then_normal ?_
                    refine cregion ?_
                    refine sv rfl (opv_add rfl rfl) ?_
                    refine sv rfl (opv_mv rfl) ?_
                    refine snil ?_
                    obtain rfl := Option.some.inj h
                    exact ⟨(n6, ((wI (s6.1 + 1)), s6.2)), _, hk6, ⟨rfl, rfl, rfl, rfl, rfl, rfl, rfl, rfl, trivial⟩, rfl, Nat.lt_succ_self _⟩
                  · replace h := ite_f hc h
                    clear hc
                    refine cskip ?_
                    refine then_normal ?_
                    exact ⟨(), _, h, ⟨rfl, rfl, rfl, rfl, rfl, rfl, rfl, rfl, rfl, trivial⟩, rfl⟩
          · replace h := ite_f hc h
            clear hc
            refine cexit ?_
            refine then_exit ?_
            refine then_exit ?_
            refine block_hit ?_
            refine then_normal ?_
            obtain rfl := Option.some.inj h
            obtain rfl : _ = x6 := hk6
            exact ⟨s6.2, _, ho6, ⟨rfl, rfl, rfl, trivial⟩, rfl⟩

def m46_ssi_mayEnd_k2 (b2 : Unit) : Option Bool :=
  some true

def m46_ssi_mayEnd_s3 (a0 : GSsiCert) (a2 : Int) (s3 : Int) : Option (LR (Int) (Unit) (Bool)) :=
  if (decide (s3 < (a0.Txs.length : Int))) then ((idx a0.Txs s3).bind fun u4 => if (decide (a2 ≤ u4.End)) then (some (.ret false)) else (some (.cont (wI (s3 + 1))))) else (some (.brk ()))

def m46_ssi_mayEnd_k1 (a0 : GSsiCert) (a2 : Int) (b1 : Unit) : Option Bool :=
  (iter (m46_ssi_mayEnd_s3 a0 a2) fuel 0).bind fun x => match x with | .inl r => some r | .inr e5 => m46_ssi_mayEnd_k2 e5
def m46_ssi_mayEnd (a0 : GSsiCert) (a1 : GSsiTx) (a2 : Int) (a3 : List (List UInt8)) : Option Bool :=
  if (decide (a2 ≤ a1.Begin)) then (some false) else (if (decide (1099511627776 < a2)) then (some false) else ((m54_ssi_saneKeys a3).bind fun v6 => if (!v6) then (some false) else (if a1.RO then (if (decide (0 < (a3.length : Int))) then (some false) else (m46_ssi_mayEnd_k1 a0 a2 ())) else (m46_ssi_mayEnd_k1 a0 a2 ()))))

set_option maxRecDepth 100000 in
theorem m46_ssi_mayEnd_c {a0 : GSsiCert} {a1 : GSsiTx} {a2 : Int} {a3 : List (List UInt8)} {r : Bool} (h : m46_ssi_mayEnd a0 a1 a2 a3 = some r) : CallsA Try.prog 46 [.agg a0, .agg a1, .one (.i .i64 a2), .one (.sl a3.length (a3.flatMap (eL eU8)))] (· = .s (.one (.b r))) := by
  unfold m46_ssi_mayEnd at h
  refine callsA_of Try.func46 rfl (nt := 45) rfl (Nat.le_of_ble_eq_true rfl) ?_
  intro w0 S0
  refine cseq ?_
  refine cregion ?_
  refine sbox rfl rfl ?_
  refine sbox rfl rfl ?_
  refine sv rfl (opv_as rfl) ?_
  refine snil ?_
  refine cseq ?_
  refine cseq ?_
  refine cjoin3 (Unit) (fun b1 => [(2, .s (.one (.i .i64 a2))), (4, .s (.one (.lp 0 0)))]) (fun b1 => [.box a0, .box a1]) (fun b1 => m46_ssi_mayEnd_k1 a0 a2 b1 = some r) (fun _ _ => inbL_of rfl) (fun _ _ => blkinb_of rfl) (fun _ _ => Nat.le_of_ble_eq_true rfl) (fun b1 h => ?_) ?_
  · unfold m46_ssi_mayEnd_k1 at h
    refine cseq ?_
    refine cseq ?_
    refine cregion ?_
    refine sv rfl (opv_fieldAddr_lp fi31_0 rfl) ?_
    refine sv rfl (opv_load1 ti26 rfl (.lp _ _ _ rfl) rfl) ?_
    refine sv rfl (opv_len_sl si26 rfl) ?_
    refine sv rfl (opv_mv rfl) ?_
    refine snil ?_
    refine cjoin (Unit) (fun b2 => []) (fun b2 => [.box a0, .box a1]) (fun b2 => m46_ssi_mayEnd_k2 b2 = some r) (fun _ _ => inbL_of rfl) (fun _ _ => blkinb_of rfl) (fun _ _ => Nat.le_of_ble_eq_true rfl) (fun b2 h => ?_) ?_
    · unfold m46_ssi_mayEnd_k2 at h
      refine cseq ?_
      refine cregion ?_
      refine sv rfl (opv_as rfl) ?_
      refine snil ?_
      refine cret ?_
      obtain rfl := Option.some.inj h
      refine ⟨Or.inr rfl, _, _, _, (resVs_cons (ResV.tmp _ _ rfl) resVs_nil), (pubA_id rfl), ?_⟩
      rfl
    · skip
      refine cblock ?_
      obtain ⟨x3, hx3, ho3⟩ := bind_eq h
      refine awc_loop (G := Nat × (Int)) (fun g => [(2, .s (.one (.i .i64 a2))), (34, .s (.one (.sl a0.Txs.length (a0.Txs.flatMap eGSsiTx)))), (35, .s (.one (.i .i64 (a0.Txs.length : Int)))), (36, .s (.one (.i .i64 g.2)))]) (fun g => [.box a0, .box a1]) (fun g => iter (m46_ssi_mayEnd_s3 a0 a2) g.1 g.2 = some x3) (fun g => g.1) (fuel, 0) hx3 ⟨rfl, rfl, rfl, rfl, trivial⟩ [] rfl (fun _ _ => inbL_of rfl) (fun _ _ => blkinb_of rfl) (fun _ _ => Nat.le_of_ble_eq_true rfl) ?_
      clear hx3 h
      rintro ⟨n3, s3⟩ h
      obtain ⟨n3, y3, rfl, h, hk3⟩ := iter_eq h
      unfold m46_ssi_mayEnd_s3 at h
      refine cseq ?_
      refine cregion ?_
      refine sv rfl (opv_lss rfl rfl) ?_
      refine snil ?_
      refine cseq ?_
      refine ccond rfl (fun hc => ?_) (fun hc => ?_)
      · replace h := ite_t hc h
        clear hc
        refine cskip ?_
        refine then_normal ?_
        refine cseq ?_
        refine cblock ?_
        refine cseq ?_
        refine cregion ?_
        obtain ⟨u4, hu4, h⟩ := bind_eq h
        refine sv rfl (opv_ix (f := eGSsiTx) si26 (fun _ => rfl) rfl rfl rfl rfl hu4) ?_
        refine sv rfl (opv_loadNe (ys := [.i .i64 u4.ID, .i .i64 u4.Begin, .i .i64 u4.End, .i .i64 u4.State, .b u4.In, .b u4.Out, .b u4.RO, .sl u4.Keys.length (u4.Keys.flatMap (eL eU8))]) ti48 rfl (.cp _) rfl rfl) ?_
        refine salloc rfl zi48 ?_
        refine sstore sz48 rfl rfl rfl rfl (Nat.le_of_ble_eq_true rfl) ?_
        refine smem [.box a0, .box a1, .box u4] rfl ?_
        refine snil ?_
        refine cseq ?_
        refine cregion ?_
        refine sv rfl (opv_mv rfl) ?_
        refine sv rfl (opv_fieldAddr_lp fi48_2 rfl) ?_
        refine sv rfl (opv_load1 ti3 rfl (.lp _ _ _ rfl) rfl) ?_
        refine sv rfl (opv_leq rfl rfl) ?_
        refine snil ?_
        refine ccond rfl (fun hc => ?_) (fun hc => ?_)
        · replace h := ite_t hc h
          clear hc
          refine cseq ?_
          refine cregion ?_
          refine sv rfl (opv_as rfl) ?_
          refine snil ?_
          refine cret ?_
          refine block_ret ?_
          refine then_ret ?_
          refine then_ret ?_
          refine block_ret ?_
          refine then_ret ?_
          obtain rfl := Option.some.inj h
          obtain rfl : Sum.inl _ = x3 := hk3
          replace ho3 : some _ = some _ := ho3
          obtain rfl := Option.some.inj ho3
          refine ⟨Or.inr rfl, _, _, _, (resVs_cons (ResV.tmp _ _ rfl) resVs_nil), (pubA_id rfl), ?_⟩
          rfl
        · replace h := ite_f hc h
          clear hc
          refine cskip ?_
          refine block_normal ?_
          refine then_normal ?_
          refine cregion ?_
          refine sv rfl (opv_add rfl rfl) ?_
          refine sv rfl (opv_mv rfl) ?_
          refine snil ?_
          obtain rfl := Option.some.inj h
          exact ⟨(n3, (wI (s3 + 1))), _, hk3, ⟨rfl, rfl, rfl, rfl, trivial⟩, rfl, Nat.lt_succ_self _⟩
      · replace h := ite_f hc h
        clear hc
        refine cexit ?_
        refine then_exit ?_
        refine then_exit ?_
        refine block_hit ?_
        refine then_normal ?_
        obtain rfl := Option.some.inj h
        obtain rfl : _ = x3 := hk3
        exact ⟨(), _, ho3, trivial, rfl⟩
  · skip
    refine cregion ?_
    refine sv rfl (opv_mv rfl) ?_
    refine sv rfl (opv_fieldAddr_lp fi48_1 rfl) ?_
    refine sv rfl (opv_load1 ti3 rfl (.lp _ _ _ rfl) rfl) ?_
    refine sv rfl (opv_leq rfl rfl) ?_
    refine sv rfl (opv_mv rfl) ?_
    refine ssplit 15 rfl (fun hc => ?_) (fun hc => ?_)
    · replace h := ite_t hc h
      clear hc
      refine soff rfl rfl rfl rfl ?_
      refine soff rfl rfl rfl rfl ?_
      refine sv rfl (opv_pick_t rfl rfl) ?_
      refine sv rfl (opv_mv rfl) ?_
      refine soff rfl rfl rfl rfl ?_
      refine soff rfl rfl rfl rfl ?_
      refine soff rfl rfl rfl rfl ?_
      refine sv rfl (opv_pick_t rfl rfl) ?_
      refine sv rfl (opv_mv rfl) ?_
      refine soff rfl rfl rfl rfl ?_
      refine soff rfl rfl rfl rfl ?_
      refine soff rfl rfl rfl rfl ?_
      refine soffu rfl rfl rfl ?_
      refine soffu rfl rfl rfl ?_
      refine soffu rfl rfl rfl ?_
      refine soff rfl rfl rfl rfl ?_
      refine sv rfl (opv_pick_t rfl rfl) ?_
      refine snil ?_
      refine ccond rfl (fun _ => ?_) (fun hx => Bool.noConfusion hx)
      refine cseq ?_
      refine cregion ?_
      refine sv rfl (opv_as rfl) ?_
      refine snil ?_
      refine cret ?_
      refine then_ret ?_
      obtain rfl := Option.some.inj h
      refine ⟨Or.inr rfl, _, _, _, (resVs_cons (ResV.tmp _ _ rfl) resVs_nil), (pubA_id rfl), ?_⟩
      rfl
    · replace h := ite_f hc h
      clear hc
      refine son rfl rfl rfl ?_
      refine sv rfl (opv_mv rfl) ?_
      refine son rfl rfl rfl ?_
      refine sv rfl (opv_gtr rfl rfl) ?_
      refine sv rfl (opv_pick_f rfl rfl) ?_
      refine sv rfl (opv_mv rfl) ?_
      refine ssplit 19 rfl (fun hc => ?_) (fun hc => ?_)
      · replace h := ite_t hc h
        clear hc
        refine soff rfl rfl rfl rfl ?_
        refine soff rfl rfl rfl rfl ?_
        refine soff rfl rfl rfl rfl ?_
        refine sv rfl (opv_pick_t rfl rfl) ?_
        refine sv rfl (opv_mv rfl) ?_
        refine soff rfl rfl rfl rfl ?_
        refine soff rfl rfl rfl rfl ?_
        refine soff rfl rfl rfl rfl ?_
        refine soffu rfl rfl rfl ?_
        refine soffu rfl rfl rfl ?_
        refine soffu rfl rfl rfl ?_
        refine soff rfl rfl rfl rfl ?_
        refine sv rfl (opv_pick_t rfl rfl) ?_
        refine snil ?_
        refine ccond rfl (fun _ => ?_) (fun hx => Bool.noConfusion hx)
        refine cseq ?_
        refine cregion ?_
        refine sv rfl (opv_as rfl) ?_
        refine snil ?_
        refine cret ?_
        refine then_ret ?_
        obtain rfl := Option.some.inj h
        refine ⟨Or.inr rfl, _, _, _, (resVs_cons (ResV.tmp _ _ rfl) resVs_nil), (pubA_id rfl), ?_⟩
        rfl
      · replace h := ite_f hc h
        clear hc
        refine son rfl rfl rfl ?_
        refine sv rfl (opv_mv rfl) ?_
        refine son rfl rfl rfl ?_
        obtain ⟨v6, hv6, h⟩ := bind_eq h
        refine scall1 rfl fn54 (opnds_cons rfl opnds_nil) (pubA_id rfl) (m54_ssi_saneKeys_c hv6) ?_
        refine son rfl rfl rfl ?_
        refine sv rfl (opv_not rfl) ?_
        refine sv rfl (opv_pick_f rfl rfl) ?_
        refine sv rfl (opv_mv rfl) ?_
        refine ssplit 24 rfl (fun hc => ?_) (fun hc => ?_)
        · replace h := ite_t hc h
          clear hc
          refine soff rfl rfl rfl rfl ?_
          refine soff rfl rfl rfl rfl ?_
          refine soff rfl rfl rfl rfl ?_
          refine soffu rfl rfl rfl ?_
          refine soffu rfl rfl rfl ?_
          refine soffu rfl rfl rfl ?_
          refine soff rfl rfl rfl rfl ?_
          refine sv rfl (opv_pick_t rfl rfl) ?_
          refine snil ?_
          refine ccond rfl (fun _ => ?_) (fun hx => Bool.noConfusion hx)
          refine cseq ?_
          refine cregion ?_
          refine sv rfl (opv_as rfl) ?_
          refine snil ?_
          refine cret ?_
          refine then_ret ?_
          obtain rfl := Option.some.inj h
          refine ⟨Or.inr rfl, _, _, _, (resVs_cons (ResV.tmp _ _ rfl) resVs_nil), (pubA_id rfl), ?_⟩
          rfl
        · replace h := ite_f hc h
          clear hc
          refine son rfl rfl rfl ?_
          refine sv rfl (opv_fieldAddr_lp fi48_6 rfl) ?_
          refine son rfl rfl rfl ?_
          refine sv rfl (opv_load1 ti4 rfl (.lp _ _ _ rfl) rfl) ?_
          refine son rfl rfl rfl ?_
          refine sv rfl (opv_mv rfl) ?_
          refine ssplit 27 rfl (fun hc => ?_) (fun hc => ?_)
          · replace h := ite_t hc h
            clear hc
            refine son rfl rfl rfl ?_
            refine sv rfl (opv_mv rfl) ?_
            refine son rfl rfl rfl ?_
            refine sv rfl (opv_len_sl si41 rfl) ?_
            refine son rfl rfl rfl ?_
            refine sv rfl (opv_gtr rfl rfl) ?_
            refine son rfl rfl rfl ?_
            refine sv rfl (opv_pick_t rfl rfl) ?_
            refine sv rfl (opv_pick_f rfl rfl) ?_
            refine snil ?_
            refine ccond rfl (fun hc => ?_) (fun hc => ?_)
            · replace h := ite_t hc h
              clear hc
              refine cseq ?_
              refine cregion ?_
              refine sv rfl (opv_as rfl) ?_
              refine snil ?_
              refine cret ?_
              refine then_ret ?_
              obtain rfl := Option.some.inj h
              refine ⟨Or.inr rfl, _, _, _, (resVs_cons (ResV.tmp _ _ rfl) resVs_nil), (pubA_id rfl), ?_⟩
              rfl
            · replace h := ite_f hc h
              clear hc
              refine cskip ?_
              refine then_normal ?_
              exact ⟨(), _, h, ⟨rfl, rfl, trivial⟩, rfl⟩
          · replace h := ite_f hc h
            clear hc
            refine soff rfl rfl rfl rfl ?_
            refine soff rfl rfl rfl rfl ?_
            refine soff rfl rfl rfl rfl ?_
            refine son rfl rfl rfl ?_
            refine sv rfl (opv_pick_f rfl rfl) ?_
            refine sv rfl (opv_pick_f rfl rfl) ?_
            refine snil ?_
            refine ccond rfl (fun hx => Bool.noConfusion hx) (fun _ => ?_)
            refine cskip ?_
            refine then_normal ?_
            exact ⟨(), _, h, ⟨rfl, rfl, trivial⟩, rfl⟩

def m76_keys_key_reacheds (a0 : List UInt8) (a1 : List UInt8) : Option Bool :=
  (m74_keys_Cmp a1 a0).bind fun v1 => some (decide (0 ≤ v1))

set_option maxRecDepth 100000 in
theorem m76_keys_key_reacheds_c {a0 : List UInt8} {a1 : List UInt8} {r : Bool} (h : m76_keys_key_reacheds a0 a1 = some r) : CallsA Try.prog 76 [.one (.sl a0.length (a0.flatMap eU8)), .one (.sl a1.length (a1.flatMap eU8))] (· = .s (.one (.b r))) := by
  unfold m76_keys_key_reacheds at h
  refine callsA_of Try.func76 rfl (nt := 9) rfl (Nat.le_of_ble_eq_true rfl) ?_
  intro w0 S0
  refine cseq ?_
  refine cregion ?_
  refine sv rfl (opv_as rfl) ?_
  refine snil ?_
  refine cseq ?_
  refine cregion ?_
  refine sv rfl (opv_mv rfl) ?_
  refine sv rfl (opv_mv rfl) ?_
  obtain ⟨v1, hv1, h⟩ := bind_eq h
  refine scall1 rfl fn74 (opnds_cons rfl (opnds_cons rfl opnds_nil)) (pubA_id rfl) (m74_keys_Cmp_c hv1) ?_
  refine sv rfl (opv_geq rfl rfl) ?_
  refine sv rfl (opv_as rfl) ?_
  refine snil ?_
  refine cret ?_
  obtain rfl := Option.some.inj h
  refine ⟨Or.inr rfl, _, _, _, (resVs_cons (ResV.tmp _ _ rfl) resVs_nil), (pubA_id rfl), ?_⟩
  rfl

def m75_slices_IndexFuncs_k1 (b1 : Unit) : Option Int :=
  some (-1)

def m75_slices_IndexFuncs_s2 (a0 : List (List UInt8)) (a1 : List UInt8) (s2 : Int) : Option (LR (Int) (Unit) (Int)) :=
  if (decide (s2 < (a0.length : Int))) then ((idx a0 s2).bind fun u3 => (m76_keys_key_reacheds a1 u3).bind fun v4 => if v4 then (some (.ret s2)) else (some (.cont (wI (s2 + 1))))) else (some (.brk ()))
def m75_slices_IndexFuncs (a0 : List (List UInt8)) (a1 : List UInt8) : Option Int :=
  (iter (m75_slices_IndexFuncs_s2 a0 a1) fuel 0).bind fun x => match x with | .inl r => some r | .inr e5 => m75_slices_IndexFuncs_k1 e5

set_option maxRecDepth 100000 in
theorem m75_slices_IndexFuncs_c {a0 : List (List UInt8)} {a1 : List UInt8} {r : Int} (h : m75_slices_IndexFuncs a0 a1 = some r) : CallsA Try.prog 75 [.one (.sl a0.length (a0.flatMap (eL eU8))), .one (.fn 76 [.sl a1.length (a1.flatMap eU8)] [])] (· = .s (.one (.i .i64 r))) := by
  unfold m75_slices_IndexFuncs at h
  refine callsA_of Try.func75 rfl (nt := 19) rfl (Nat.le_of_ble_eq_true rfl) ?_
  intro w0 S0
  refine cseq ?_
  refine cregion ?_
  refine sv rfl (opv_as rfl) ?_
  refine snil ?_
  refine cseq ?_
  refine cseq ?_
  refine cregion ?_
  refine sv rfl (opv_mv rfl) ?_
  refine sv rfl (opv_len_sl si41 rfl) ?_
  refine sv rfl (opv_mv rfl) ?_
  refine snil ?_
  refine cjoin (Unit) (fun b1 => []) (fun b1 => []) (fun b1 => m75_slices_IndexFuncs_k1 b1 = some r) (fun _ _ => inbL_of rfl) (fun _ _ => blkinb_of rfl) (fun _ _ => Nat.le_of_ble_eq_true rfl) (fun b1 h => ?_) ?_
  · unfold m75_slices_IndexFuncs_k1 at h
    refine cseq ?_
    refine cregion ?_
    refine sv rfl (opv_as rfl) ?_
    refine snil ?_
    refine cret ?_
    obtain rfl := Option.some.inj h
    refine ⟨Or.inr rfl, _, _, _, (resVs_cons (ResV.tmp _ _ rfl) resVs_nil), (pubA_id rfl), ?_⟩
    rfl
  · skip
    refine cblock ?_
    obtain ⟨x2, hx2, ho2⟩ := bind_eq h
    refine awc_loop (G := Nat × (Int)) (fun g => [(0, .s (.one (.sl a0.length (a0.flatMap (eL eU8))))), (1, .s (.one (.fn 76 [.sl a1.length (a1.flatMap eU8)] []))), (7, .s (.one (.i .i64 (a0.length : Int)))), (8, .s (.one (.i .i64 g.2)))]) (fun g => []) (fun g => iter (m75_slices_IndexFuncs_s2 a0 a1) g.1 g.2 = some x2) (fun g => g.1) (fuel, 0) hx2 ⟨rfl, rfl, rfl, rfl, trivial⟩ [] rfl (fun _ _ => inbL_of rfl) (fun _ _ => blkinb_of rfl) (fun _ _ => Nat.le_of_ble_eq_true rfl) ?_
    clear hx2 h
    rintro ⟨n2, s2⟩ h
    obtain ⟨n2, y2, rfl, h, hk2⟩ := iter_eq h
    unfold m75_slices_IndexFuncs_s2 at h
    refine cseq ?_
    refine cregion ?_
    refine sv rfl (opv_lss rfl rfl) ?_
    refine snil ?_
    refine cseq ?_
    refine ccond rfl (fun hc => ?_) (fun hc => ?_)
    · replace h := ite_t hc h
      clear hc
      refine cskip ?_
      refine then_normal ?_
      refine cseq ?_
      refine cblock ?_
      refine cseq ?_
      refine cregion ?_
      refine sv rfl (opv_mv rfl) ?_
      refine sv rfl (opv_as rfl) ?_
      refine snil ?_
      refine cseq ?_
      refine cregion ?_
      refine sv rfl (opv_mv rfl) ?_
      refine sv rfl (opv_mv rfl) ?_
      refine sv rfl (opv_mv rfl) ?_
      obtain ⟨u3, hu3, h⟩ := bind_eq h
      refine sv rfl (opv_ix (f := (eL eU8)) si41 (fun _ => rfl) rfl rfl rfl rfl hu3) ?_
      refine sv rfl (opv_load1 ti38 rfl (.cp _) rfl) ?_
      obtain ⟨v4, hv4, h⟩ := bind_eq h
      refine sd rfl (opD_callC fn76 (.fn _ _ _ _ rfl) (opnds_cons rfl opnds_nil) rfl (m76_keys_key_reacheds_c hv4)) ?_
      refine snil ?_
      refine ccond rfl (fun hc => ?_) (fun hc => ?_)
      · replace h := ite_t hc h
        clear hc
        refine cseq ?_
        refine cregion ?_
        refine sv rfl (opv_mv rfl) ?_
        refine sv rfl (opv_as rfl) ?_
        refine snil ?_
        refine cret ?_
        refine block_ret ?_
        refine then_ret ?_
        refine then_ret ?_
        refine block_ret ?_
        refine then_ret ?_
        obtain rfl := Option.some.inj h
        obtain rfl : Sum.inl _ = x2 := hk2
        replace ho2 : some _ = some _ := ho2
        obtain rfl := Option.some.inj ho2
        refine ⟨Or.inr rfl, _, _, _, (resVs_cons (ResV.tmp _ _ rfl) resVs_nil), (pubA_id rfl), ?_⟩
        rfl
      · replace h := ite_f hc h
        clear hc
        refine cskip ?_
        refine block_normal ?_
        refine then_normal ?_
        refine cregion ?_
        refine sv rfl (opv_add rfl rfl) ?_
        refine sv rfl (opv_mv rfl) ?_
        refine snil ?_
        obtain rfl := Option.some.inj h
        exact ⟨(n2, (wI (s2 + 1))), _, hk2, ⟨rfl, rfl, rfl, rfl, trivial⟩, rfl, Nat.lt_succ_self _⟩
    · replace h := ite_f hc h
      clear hc
      refine cexit ?_
      refine then_exit ?_
      refine then_exit ?_
      refine block_hit ?_
      refine then_normal ?_
      obtain rfl := Option.some.inj h
      obtain rfl : _ = x2 := hk2
      exact ⟨(), _, ho2, trivial, rfl⟩

def m77_bytes_Equal (a0 : List UInt8) (a1 : List UInt8) : Option Bool :=
  some (a0 == a1)

set_option maxRecDepth 100000 in
theorem m77_bytes_Equal_c {a0 : List UInt8} {a1 : List UInt8} {r : Bool} (h : m77_bytes_Equal a0 a1 = some r) : CallsA Try.prog 77 [.one (.sl a0.length (a0.flatMap eU8)), .one (.sl a1.length (a1.flatMap eU8))] (· = .s (.one (.b r))) := by
  unfold m77_bytes_Equal at h
  refine callsA_of Try.func77 rfl (nt := 10) rfl (Nat.le_of_ble_eq_true rfl) ?_
  intro w0 S0
  refine cseq ?_
  refine cregion ?_
  refine sv rfl (opv_as rfl) ?_
  refine snil ?_
  refine cseq ?_
  refine cregion ?_
  refine sv rfl (opv_mv rfl) ?_
  refine sv rfl (opv_bs (l := a0) Try.underlying38 Try.underlying5 Try.underlying9 rfl rfl rfl) ?_
  refine sv rfl (opv_mv rfl) ?_
  refine sv rfl (opv_bs (l := a1) Try.underlying38 Try.underlying5 Try.underlying9 rfl rfl rfl) ?_
  refine sv rfl (opv_seql' rfl rfl) ?_
  refine sv rfl (opv_as rfl) ?_
  refine snil ?_
  refine cret ?_
  obtain rfl := Option.some.inj h
  refine ⟨Or.inr rfl, _, _, _, (resVs_cons (ResV.tmp _ _ rfl) resVs_nil), (pubA_id rfl), ?_⟩
  rfl

end Go.Proofs.Ytbmciegldpeaiaa.Abs
