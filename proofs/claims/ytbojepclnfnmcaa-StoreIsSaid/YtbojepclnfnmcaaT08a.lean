/-
  t
-/
import Derived.Test.YtbojepclnfnmcaaAbsC
import Derived.Test.YtbojepclnfnmcaaProg
namespace Go.Proofs.Ytbojepclnfnmcaa.Abs
open Go.RowKit Go.Proofs
structure GR07Ver where
  Ts : Int
  Val : List UInt8
  Del : Bool
def eGR07Ver (x : GR07Ver) : List Lf := [.i .i64 x.Ts, .sl x.Val.length (x.Val.flatMap eU8), .b x.Del]

structure GR07Chain where
  L : List GR07Ver
def eGR07Chain (x : GR07Chain) : List Lf := [.sl x.L.length (x.L.flatMap eGR07Ver)]

structure GR08Store where
  Keys : List (List UInt8)
  Chains : List GR07Chain
  Ts : Int
def eGR08Store (x : GR08Store) : List Lf := [.sl x.Keys.length (x.Keys.flatMap (eL eU8)), .sl x.Chains.length (x.Chains.flatMap eGR07Chain), .i .i64 x.Ts]

structure GApiRange where
  Lo : List UInt8
  Hi : List UInt8
  Open : Bool
def eGApiRange (x : GApiRange) : List Lf := [.sl x.Lo.length (x.Lo.flatMap eU8), .sl x.Hi.length (x.Hi.flatMap eU8), .b x.Open]

structure GApiWrite where
  Key : List UInt8
  Val : List UInt8
  Del : Bool
def eGApiWrite (x : GApiWrite) : List Lf := [.sl x.Key.length (x.Key.flatMap eU8), .sl x.Val.length (x.Val.flatMap eU8), .b x.Del]

structure GChainVer where
  Ts : Int
  Val : List UInt8
  Del : Bool
def eGChainVer (x : GChainVer) : List Lf := [.i .i64 x.Ts, .sl x.Val.length (x.Val.flatMap eU8), .b x.Del]

structure GChainChain where
  L : List GChainVer
def eGChainChain (x : GChainChain) : List Lf := [.sl x.L.length (x.L.flatMap eGChainVer)]

structure GStoreStore where
  Keys : List (List UInt8)
  Chains : List GChainChain
  Ts : Int
def eGStoreStore (x : GStoreStore) : List Lf := [.sl x.Keys.length (x.Keys.flatMap (eL eU8)), .sl x.Chains.length (x.Chains.flatMap eGChainChain), .i .i64 x.Ts]

structure GApiKV where
  Key : List UInt8
  Val : List UInt8
def eGApiKV (x : GApiKV) : List Lf := [.sl x.Key.length (x.Key.flatMap eU8), .sl x.Val.length (x.Val.flatMap eU8)]

instance : Coe GR07Ver (List Lf) := ⟨eGR07Ver⟩
instance : Coe GR07Chain (List Lf) := ⟨eGR07Chain⟩
instance : Coe GR08Store (List Lf) := ⟨eGR08Store⟩
instance : Coe GApiRange (List Lf) := ⟨eGApiRange⟩
instance : Coe GApiWrite (List Lf) := ⟨eGApiWrite⟩
instance : Coe GChainVer (List Lf) := ⟨eGChainVer⟩
instance : Coe GChainChain (List Lf) := ⟨eGChainChain⟩
instance : Coe GStoreStore (List Lf) := ⟨eGStoreStore⟩
instance : Coe GApiKV (List Lf) := ⟨eGApiKV⟩
theorem zi36 : ZI Try.prog 36 ([.raw (.slice none 0 0), .raw (.slice none 0 0), .i .i64 0]) := zi_of (by kernel_rfl)
theorem pi36 : PI Try.prog 36 [(0, 1), (1, 1), (2, 1)] := pi_of Try.underlying36 (by kernel_rfl) (by kernel_rfl)
theorem ei5 : EI Try.prog 5 1 1 [.i .u8 0] := ei_of (by kernel_rfl) (by decide)
theorem zi67 : ZI Try.prog 67 ([.raw (.slice none 0 0), .raw (.slice none 0 0), .b false]) := zi_of (by kernel_rfl)
theorem pi67 : PI Try.prog 67 [(0, 1), (1, 1), (2, 1)] := pi_of Try.underlying67 (by kernel_rfl) (by kernel_rfl)
theorem ei67 : EI Try.prog 67 3 56 [.raw (.slice none 0 0), .raw (.slice none 0 0), .b false] := ei_of (by kernel_rfl) (by decide)
theorem ti36 : TI Try.prog 36 true 3 := ⟨⟨_, Try.underlying36, rfl⟩, by kernel_rfl⟩
theorem fi36_2 : FI Try.prog 36 2 2 := ⟨⟨_, _, 1, Try.underlying36, rfl, rfl, by kernel_rfl, by decide⟩⟩
theorem ti3 : TI Try.prog 3 false 1 := ⟨⟨_, Try.underlying3, rfl⟩, by kernel_rfl⟩
theorem fi36_0 : FI Try.prog 36 0 0 := ⟨⟨_, _, 1, Try.underlying36, rfl, rfl, by kernel_rfl, by decide⟩⟩
theorem ti22 : TI Try.prog 22 false 1 := ⟨⟨_, Try.underlying22, rfl⟩, by kernel_rfl⟩
theorem si22 : SI Try.prog 22 26 1 := ⟨Try.underlying22, by kernel_rfl, by decide⟩
theorem fi36_1 : FI Try.prog 36 1 1 := ⟨⟨_, _, 1, Try.underlying36, rfl, rfl, by kernel_rfl, by decide⟩⟩
theorem ti34 : TI Try.prog 34 false 1 := ⟨⟨_, Try.underlying34, rfl⟩, by kernel_rfl⟩
theorem si34 : SI Try.prog 34 82 1 := ⟨Try.underlying34, by kernel_rfl, by decide⟩
theorem ti26 : TI Try.prog 26 false 1 := ⟨⟨_, Try.underlying26, rfl⟩, by kernel_rfl⟩
theorem si26 : SI Try.prog 26 5 1 := ⟨Try.underlying26, by kernel_rfl, by decide⟩
theorem fn72 : FnI Try.prog 72 := ⟨⟨_, Try.func72, by kernel_rfl, by kernel_rfl⟩⟩
theorem mixed : Try.prog.follows .mixedOrders = true := by kernel_rfl
theorem xi89 : XI Try.prog 89 Extern.BytealgCompare.compare := ⟨⟨Try.f89, Try.func89, by kernel_rfl, by kernel_rfl, by kernel_rfl, by kernel_rfl⟩⟩
theorem fn84 : FnI Try.prog 84 := ⟨⟨_, Try.func84, by kernel_rfl, by kernel_rfl⟩⟩
theorem fn71 : FnI Try.prog 71 := ⟨⟨_, Try.func71, by kernel_rfl, by kernel_rfl⟩⟩
theorem fn73 : FnI Try.prog 73 := ⟨⟨_, Try.func73, by kernel_rfl, by kernel_rfl⟩⟩
theorem fn51 : FnI Try.prog 51 := ⟨⟨_, Try.func51, by kernel_rfl, by kernel_rfl⟩⟩
theorem ti82 : TI Try.prog 82 true 1 := ⟨⟨_, Try.underlying82, rfl⟩, by kernel_rfl⟩
theorem zi82 : ZI Try.prog 82 ([.raw (.slice none 0 0)]) := zi_of (by kernel_rfl)
theorem sz82 : (Try.prog.info? 82).map (·.size) = some 1 := by kernel_rfl
theorem fi82_0 : FI Try.prog 82 0 0 := ⟨⟨_, _, 1, Try.underlying82, rfl, rfl, by kernel_rfl, by decide⟩⟩
theorem ti80 : TI Try.prog 80 false 1 := ⟨⟨_, Try.underlying80, rfl⟩, by kernel_rfl⟩
theorem si80 : SI Try.prog 80 85 3 := ⟨Try.underlying80, by kernel_rfl, by decide⟩
theorem zi4 : ZI Try.prog 4 ([.b false]) := zi_of (by kernel_rfl)
theorem zi3 : ZI Try.prog 3 ([.i .i64 0]) := zi_of (by kernel_rfl)
theorem sz3 : (Try.prog.info? 3).map (·.size) = some 1 := by kernel_rfl
theorem fn74 : FnI Try.prog 74 := ⟨⟨_, Try.func74, by kernel_rfl, by kernel_rfl⟩⟩
theorem ti85 : TI Try.prog 85 true 3 := ⟨⟨_, Try.underlying85, rfl⟩, by kernel_rfl⟩
theorem zi85 : ZI Try.prog 85 ([.i .i64 0, .raw (.slice none 0 0), .b false]) := zi_of (by kernel_rfl)
theorem sz85 : (Try.prog.info? 85).map (·.size) = some 3 := by kernel_rfl
theorem fi85_0 : FI Try.prog 85 0 0 := ⟨⟨_, _, 1, Try.underlying85, rfl, rfl, by kernel_rfl, by decide⟩⟩
theorem fi85_1 : FI Try.prog 85 1 1 := ⟨⟨_, _, 1, Try.underlying85, rfl, rfl, by kernel_rfl, by decide⟩⟩
theorem fi85_2 : FI Try.prog 85 2 2 := ⟨⟨_, _, 1, Try.underlying85, rfl, rfl, by kernel_rfl, by decide⟩⟩
theorem ti4 : TI Try.prog 4 false 1 := ⟨⟨_, Try.underlying4, rfl⟩, by kernel_rfl⟩
theorem fn75 : FnI Try.prog 75 := ⟨⟨_, Try.func75, by kernel_rfl, by kernel_rfl⟩⟩
theorem sz4 : (Try.prog.info? 4).map (·.size) = some 1 := by kernel_rfl
theorem fn85 : FnI Try.prog 85 := ⟨⟨_, Try.func85, by kernel_rfl, by kernel_rfl⟩⟩
theorem fn52 : FnI Try.prog 52 := ⟨⟨_, Try.func52, by kernel_rfl, by kernel_rfl⟩⟩
theorem fn53 : FnI Try.prog 53 := ⟨⟨_, Try.func53, by kernel_rfl, by kernel_rfl⟩⟩
theorem fn23 : FnI Try.prog 23 := ⟨⟨_, Try.func23, by kernel_rfl, by kernel_rfl⟩⟩
theorem sz36 : (Try.prog.info? 36).map (·.size) = some 3 := by kernel_rfl
theorem si29 : SI Try.prog 29 67 3 := ⟨Try.underlying29, by kernel_rfl, by decide⟩
theorem ti67 : TI Try.prog 67 true 3 := ⟨⟨_, Try.underlying67, rfl⟩, by kernel_rfl⟩
theorem sz67 : (Try.prog.info? 67).map (·.size) = some 3 := by kernel_rfl
theorem fi67_1 : FI Try.prog 67 1 1 := ⟨⟨_, _, 1, Try.underlying67, rfl, rfl, by kernel_rfl, by decide⟩⟩
theorem fi67_2 : FI Try.prog 67 2 2 := ⟨⟨_, _, 1, Try.underlying67, rfl, rfl, by kernel_rfl, by decide⟩⟩
theorem fi67_0 : FI Try.prog 67 0 0 := ⟨⟨_, _, 1, Try.underlying67, rfl, rfl, by kernel_rfl, by decide⟩⟩
theorem ei26 : EI Try.prog 26 1 24 [.raw (.slice none 0 0)] := ei_of (by kernel_rfl) (by decide)
theorem ni22 : NI Try.prog 22 := ⟨.inl ⟨_, Try.underlying22⟩⟩
theorem fn42 : FnI Try.prog 42 := ⟨⟨_, Try.func42, by kernel_rfl, by kernel_rfl⟩⟩
theorem fn43 : FnI Try.prog 43 := ⟨⟨_, Try.func43, by kernel_rfl, by kernel_rfl⟩⟩
theorem ei82 : EI Try.prog 82 1 24 [.raw (.slice none 0 0)] := ei_of (by kernel_rfl) (by decide)
theorem ni34 : NI Try.prog 34 := ⟨.inl ⟨_, Try.underlying34⟩⟩
theorem fn44 : FnI Try.prog 44 := ⟨⟨_, Try.func44, by kernel_rfl, by kernel_rfl⟩⟩
theorem fn62 : FnI Try.prog 62 := ⟨⟨_, Try.func62, by kernel_rfl, by kernel_rfl⟩⟩
theorem fn61 : FnI Try.prog 61 := ⟨⟨_, Try.func61, by kernel_rfl, by kernel_rfl⟩⟩
theorem fn63 : FnI Try.prog 63 := ⟨⟨_, Try.func63, by kernel_rfl, by kernel_rfl⟩⟩
theorem fn38 : FnI Try.prog 38 := ⟨⟨_, Try.func38, by kernel_rfl, by kernel_rfl⟩⟩
theorem fn67 : FnI Try.prog 67 := ⟨⟨_, Try.func67, by kernel_rfl, by kernel_rfl⟩⟩
theorem sz22 : (Try.prog.info? 22).map (·.size) = some 1 := by kernel_rfl
theorem pi82 : PI Try.prog 82 [(0, 1)] := pi_of Try.underlying82 (by kernel_rfl) (by kernel_rfl)
theorem fn68 : FnI Try.prog 68 := ⟨⟨_, Try.func68, by kernel_rfl, by kernel_rfl⟩⟩
theorem sz34 : (Try.prog.info? 34).map (·.size) = some 1 := by kernel_rfl
theorem pi85 : PI Try.prog 85 [(0, 1), (1, 1), (2, 1)] := pi_of Try.underlying85 (by kernel_rfl) (by kernel_rfl)
theorem ei85 : EI Try.prog 85 3 40 [.i .i64 0, .raw (.slice none 0 0), .b false] := ei_of (by kernel_rfl) (by decide)
theorem ei80 : EI Try.prog 80 1 24 [.raw (.slice none 0 0)] := ei_of (by kernel_rfl) (by decide)
theorem si132 : SI Try.prog 132 80 1 := ⟨Try.underlying132, by kernel_rfl, by decide⟩
theorem fn88 : FnI Try.prog 88 := ⟨⟨_, Try.func88, by kernel_rfl, by kernel_rfl⟩⟩
theorem ni80 : NI Try.prog 80 := ⟨.inl ⟨_, Try.underlying80⟩⟩
theorem fn83 : FnI Try.prog 83 := ⟨⟨_, Try.func83, by kernel_rfl, by kernel_rfl⟩⟩
theorem fn69 : FnI Try.prog 69 := ⟨⟨_, Try.func69, by kernel_rfl, by kernel_rfl⟩⟩
theorem fn45 : FnI Try.prog 45 := ⟨⟨_, Try.func45, by kernel_rfl, by kernel_rfl⟩⟩
theorem fn16 : FnI Try.prog 16 := ⟨⟨_, Try.func16, by kernel_rfl, by kernel_rfl⟩⟩
theorem fn76 : FnI Try.prog 76 := ⟨⟨_, Try.func76, by kernel_rfl, by kernel_rfl⟩⟩
theorem fn64 : FnI Try.prog 64 := ⟨⟨_, Try.func64, by kernel_rfl, by kernel_rfl⟩⟩
theorem fn39 : FnI Try.prog 39 := ⟨⟨_, Try.func39, by kernel_rfl, by kernel_rfl⟩⟩
theorem fn14 : FnI Try.prog 14 := ⟨⟨_, Try.func14, by kernel_rfl, by kernel_rfl⟩⟩
theorem zi28 : ZI Try.prog 28 ([.raw (.slice none 0 0), .raw (.slice none 0 0), .b false]) := zi_of (by kernel_rfl)
theorem pi28 : PI Try.prog 28 [(0, 1), (1, 1), (2, 1)] := pi_of Try.underlying28 (by kernel_rfl) (by kernel_rfl)
theorem si49 : SI Try.prog 49 71 2 := ⟨Try.underlying49, by kernel_rfl, by decide⟩
theorem ti28 : TI Try.prog 28 true 3 := ⟨⟨_, Try.underlying28, rfl⟩, by kernel_rfl⟩
theorem fi28_0 : FI Try.prog 28 0 0 := ⟨⟨_, _, 1, Try.underlying28, rfl, rfl, by kernel_rfl, by decide⟩⟩
theorem fi28_2 : FI Try.prog 28 2 2 := ⟨⟨_, _, 1, Try.underlying28, rfl, rfl, by kernel_rfl, by decide⟩⟩
theorem fi28_1 : FI Try.prog 28 1 1 := ⟨⟨_, _, 1, Try.underlying28, rfl, rfl, by kernel_rfl, by decide⟩⟩
theorem fn50 : FnI Try.prog 50 := ⟨⟨_, Try.func50, by kernel_rfl, by kernel_rfl⟩⟩
theorem zi71 : ZI Try.prog 71 ([.raw (.slice none 0 0), .raw (.slice none 0 0)]) := zi_of (by kernel_rfl)
theorem pi71 : PI Try.prog 71 [(0, 1), (1, 1)] := pi_of Try.underlying71 (by kernel_rfl) (by kernel_rfl)
theorem ei71 : EI Try.prog 71 2 48 [.raw (.slice none 0 0), .raw (.slice none 0 0)] := ei_of (by kernel_rfl) (by decide)
theorem ni49 : NI Try.prog 49 := ⟨.inl ⟨_, Try.underlying49⟩⟩
theorem fn21 : FnI Try.prog 21 := ⟨⟨_, Try.func21, by kernel_rfl, by kernel_rfl⟩⟩
theorem fn32 : FnI Try.prog 32 := ⟨⟨_, Try.func32, by kernel_rfl, by kernel_rfl⟩⟩
theorem fn9 : FnI Try.prog 9 := ⟨⟨_, Try.func9, by kernel_rfl, by kernel_rfl⟩⟩
theorem ti25 : TI Try.prog 25 true 3 := ⟨⟨_, Try.underlying25, rfl⟩, by kernel_rfl⟩
theorem fi25_0 : FI Try.prog 25 0 0 := ⟨⟨_, _, 1, Try.underlying25, rfl, rfl, by kernel_rfl, by decide⟩⟩
theorem fi25_1 : FI Try.prog 25 1 1 := ⟨⟨_, _, 1, Try.underlying25, rfl, rfl, by kernel_rfl, by decide⟩⟩
theorem ti23 : TI Try.prog 23 false 1 := ⟨⟨_, Try.underlying23, rfl⟩, by kernel_rfl⟩
theorem si23 : SI Try.prog 23 79 1 := ⟨Try.underlying23, by kernel_rfl, by decide⟩
theorem ti79 : TI Try.prog 79 true 1 := ⟨⟨_, Try.underlying79, rfl⟩, by kernel_rfl⟩
theorem fi79_0 : FI Try.prog 79 0 0 := ⟨⟨_, _, 1, Try.underlying79, rfl, rfl, by kernel_rfl, by decide⟩⟩
theorem ti77 : TI Try.prog 77 false 1 := ⟨⟨_, Try.underlying77, rfl⟩, by kernel_rfl⟩
theorem si77 : SI Try.prog 77 84 3 := ⟨Try.underlying77, by kernel_rfl, by decide⟩
theorem fi84_1 : FI Try.prog 84 1 1 := ⟨⟨_, _, 1, Try.underlying84, rfl, rfl, by kernel_rfl, by decide⟩⟩
theorem fn37 : FnI Try.prog 37 := ⟨⟨_, Try.func37, by kernel_rfl, by kernel_rfl⟩⟩
theorem fn10 : FnI Try.prog 10 := ⟨⟨_, Try.func10, by kernel_rfl, by kernel_rfl⟩⟩
theorem fn11 : FnI Try.prog 11 := ⟨⟨_, Try.func11, by kernel_rfl, by kernel_rfl⟩⟩
theorem fn12 : FnI Try.prog 12 := ⟨⟨_, Try.func12, by kernel_rfl, by kernel_rfl⟩⟩
theorem fi25_2 : FI Try.prog 25 2 2 := ⟨⟨_, _, 1, Try.underlying25, rfl, rfl, by kernel_rfl, by decide⟩⟩
theorem ti84 : TI Try.prog 84 true 3 := ⟨⟨_, Try.underlying84, rfl⟩, by kernel_rfl⟩
theorem zi84 : ZI Try.prog 84 ([.i .i64 0, .raw (.slice none 0 0), .b false]) := zi_of (by kernel_rfl)
theorem sz84 : (Try.prog.info? 84).map (·.size) = some 3 := by kernel_rfl
theorem fi84_0 : FI Try.prog 84 0 0 := ⟨⟨_, _, 1, Try.underlying84, rfl, rfl, by kernel_rfl, by decide⟩⟩
theorem fi84_2 : FI Try.prog 84 2 2 := ⟨⟨_, _, 1, Try.underlying84, rfl, rfl, by kernel_rfl, by decide⟩⟩
theorem sz80 : (Try.prog.info? 80).map (·.size) = some 1 := by kernel_rfl
theorem fn13 : FnI Try.prog 13 := ⟨⟨_, Try.func13, by kernel_rfl, by kernel_rfl⟩⟩
theorem zi79 : ZI Try.prog 79 ([.raw (.slice none 0 0)]) := zi_of (by kernel_rfl)
theorem ti5 : TI Try.prog 5 false 1 := ⟨⟨_, Try.underlying5, rfl⟩, by kernel_rfl⟩
theorem fn60 : FnI Try.prog 60 := ⟨⟨_, Try.func60, by kernel_rfl, by kernel_rfl⟩⟩
theorem fn66 : FnI Try.prog 66 := ⟨⟨_, Try.func66, by kernel_rfl, by kernel_rfl⟩⟩
theorem pi79 : PI Try.prog 79 [(0, 1)] := pi_of Try.underlying79 (by kernel_rfl) (by kernel_rfl)
theorem sz79 : (Try.prog.info? 79).map (·.size) = some 1 := by kernel_rfl
theorem fn54 : FnI Try.prog 54 := ⟨⟨_, Try.func54, by kernel_rfl, by kernel_rfl⟩⟩
theorem fn55 : FnI Try.prog 55 := ⟨⟨_, Try.func55, by kernel_rfl, by kernel_rfl⟩⟩
theorem fn56 : FnI Try.prog 56 := ⟨⟨_, Try.func56, by kernel_rfl, by kernel_rfl⟩⟩
theorem fn57 : FnI Try.prog 57 := ⟨⟨_, Try.func57, by kernel_rfl, by kernel_rfl⟩⟩
theorem fn24 : FnI Try.prog 24 := ⟨⟨_, Try.func24, by kernel_rfl, by kernel_rfl⟩⟩
theorem fn41 : FnI Try.prog 41 := ⟨⟨_, Try.func41, by kernel_rfl, by kernel_rfl⟩⟩
theorem fn78 : FnI Try.prog 78 := ⟨⟨_, Try.func78, by kernel_rfl, by kernel_rfl⟩⟩
theorem pi84 : PI Try.prog 84 [(0, 1), (1, 1), (2, 1)] := pi_of Try.underlying84 (by kernel_rfl) (by kernel_rfl)
theorem fn65 : FnI Try.prog 65 := ⟨⟨_, Try.func65, by kernel_rfl, by kernel_rfl⟩⟩
theorem fn40 : FnI Try.prog 40 := ⟨⟨_, Try.func40, by kernel_rfl, by kernel_rfl⟩⟩
theorem fn15 : FnI Try.prog 15 := ⟨⟨_, Try.func15, by kernel_rfl, by kernel_rfl⟩⟩
theorem zi25 : ZI Try.prog 25 ([.raw (.slice none 0 0), .raw (.slice none 0 0), .i .i64 0]) := zi_of (by kernel_rfl)
theorem pi25 : PI Try.prog 25 [(0, 1), (1, 1), (2, 1)] := pi_of Try.underlying25 (by kernel_rfl) (by kernel_rfl)
theorem sz25 : (Try.prog.info? 25).map (·.size) = some 3 := by kernel_rfl
theorem fn46 : FnI Try.prog 46 := ⟨⟨_, Try.func46, by kernel_rfl, by kernel_rfl⟩⟩
theorem fn47 : FnI Try.prog 47 := ⟨⟨_, Try.func47, by kernel_rfl, by kernel_rfl⟩⟩
theorem ei84 : EI Try.prog 84 3 40 [.i .i64 0, .raw (.slice none 0 0), .b false] := ei_of (by kernel_rfl) (by decide)
theorem ni77 : NI Try.prog 77 := ⟨.inl ⟨_, Try.underlying77⟩⟩
theorem fn48 : FnI Try.prog 48 := ⟨⟨_, Try.func48, by kernel_rfl, by kernel_rfl⟩⟩
theorem ei79 : EI Try.prog 79 1 24 [.raw (.slice none 0 0)] := ei_of (by kernel_rfl) (by decide)
theorem ni23 : NI Try.prog 23 := ⟨.inl ⟨_, Try.underlying23⟩⟩
theorem sz23 : (Try.prog.info? 23).map (·.size) = some 1 := by kernel_rfl
theorem fn17 : FnI Try.prog 17 := ⟨⟨_, Try.func17, by kernel_rfl, by kernel_rfl⟩⟩
theorem sz77 : (Try.prog.info? 77).map (·.size) = some 1 := by kernel_rfl
theorem fn19 : FnI Try.prog 19 := ⟨⟨_, Try.func19, by kernel_rfl, by kernel_rfl⟩⟩
theorem fn70 : FnI Try.prog 70 := ⟨⟨_, Try.func70, by kernel_rfl, by kernel_rfl⟩⟩
theorem fn49 : FnI Try.prog 49 := ⟨⟨_, Try.func49, by kernel_rfl, by kernel_rfl⟩⟩
theorem fn18 : FnI Try.prog 18 := ⟨⟨_, Try.func18, by kernel_rfl, by kernel_rfl⟩⟩
theorem fn36 : FnI Try.prog 36 := ⟨⟨_, Try.func36, by kernel_rfl, by kernel_rfl⟩⟩
theorem fn22 : FnI Try.prog 22 := ⟨⟨_, Try.func22, by kernel_rfl, by kernel_rfl⟩⟩
theorem fi71_0 : FI Try.prog 71 0 0 := ⟨⟨_, _, 1, Try.underlying71, rfl, rfl, by kernel_rfl, by decide⟩⟩
theorem fi71_1 : FI Try.prog 71 1 1 := ⟨⟨_, _, 1, Try.underlying71, rfl, rfl, by kernel_rfl, by decide⟩⟩
theorem fn20 : FnI Try.prog 20 := ⟨⟨_, Try.func20, by kernel_rfl, by kernel_rfl⟩⟩
theorem fn77 : FnI Try.prog 77 := ⟨⟨_, Try.func77, by kernel_rfl, by kernel_rfl⟩⟩
theorem fn58 : FnI Try.prog 58 := ⟨⟨_, Try.func58, by kernel_rfl, by kernel_rfl⟩⟩
theorem fn25 : FnI Try.prog 25 := ⟨⟨_, Try.func25, by kernel_rfl, by kernel_rfl⟩⟩
theorem fn59 : FnI Try.prog 59 := ⟨⟨_, Try.func59, by kernel_rfl, by kernel_rfl⟩⟩
theorem fn26 : FnI Try.prog 26 := ⟨⟨_, Try.func26, by kernel_rfl, by kernel_rfl⟩⟩
theorem fn27 : FnI Try.prog 27 := ⟨⟨_, Try.func27, by kernel_rfl, by kernel_rfl⟩⟩
theorem fn28 : FnI Try.prog 28 := ⟨⟨_, Try.func28, by kernel_rfl, by kernel_rfl⟩⟩
theorem fn30 : FnI Try.prog 30 := ⟨⟨_, Try.func30, by kernel_rfl, by kernel_rfl⟩⟩
theorem fn31 : FnI Try.prog 31 := ⟨⟨_, Try.func31, by kernel_rfl, by kernel_rfl⟩⟩
theorem fn29 : FnI Try.prog 29 := ⟨⟨_, Try.func29, by kernel_rfl, by kernel_rfl⟩⟩
theorem fn33 : FnI Try.prog 33 := ⟨⟨_, Try.func33, by kernel_rfl, by kernel_rfl⟩⟩

def m72_keys_Sane (a0 : List UInt8) : Option Bool :=
  if (decide (1 ≤ (a0.length : Int))) then (some (decide ((a0.length : Int) ≤ 16))) else (some false)

set_option maxRecDepth 100000 in
theorem m72_keys_Sane_c {a0 : List UInt8} {r : Bool} (h : m72_keys_Sane a0 = some r) : CallsA Try.prog 72 [.one (.sl a0.length (a0.flatMap eU8))] (· = .s (.one (.b r))) := by
  unfold m72_keys_Sane at h
  refine callsA_of Try.func72 rfl (nt := 11) rfl (Nat.le_of_ble_eq_true rfl) ?_
  intro w0 S0
  refine cseq ?_
  refine cregion ?_
  refine sv rfl (opv_as rfl) ?_
  refine snil ?_
  refine cseq ?_
  refine cregion ?_
  refine sv rfl (opv_mv rfl) ?_
  refine sv rfl (opv_len_sl si26 rfl) ?_
  refine sv rfl (opv_geq rfl rfl) ?_
  refine sv rfl (opv_mv rfl) ?_
  refine ssplit 6 rfl (fun hc => ?_) (fun hc => ?_)
  · replace h := ite_t hc h
    clear hc
    refine son rfl rfl rfl ?_
    refine sv rfl (opv_mv rfl) ?_
    refine son rfl rfl rfl ?_
    refine sv rfl (opv_len_sl si26 rfl) ?_
    refine son rfl rfl rfl ?_
    refine sv rfl (opv_leq rfl rfl) ?_
    refine sv rfl (opv_pick_t rfl rfl) ?_
    refine sv rfl (opv_as rfl) ?_
    refine snil ?_
    refine cret ?_
    obtain rfl := Option.some.inj h
    refine ⟨Or.inr rfl, _, _, _, (resVs_cons (ResV.tmp _ _ rfl) resVs_nil), (pubA_id rfl), ?_⟩
    rfl
  · replace h := ite_f hc h
    clear hc
    refine soff rfl rfl rfl rfl ?_
    refine soff rfl rfl rfl rfl ?_
    refine soff rfl rfl rfl rfl ?_
    refine sv rfl (opv_pick_f rfl rfl) ?_
    refine sv rfl (opv_as rfl) ?_
    refine snil ?_
    refine cret ?_
    obtain rfl := Option.some.inj h
    refine ⟨Or.inr rfl, _, _, _, (resVs_cons (ResV.tmp _ _ rfl) resVs_nil), (pubA_id rfl), ?_⟩
    rfl

def m84_bytes_Compare (a0 : List UInt8) (a1 : List UInt8) : Option Int :=
  some (cmpL a0 a1)

set_option maxRecDepth 100000 in
theorem m84_bytes_Compare_c {a0 : List UInt8} {a1 : List UInt8} {r : Int} (h : m84_bytes_Compare a0 a1 = some r) : CallsA Try.prog 84 [.one (.sl a0.length (a0.flatMap eU8)), .one (.sl a1.length (a1.flatMap eU8))] (· = .s (.one (.i .i64 r))) := by
  unfold m84_bytes_Compare at h
  refine callsA_of Try.func84 rfl (nt := 8) rfl (Nat.le_of_ble_eq_true rfl) ?_
  intro w0 S0
  refine cseq ?_
  refine cregion ?_
  refine sv rfl (opv_as rfl) ?_
  refine snil ?_
  refine cseq ?_
  refine cregion ?_
  refine sv rfl (opv_mv rfl) ?_
  refine sv rfl (opv_mv rfl) ?_
  refine sv rfl (opv_cmp' (a := a0) (b := a1) xi89 rfl rfl rfl rfl rfl rfl) ?_
  refine sv rfl (opv_as rfl) ?_
  refine snil ?_
  refine cret ?_
  obtain rfl := Option.some.inj h
  refine ⟨Or.inr rfl, _, _, _, (resVs_cons (ResV.tmp _ _ rfl) resVs_nil), (pubA_id rfl), ?_⟩
  rfl

def m71_keys_Cmp (a0 : List UInt8) (a1 : List UInt8) : Option Int :=
  (m84_bytes_Compare a0 a1).bind fun v1 => some v1

set_option maxRecDepth 100000 in
theorem m71_keys_Cmp_c {a0 : List UInt8} {a1 : List UInt8} {r : Int} (h : m71_keys_Cmp a0 a1 = some r) : CallsA Try.prog 71 [.one (.sl a0.length (a0.flatMap eU8)), .one (.sl a1.length (a1.flatMap eU8))] (· = .s (.one (.i .i64 r))) := by
  unfold m71_keys_Cmp at h
  refine callsA_of Try.func71 rfl (nt := 8) rfl (Nat.le_of_ble_eq_true rfl) ?_
  intro w0 S0
  refine cseq ?_
  refine cregion ?_
  refine sv rfl (opv_as rfl) ?_
  refine snil ?_
  refine cseq ?_
  refine cregion ?_
  refine sv rfl (opv_mv rfl) ?_
  refine sv rfl (opv_mv rfl) ?_
  obtain ⟨v1, hv1, h⟩ := bind_eq h
  refine scall1 rfl fn84 (opnds_cons rfl (opnds_cons rfl opnds_nil)) (pubA_id rfl) (m84_bytes_Compare_c hv1) ?_
  refine sv rfl (opv_as rfl) ?_
  refine snil ?_
  refine cret ?_
  obtain rfl := Option.some.inj h
  refine ⟨Or.inr rfl, _, _, _, (resVs_cons (ResV.tmp _ _ rfl) resVs_nil), (pubA_id rfl), ?_⟩
  rfl

def m73_keys_Sorted_k1 (b1 : Unit) : Option Bool :=
  some true

def m73_keys_Sorted_s2 (a0 : List (List UInt8)) (s2 : Int) : Option (LR (Int) (Unit) (Bool)) :=
  if (decide (s2 < (a0.length : Int))) then ((idx a0 (wI (s2 - 1))).bind fun u3 => (idx a0 s2).bind fun u4 => (m71_keys_Cmp u3 u4).bind fun v5 => if (decide (0 ≤ v5)) then (some (.ret false)) else (some (.cont (wI (s2 + 1))))) else (some (.brk ()))
def m73_keys_Sorted (a0 : List (List UInt8)) : Option Bool :=
  (iter (m73_keys_Sorted_s2 a0) fuel 1).bind fun x => match x with | .inl r => some r | .inr e6 => m73_keys_Sorted_k1 e6

set_option maxRecDepth 100000 in
theorem m73_keys_Sorted_c {a0 : List (List UInt8)} {r : Bool} (h : m73_keys_Sorted a0 = some r) : CallsA Try.prog 73 [.one (.sl a0.length (a0.flatMap (eL eU8)))] (· = .s (.one (.b r))) := by
  unfold m73_keys_Sorted at h
  refine callsA_of Try.func73 rfl (nt := 21) rfl (Nat.le_of_ble_eq_true rfl) ?_
  intro w0 S0
  refine cseq ?_
  refine cregion ?_
  refine sv rfl (opv_as rfl) ?_
  refine snil ?_
  refine cseq ?_
  refine cseq ?_
  refine cregion ?_
  refine sv rfl (opv_as rfl) ?_
  refine snil ?_
  refine cjoin (Unit) (fun b1 => []) (fun b1 => []) (fun b1 => m73_keys_Sorted_k1 b1 = some r) (fun _ _ => inbL_of rfl) (fun _ _ => blkinb_of rfl) (fun _ _ => Nat.le_of_ble_eq_true rfl) (fun b1 h => ?_) ?_
  · unfold m73_keys_Sorted_k1 at h
    refine cseq ?_
    refine cregion ?_
    refine sv rfl (opv_as rfl) ?_
    refine snil ?_
    refine cret ?_
    obtain rfl := Option.some.inj h
    refine ⟨Or.inr rfl, _, _, _, (resVs_cons (ResV.tmp _ _ rfl) resVs_nil), (pubA_id rfl), ?_⟩
    rfl
  · skip
    refine cblock ?_
    obtain ⟨x2, hx2, ho2⟩ := bind_eq h
    refine awc_loop (G := Nat × (Int)) (fun g => [(0, .s (.one (.sl a0.length (a0.flatMap (eL eU8))))), (3, .s (.one (.i .i64 g.2)))]) (fun g => []) (fun g => iter (m73_keys_Sorted_s2 a0) g.1 g.2 = some x2) (fun g => g.1) (fuel, 1) hx2 ⟨rfl, rfl, trivial⟩ [] rfl (fun _ _ => inbL_of rfl) (fun _ _ => blkinb_of rfl) (fun _ _ => Nat.le_of_ble_eq_true rfl) ?_
    clear hx2 h
    rintro ⟨n2, s2⟩ h
    obtain ⟨n2, y2, rfl, h, hk2⟩ := iter_eq h
    unfold m73_keys_Sorted_s2 at h
    refine cseq ?_
    refine cseq ?_
    refine cregion ?_
    refine sv rfl (opv_mv rfl) ?_
    refine sv rfl (opv_mv rfl) ?_
    refine sv rfl (opv_len_sl si22 rfl) ?_
    refine sv rfl (opv_lss rfl rfl) ?_
    refine snil ?_
    refine ccond rfl (fun hc => ?_) (fun hc => ?_)
    · replace h := ite_t hc h
      clear hc
      refine cskip ?_
      refine then_normal ?_
      refine cseq ?_
      refine cblock ?_
      refine cseq ?_
      refine cdraw mixed (by kernel_rfl) ?_
      refine dv rfl (opv_mv rfl) ?_
      refine dv rfl (opv_mv rfl) ?_
      refine dv rfl (opv_sub rfl rfl) ?_
      obtain ⟨u3, hu3, h⟩ := bind_eq h
      refine dv rfl (opv_ix (f := (eL eU8)) si22 (fun _ => rfl) rfl rfl rfl rfl hu3) ?_
      refine dv rfl (opv_load1 ti26 rfl (.cp _) rfl) ?_
      refine dv rfl (opv_mv rfl) ?_
      refine dv rfl (opv_mv rfl) ?_
      obtain ⟨u4, hu4, h⟩ := bind_eq h
      refine dv rfl (opv_ix (f := (eL eU8)) si22 (fun _ => rfl) rfl rfl rfl rfl hu4) ?_
      refine dv rfl (opv_load1 ti26 rfl (.cp _) rfl) ?_
      obtain ⟨v5, hv5, h⟩ := bind_eq h
      refine dd rfl (opD_call fn71 (opnds_cons rfl (opnds_cons rfl opnds_nil)) rfl (m71_keys_Cmp_c hv5)) ?_
      refine dv rfl (opv_geq rfl rfl) ?_
      refine dnil ?_
      refine then_normal ?_
      refine ccond rfl (fun hc => ?_) (fun hc => ?_)
      · replace h := ite_t hc h
        clear hc
        refine cseq ?_
        refine cregion ?_
        refine sv rfl (opv_as rfl) ?_
        refine snil ?_
        refine cret ?_
        refine block_ret ?_
        refine then_ret ?_
        refine then_ret ?_
        refine block_ret ?_
        refine then_ret ?_
        obtain rfl := Option.some.inj h
        obtain rfl : Sum.inl _ = x2 := hk2
        replace ho2 : some _ = some _ := ho2
        obtain rfl := Option.some.inj ho2
        refine ⟨Or.inr rfl, _, _, _, (resVs_cons (ResV.tmp _ _ rfl) resVs_nil), (pubA_id rfl), ?_⟩
        rfl
      · replace h := ite_f hc h
        clear hc
        refine cskip ?_
        refine block_normal ?_
        refine then_normal ?_
        refine cregion ?_
        refine sv rfl (opv_mv rfl) ?_
        refine sv rfl (opv_add rfl rfl) ?_
        refine sv rfl (opv_as rfl) ?_
        refine snil ?_
        obtain rfl := Option.some.inj h
        exact ⟨(n2, (wI (s2 + 1))), _, hk2, ⟨rfl, rfl, trivial⟩, rfl, Nat.lt_succ_self _⟩
    · replace h := ite_f hc h
      clear hc
      refine cexit ?_
      refine then_exit ?_
      refine then_exit ?_
      refine block_hit ?_
      refine then_normal ?_
      obtain rfl := Option.some.inj h
      obtain rfl : _ = x2 := hk2
      exact ⟨(), _, ho2, trivial, rfl⟩

def m51_store_saneKeys_k1 (a0 : List (List UInt8)) (b1 : Unit) : Option Bool :=
  (m73_keys_Sorted a0).bind fun v2 => some v2

def m51_store_saneKeys_s3 (a0 : List (List UInt8)) (s3 : Int) : Option (LR (Int) (Unit) (Bool)) :=
  if (decide (s3 < (a0.length : Int))) then ((idx a0 s3).bind fun u4 => (m72_keys_Sane u4).bind fun v5 => if (!v5) then (some (.ret false)) else (some (.cont (wI (s3 + 1))))) else (some (.brk ()))
def m51_store_saneKeys (a0 : List (List UInt8)) : Option Bool :=
  (iter (m51_store_saneKeys_s3 a0) fuel 0).bind fun x => match x with | .inl r => some r | .inr e6 => m51_store_saneKeys_k1 a0 e6

set_option maxRecDepth 100000 in
theorem m51_store_saneKeys_c {a0 : List (List UInt8)} {r : Bool} (h : m51_store_saneKeys a0 = some r) : CallsA Try.prog 51 [.one (.sl a0.length (a0.flatMap (eL eU8)))] (· = .s (.one (.b r))) := by
  unfold m51_store_saneKeys at h
  refine callsA_of Try.func51 rfl (nt := 17) rfl (Nat.le_of_ble_eq_true rfl) ?_
  intro w0 S0
  refine cseq ?_
  refine cregion ?_
  refine sv rfl (opv_as rfl) ?_
  refine snil ?_
  refine cseq ?_
  refine cseq ?_
  refine cregion ?_
  refine sv rfl (opv_mv rfl) ?_
  refine sv rfl (opv_len_sl si22 rfl) ?_
  refine sv rfl (opv_mv rfl) ?_
  refine snil ?_
  refine cjoin (Unit) (fun b1 => [(0, .s (.one (.sl a0.length (a0.flatMap (eL eU8)))))]) (fun b1 => []) (fun b1 => m51_store_saneKeys_k1 a0 b1 = some r) (fun _ _ => inbL_of rfl) (fun _ _ => blkinb_of rfl) (fun _ _ => Nat.le_of_ble_eq_true rfl) (fun b1 h => ?_) ?_
  · unfold m51_store_saneKeys_k1 at h
    refine cseq ?_
    refine cregion ?_
    refine sv rfl (opv_mv rfl) ?_
    obtain ⟨v2, hv2, h⟩ := bind_eq h
    refine scall1 rfl fn73 (opnds_cons rfl opnds_nil) (pubA_id rfl) (m73_keys_Sorted_c hv2) ?_
    refine sv rfl (opv_as rfl) ?_
    refine snil ?_
    refine cret ?_
    obtain rfl := Option.some.inj h
    refine ⟨Or.inr rfl, _, _, _, (resVs_cons (ResV.tmp _ _ rfl) resVs_nil), (pubA_id rfl), ?_⟩
    rfl
  · skip
    refine cblock ?_
    obtain ⟨x3, hx3, ho3⟩ := bind_eq h
    refine awc_loop (G := Nat × (Int)) (fun g => [(0, .s (.one (.sl a0.length (a0.flatMap (eL eU8))))), (5, .s (.one (.sl a0.length (a0.flatMap (eL eU8))))), (6, .s (.one (.i .i64 (a0.length : Int)))), (7, .s (.one (.i .i64 g.2)))]) (fun g => []) (fun g => iter (m51_store_saneKeys_s3 a0) g.1 g.2 = some x3) (fun g => g.1) (fuel, 0) hx3 ⟨rfl, rfl, rfl, rfl, trivial⟩ [] rfl (fun _ _ => inbL_of rfl) (fun _ _ => blkinb_of rfl) (fun _ _ => Nat.le_of_ble_eq_true rfl) ?_
    clear hx3 h
    rintro ⟨n3, s3⟩ h
    obtain ⟨n3, y3, rfl, h, hk3⟩ := iter_eq h
    unfold m51_store_saneKeys_s3 at h
    refine cseq ?_
    refine cregion ?_
    refine sv rfl (opv_lss rfl rfl) ?_
    refine snil ?_
    refine cseq ?_
    refine ccond rfl (fun hc => ?_) (fun hc => ?_)
    · replace h := ite_t hc h
      clear hc
      refine cskip ?_
      refine then_normal ?_
      refine cseq ?_
      refine cblock ?_
      refine cseq ?_
      refine cregion ?_
      obtain ⟨u4, hu4, h⟩ := bind_eq h
      refine sv rfl (opv_ix (f := (eL eU8)) si22 (fun _ => rfl) rfl rfl rfl rfl hu4) ?_
      refine sv rfl (opv_load1 ti26 rfl (.cp _) rfl) ?_
      refine sv rfl (opv_as rfl) ?_
      refine snil ?_
      refine cseq ?_
      refine cregion ?_
      refine sv rfl (opv_mv rfl) ?_
      obtain ⟨v5, hv5, h⟩ := bind_eq h
      refine scall1 rfl fn72 (opnds_cons rfl opnds_nil) (pubA_id rfl) (m72_keys_Sane_c hv5) ?_
      refine sv rfl (opv_not rfl) ?_
      refine snil ?_
      refine ccond rfl (fun hc => ?_) (fun hc => ?_)
      · replace h := ite_t hc h
        clear hc
        refine cseq ?_
        refine cregion ?_
        refine sv rfl (opv_as rfl) ?_
        refine snil ?_
        refine cret ?_
        refine block_ret ?_
        refine then_ret ?_
        refine then_ret ?_
        refine block_ret ?_
        refine then_ret ?_
        obtain rfl := Option.some.inj h
        obtain rfl : Sum.inl _ = x3 := hk3
        replace ho3 : some _ = some _ := ho3
        obtain rfl := Option.some.inj ho3
        refine ⟨Or.inr rfl, _, _, _, (resVs_cons (ResV.tmp _ _ rfl) resVs_nil), (pubA_id rfl), ?_⟩
        rfl
      · replace h := ite_f hc h
        clear hc
        refine cskip ?_
        refine block_normal ?_
        refine then_normal ?_
        refine cregion ?_
        refine sv rfl (opv_add rfl rfl) ?_
        refine sv rfl (opv_mv rfl) ?_
        refine snil ?_
        obtain rfl := Option.some.inj h
        exact ⟨(n3, (wI (s3 + 1))), _, hk3, ⟨rfl, rfl, rfl, rfl, trivial⟩, rfl, Nat.lt_succ_self _⟩
    · replace h := ite_f hc h
      clear hc
      refine cexit ?_
      refine then_exit ?_
      refine then_exit ?_
      refine block_hit ?_
      refine then_normal ?_
      obtain rfl := Option.some.inj h
      obtain rfl : _ = x3 := hk3
      exact ⟨(), _, ho3, ⟨rfl, trivial⟩, rfl⟩

theorem m74_chain_backward_c {a0 : GChainChain} : CallsA Try.prog 74 [.agg [.sl a0.L.length (a0.L.flatMap eGChainVer)]] (· = .s (.one (.fn 85 [] [.cp [.sl a0.L.length (a0.L.flatMap eGChainVer)]]))) := by
  refine callsA_of Try.func74 rfl (nt := 4) rfl (Nat.le_of_ble_eq_true rfl) ?_
  intro w0 S0
  refine cseq ?_
  refine cregion ?_
  refine sboxc rfl rfl rfl ?_
  refine sv rfl (opv_as rfl) ?_
  refine snil ?_
  refine cseq ?_
  refine cregion ?_
  refine sv rfl (opv_makeFunc opnds1_nil (opnds1_cons rfl rfl opnds1_nil)) ?_
  refine sv rfl (opv_as rfl) ?_
  refine snil ?_
  refine cret ?_
  refine ⟨Or.inr rfl, _, _, _, (resVs_cons (ResV.tmp _ _ rfl) resVs_nil), (pubA_id rfl), ?_⟩
  rfl

def it85d (l : List GChainVer) : Nat → List (Int × GChainVer)
  | 0 => []
  | n + 1 => match l[n]? with
    | some v => ((n : Int), v) :: it85d l n
    | none => []
def it85 (c : GChainChain) : Option (List (Int × GChainVer)) :=
  if c.L.length ≤ 1000000000000000000 then some (it85d c.L c.L.length) else none

theorem it85d_succ {l : List GChainVer} {n : Nat} (h : n < l.length) : it85d l (n + 1) = ((n : Int), l[n]) :: it85d l n := by
  simp [it85d, List.getElem?_eq_getElem h]
theorem it85d_length {l : List GChainVer} : ∀ n, n ≤ l.length → (it85d l n).length = n
  | 0, _ => rfl
  | n + 1, h => by
    rw [it85d_succ (by omega), List.length_cons, it85d_length n (by omega)]

set_option maxRecDepth 100000 in
theorem it85_c {c : GChainChain} {L : List (Int × GChainVer)} (h : it85 c = some L) : IterC Try.prog 85 [.cp [.sl c.L.length (c.L.flatMap eGChainVer)]] (L.map fun x => (.one (.i .i64 x.1), .agg x.2)) := by
  unfold it85 at h
  obtain ⟨hlen, h⟩ := chk_eq h
  obtain rfl := Option.some.inj h
  refine iterC_of Try.func85 rfl rfl (nt := 21) rfl (Nat.le_of_ble_eq_true rfl) ?_
  intro l J Jx hJ hJx hs
  refine yseq ?_
  refine yplain (hJ 0) (by rfl) (fun w0 S0 => ?_)
  refine sv rfl (opv_fieldAddr_cp fi82_0 rfl) ?_
  refine sv rfl (opv_load1 ti80 rfl (.cp _) rfl) ?_
  refine sv rfl (opv_len_sl si80 rfl) ?_
  refine sv rfl (opv_sub rfl rfl) ?_
  refine sv rfl (opv_as rfl) ?_
  refine snil0 ⟨rfl, rfl, yl_nil (ythen ?_)⟩
  refine yblock ?_
  have hw0 : wI ((c.L.length : Int) - 1) = (c.L.length : Int) - 1 := by
    show IntKind.i64.wrap _ = _
    exact wrap_i64 (by omega) (by omega)
  refine yloop (G := Nat × Int) (fun g => [(0, .s (.one (.raw (.func (.yield l) #[] #[])))), (1, .s (.one (.cp [.sl c.L.length (c.L.flatMap eGChainVer)]))), (3, .s (.one (.i .i64 g.2)))])
    (fun g => J g.1) (fun g => g.1 ≤ c.L.length ∧ g.2 = ((c.L.length - g.1 : Nat) : Int) - 1 ∧ (it85d c.L c.L.length).drop g.1 = it85d c.L (c.L.length - g.1))
    (fun g => c.L.length - g.1) (0, wI ((c.L.length : Int) - 1)) ⟨Nat.zero_le _, by simp only [Nat.sub_zero]; exact hw0, rfl⟩ ⟨rfl, rfl, rfl, trivial⟩ rfl (fun _ _ => inbL_of rfl) ?_
  rintro ⟨k, i⟩ ⟨g1, g2, g3⟩
  simp only at g1 g2 g3
  refine yseq ?_
  refine yseq ?_
  refine yplain (hJ k) (by rfl) (fun w0 S0 => ?_)
  refine sv rfl (opv_mv rfl) ?_
  refine sv rfl (opv_geq rfl rfl) ?_
  refine snil0 ⟨rfl, rfl, yl_nil (ythen ?_)⟩
  refine ycond rfl (fun hc => ?_) (fun hc => ?_)
  rotate_left
  · have hc' : ¬ 0 ≤ i := by simpa using hc
    refine yexit (And.intro (Or.inl rfl) (Or.inl ?_))
    show J k = J _
    rw [List.length_map, it85d_length _ (Nat.le_refl _)]
    congr 1
    omega
  have hge : 0 ≤ i := by simpa using hc
  refine yskip (ythen ?_)
  obtain ⟨n, hn⟩ : ∃ n, c.L.length - k = n + 1 := ⟨c.L.length - k - 1, by omega⟩
  have hi : i = (n : Int) := by omega
  subst hi
  have hnl : n < c.L.length := by omega
  rw [hn, it85d_succ hnl] at g3
  have hget : (it85d c.L c.L.length)[k]? = some ((n : Int), c.L[n]) := by
    have := congrArg (fun l => l[0]?) g3
    simpa using this
  have hdrop : (it85d c.L c.L.length).drop (k + 1) = it85d c.L n := by
    have := congrArg (fun l => l.drop 1) g3
    simpa [Nat.add_comm] using this
  have hu : idx c.L (n : Int) = some c.L[n] := by
    unfold idx
    rw [if_pos (Int.natCast_nonneg n), Int.toNat_natCast, List.getElem?_eq_getElem hnl]
  generalize c.L[n] = v at hget hu
  refine yseq ?_
  refine yblock ?_
  refine yseq ?_
  refine yregion ?_
  refine yl_of (l1 := [_, _, _, _, _, _, _]) (hJ k) (by rfl) (fun w0 S0 => ?_)
  refine sv rfl (opv_mv rfl) ?_
  refine sv rfl (opv_mv rfl) ?_
  refine sv rfl (opv_fieldAddr_cp fi82_0 rfl) ?_
  refine sv rfl (opv_load1 ti80 rfl (.cp _) rfl) ?_
  refine sv rfl (opv_mv rfl) ?_
  refine sv rfl (opv_ix (f := eGChainVer) si80 (fun _ => rfl) rfl rfl rfl rfl hu) ?_
  refine sv rfl (opv_loadNe (ys := [.i .i64 v.Ts, .sl v.Val.length (v.Val.flatMap eU8), .b v.Del]) ti85 rfl (.cp _) rfl rfl) ?_
  refine snil0 ⟨rfl, rfl, ?_⟩
  refine yl_yield rfl rfl (fun _ _ _ _ _ => rfl) hs rfl rfl rfl rfl (x := .one (.i .i64 (n : Int))) (y := .agg v) (by rw [List.getElem?_map, hget]; rfl) ?_ ?_
  rotate_left
  · -- the round has said no
    refine yl_of (l1 := [_]) (l2 := []) hJx (by rfl) (fun w0 S0 => ?_)
    refine sv rfl (opv_not rfl) ?_
    refine snil0 ⟨rfl, rfl, yl_nil (ythen ?_)⟩
    refine ycond rfl (fun _ => ?_) (fun hx => Bool.noConfusion hx)
    exact yret (And.intro (Or.inr rfl) (Or.inr rfl))
  refine yl_of (l1 := [_]) (l2 := []) (hJ (k + 1)) (by rfl) (fun w0 S0 => ?_)
  refine sv rfl (opv_not rfl) ?_
  refine snil0 ⟨rfl, rfl, yl_nil (ythen ?_)⟩
  refine ycond rfl (fun hx => Bool.noConfusion hx) (fun _ => ?_)
  refine yskip (yblk (ythen ?_))
  refine yplain (hJ (k + 1)) (by rfl) (fun w0 S0 => ?_)
  refine sv rfl (opv_mv rfl) ?_
  refine sv rfl (opv_sub rfl rfl) ?_
  refine sv rfl (opv_as rfl) ?_
  refine snil0 ⟨rfl, rfl, yl_nil (ythen ?_)⟩
  have hw : wI ((n : Int) - 1) = (n : Int) - 1 := by
    show IntKind.i64.wrap _ = _
    exact wrap_i64 (by omega) (by omega)
  refine ⟨(k + 1, wI ((n : Int) - 1)), ⟨?_, ?_, ?_⟩, ⟨rfl, rfl, rfl, trivial⟩, rfl, ?_⟩
  · show k + 1 ≤ c.L.length
    omega
  · show wI ((n : Int) - 1) = ((c.L.length - (k + 1) : Nat) : Int) - 1
    rw [hw]; omega
  · show List.drop (k + 1) _ = it85d c.L (c.L.length - (k + 1))
    rw [hdrop]
    congr 1
    omega
  · show c.L.length - (k + 1) < c.L.length - k
    omega


def m75_chain_saneVer (a0 : GChainVer) : Option Bool :=
  if (decide (1 ≤ a0.Ts)) then (if (decide (a0.Ts ≤ 1099511627776)) then (if (decide ((a0.Val.length : Int) ≤ 32)) then (if a0.Del then (some (!(decide (0 < (a0.Val.length : Int))))) else (some true)) else (some false)) else (some false)) else (some false)

set_option maxRecDepth 100000 in
theorem m75_chain_saneVer_c {a0 : GChainVer} {r : Bool} (h : m75_chain_saneVer a0 = some r) : CallsA Try.prog 75 [.agg a0] (· = .s (.one (.b r))) := by
  unfold m75_chain_saneVer at h
  refine callsA_of Try.func75 rfl (nt := 28) rfl (Nat.le_of_ble_eq_true rfl) ?_
  intro w0 S0
  refine cseq ?_
  refine cregion ?_
  refine sbox rfl rfl ?_
  refine sv rfl (opv_as rfl) ?_
  refine snil ?_
  refine cseq ?_
  refine cregion ?_
  refine sv rfl (opv_fieldAddr_lp fi85_0 rfl) ?_
  refine sv rfl (opv_load1 ti3 rfl (.lp _ _ _ rfl) rfl) ?_
  refine sv rfl (opv_geq rfl rfl) ?_
  refine sv rfl (opv_mv rfl) ?_
  refine ssplit 6 rfl (fun hc => ?_) (fun hc => ?_)
  · replace h := ite_t hc h
    clear hc
    refine son rfl rfl rfl ?_
    refine sv rfl (opv_fieldAddr_lp fi85_0 rfl) ?_
    refine son rfl rfl rfl ?_
    refine sv rfl (opv_load1 ti3 rfl (.lp _ _ _ rfl) rfl) ?_
    refine son rfl rfl rfl ?_
    refine sv rfl (opv_leq rfl rfl) ?_
    refine sv rfl (opv_pick_t rfl rfl) ?_
    refine sv rfl (opv_mv rfl) ?_
    refine ssplit 11 rfl (fun hc => ?_) (fun hc => ?_)
    · replace h := ite_t hc h
      clear hc
      refine son rfl rfl rfl ?_
      refine sv rfl (opv_fieldAddr_lp fi85_1 rfl) ?_
      refine son rfl rfl rfl ?_
      refine sv rfl (opv_load1 ti26 rfl (.lp _ _ _ rfl) rfl) ?_
      refine son rfl rfl rfl ?_
      refine sv rfl (opv_len_sl si26 rfl) ?_
      refine son rfl rfl rfl ?_
      refine sv rfl (opv_leq rfl rfl) ?_
      refine sv rfl (opv_pick_t rfl rfl) ?_
      refine sv rfl (opv_mv rfl) ?_
      refine ssplit 17 rfl (fun hc => ?_) (fun hc => ?_)
      · replace h := ite_t hc h
        clear hc
        refine son rfl rfl rfl ?_
        refine sv rfl (opv_fieldAddr_lp fi85_2 rfl) ?_
        refine son rfl rfl rfl ?_
        refine sv rfl (opv_load1 ti4 rfl (.lp _ _ _ rfl) rfl) ?_
        refine son rfl rfl rfl ?_
        refine sv rfl (opv_mv rfl) ?_
        refine ssplit 20 rfl (fun hc => ?_) (fun hc => ?_)
        · replace h := ite_t hc h
          clear hc
          refine son rfl rfl rfl ?_
          refine sv rfl (opv_fieldAddr_lp fi85_1 rfl) ?_
          refine son rfl rfl rfl ?_
          refine sv rfl (opv_load1 ti26 rfl (.lp _ _ _ rfl) rfl) ?_
          refine son rfl rfl rfl ?_
          refine sv rfl (opv_len_sl si26 rfl) ?_
          refine son rfl rfl rfl ?_
          refine sv rfl (opv_gtr rfl rfl) ?_
          refine son rfl rfl rfl ?_
          refine sv rfl (opv_pick_t rfl rfl) ?_
          refine son rfl rfl rfl ?_
          refine sv rfl (opv_not rfl) ?_
          refine sv rfl (opv_pick_t rfl rfl) ?_
          refine sv rfl (opv_as rfl) ?_
          refine snil ?_
          refine cret ?_
          obtain rfl := Option.some.inj h
          refine ⟨Or.inr rfl, _, _, _, (resVs_cons (ResV.tmp _ _ rfl) resVs_nil), (pubA_id rfl), ?_⟩
          rfl
        · replace h := ite_f hc h
          clear hc
          refine soff rfl rfl rfl rfl ?_
          refine soff rfl rfl rfl rfl ?_
          refine soff rfl rfl rfl rfl ?_
          refine soff rfl rfl rfl rfl ?_
          refine son rfl rfl rfl ?_
          refine sv rfl (opv_pick_f rfl rfl) ?_
          refine son rfl rfl rfl ?_
          refine sv rfl (opv_not rfl) ?_
          refine sv rfl (opv_pick_t rfl rfl) ?_
          refine sv rfl (opv_as rfl) ?_
          refine snil ?_
          refine cret ?_
          obtain rfl := Option.some.inj h
          refine ⟨Or.inr rfl, _, _, _, (resVs_cons (ResV.tmp _ _ rfl) resVs_nil), (pubA_id rfl), ?_⟩
          rfl
      · replace h := ite_f hc h
        clear hc
        refine soff rfl rfl rfl rfl ?_
        refine soff rfl rfl rfl rfl ?_
        refine soff rfl rfl rfl rfl ?_
        refine soffu rfl rfl rfl ?_
        refine soffu rfl rfl rfl ?_
        refine soffu rfl rfl rfl ?_
        refine soffu rfl rfl rfl ?_
        refine soff rfl rfl rfl rfl ?_
        refine soff rfl rfl rfl rfl ?_
        refine sv rfl (opv_pick_f rfl rfl) ?_
        refine sv rfl (opv_as rfl) ?_
        refine snil ?_
        refine cret ?_
        obtain rfl := Option.some.inj h
        refine ⟨Or.inr rfl, _, _, _, (resVs_cons (ResV.tmp _ _ rfl) resVs_nil), (pubA_id rfl), ?_⟩
        rfl
    · replace h := ite_f hc h
      clear hc
      refine soff rfl rfl rfl rfl ?_
      refine soff rfl rfl rfl rfl ?_
      refine soff rfl rfl rfl rfl ?_
      refine soff rfl rfl rfl rfl ?_
      refine sv rfl (opv_pick_f rfl rfl) ?_
      refine sv rfl (opv_mv rfl) ?_
      refine soff rfl rfl rfl rfl ?_
      refine soff rfl rfl rfl rfl ?_
      refine soff rfl rfl rfl rfl ?_
      refine soffu rfl rfl rfl ?_
      refine soffu rfl rfl rfl ?_
      refine soffu rfl rfl rfl ?_
      refine soffu rfl rfl rfl ?_
      refine soff rfl rfl rfl rfl ?_
      refine soff rfl rfl rfl rfl ?_
      refine sv rfl (opv_pick_f rfl rfl) ?_
      refine sv rfl (opv_as rfl) ?_
      refine snil ?_
      refine cret ?_
      obtain rfl := Option.some.inj h
      refine ⟨Or.inr rfl, _, _, _, (resVs_cons (ResV.tmp _ _ rfl) resVs_nil), (pubA_id rfl), ?_⟩
      rfl
  · replace h := ite_f hc h
    clear hc
    refine soff rfl rfl rfl rfl ?_
    refine soff rfl rfl rfl rfl ?_
    refine soff rfl rfl rfl rfl ?_
    refine sv rfl (opv_pick_f rfl rfl) ?_
    refine sv rfl (opv_mv rfl) ?_
    refine soff rfl rfl rfl rfl ?_
    refine soff rfl rfl rfl rfl ?_
    refine soff rfl rfl rfl rfl ?_
    refine soff rfl rfl rfl rfl ?_
    refine sv rfl (opv_pick_f rfl rfl) ?_
    refine sv rfl (opv_mv rfl) ?_
    refine soff rfl rfl rfl rfl ?_
    refine soff rfl rfl rfl rfl ?_
    refine soff rfl rfl rfl rfl ?_
    refine soffu rfl rfl rfl ?_
    refine soffu rfl rfl rfl ?_
    refine soffu rfl rfl rfl ?_
    refine soffu rfl rfl rfl ?_
    refine soff rfl rfl rfl rfl ?_
    refine soff rfl rfl rfl rfl ?_
    refine sv rfl (opv_pick_f rfl rfl) ?_
    refine sv rfl (opv_as rfl) ?_
    refine snil ?_
    refine cret ?_
    obtain rfl := Option.some.inj h
    refine ⟨Or.inr rfl, _, _, _, (resVs_cons (ResV.tmp _ _ rfl) resVs_nil), (pubA_id rfl), ?_⟩
    rfl

def m52_chain_Sane_r1 (s1 : Int) (x1 : Int × GChainVer) : Option ((Int) ⊕ (Nat × (Int))) :=
  (m75_chain_saneVer x1.2).bind fun v2 => if (!v2) then (some (.inr (0, s1))) else (if (decide (s1 ≤ x1.2.Ts)) then (some (.inr (0, s1))) else (some (.inl x1.2.Ts)))

def m52_chain_Sane_k3 (s3 : Int) : Option Bool :=
  some true

def m52_chain_Sane_k4 (s4 : Int) : Option Bool :=
  some false
def m52_chain_Sane (a0 : GChainChain) : Option Bool :=
  (it85 a0).bind fun L1 => (rangeL m52_chain_Sane_r1 L1 1099511627777).bind fun e => rangeK m52_chain_Sane_k3 m52_chain_Sane_k4 (fun _ _ => none) e

set_option maxRecDepth 100000 in
theorem m52_chain_Sane_c {a0 : GChainChain} {r : Bool} (h : m52_chain_Sane a0 = some r) : CallsA Try.prog 52 [.agg [.sl a0.L.length (a0.L.flatMap eGChainVer)]] (· = .s (.one (.b r))) := by
  unfold m52_chain_Sane at h
  refine callsA_ofI Try.func52 rfl (nt := 21) rfl (Nat.le_of_ble_eq_true rfl) ?_
  intro w0 S0
  refine iseq ?_
  refine iregion rfl (fun w0 S0 X0 m0 H0 => ?_)
  refine sboxc rfl rfl rfl ?_
  refine salloc rfl zi4 ?_
  refine snil ?_
  refine iseq ?_
  refine iregion rfl (fun w0 S0 X0 m0 H0 => ?_)
  refine salloc rfl zi3 ?_
  refine sstore sz3 rfl rfl rfl rfl (Nat.le_of_ble_eq_true rfl) ?_
  refine smem [.box [.b false], .box [.i .i64 1099511627777]] rfl ?_
  refine snil ?_
  refine iseq ?_
  refine iseq ?_
  refine iregion rfl (fun w0 S0 X0 m0 H0 => ?_)
  refine sv rfl (opv_loadNe (ys := [.sl a0.L.length (a0.L.flatMap eGChainVer)]) ti82 rfl (.cp _) rfl rfl) ?_
  refine scall1 rfl fn74 (opnds_cons rfl opnds_nil) (pubA_id rfl) m74_chain_backward_c ?_
  refine snil ?_
  refine iblock ?_
  obtain ⟨L1, hL1, h⟩ := bind_eq h
  obtain ⟨e1, he1, h⟩ := bind_eq h
  refine irangeL m52_chain_Sane_r1 L1 (fun x1 => .one (.i .i64 x1.1)) (fun x1 => .agg x1.2) (fun s1 => [.box [.b false], .box [.i .i64 s1]]) 1099511627777 he1 rfl fn85 rfl (it85_c hL1) rfl rfl rfl (fun _ => rfl) (fun _ => blkinb_of rfl) ?_ ?_ ?_ ?_
  · clear h
    intro x1 s1 y1 l h w0 S0 X0 H0
    unfold m52_chain_Sane_r1 at h
    refine iregion rfl (fun w0 S0 X0 m0 H0 => ?_)
    refine salloc rfl zi85 ?_
    refine sstore sz85 rfl rfl rfl rfl (Nat.le_of_ble_eq_true rfl) ?_
    refine smem [.box [.b false], .box [.i .i64 s1], .box x1.2] rfl ?_
    refine snil ?_
    refine fun w0 S0 X0 H0 => ?_
    refine iblock ?_
    refine iseq ?_
    refine iseq ?_
    refine iregion rfl (fun w0 S0 X0 m0 H0 => ?_)
    refine sv rfl (opv_loadN ti85 rfl (.lp _ _ _ rfl) (Nat.le_of_ble_eq_true rfl)) ?_
    obtain ⟨v2, hv2, h⟩ := bind_eq h
    refine scall1 rfl fn75 (opnds_cons rfl opnds_nil) (pubA_id rfl) (m75_chain_saneVer_c hv2) ?_
    refine sv rfl (opv_not rfl) ?_
    refine sv rfl (opv_mv rfl) ?_
    refine ssplit 13 rfl (fun hc => ?_) (fun hc => ?_)
    · replace h := ite_t hc h
      clear hc
      refine soff rfl rfl rfl rfl ?_
      refine soff rfl rfl rfl rfl ?_
      refine soff rfl rfl rfl rfl ?_
      refine soff rfl rfl rfl rfl ?_
      refine sv rfl (opv_pick_t rfl rfl) ?_
      refine snil ?_
      refine icond rfl (fun _ => ?_) (fun hx => Bool.noConfusion hx)
      refine iseq ?_
      refine iregion rfl (fun w0 S0 X0 m0 H0 => ?_)
      refine sstore sz4 rfl rfl rfl rfl (Nat.le_of_ble_eq_true rfl) ?_
      refine smem [.box [.b false], .box [.i .i64 s1], .box x1.2] rfl ?_
      refine snil ?_
      refine iret ?_
      refine then_ret ?_
      refine block_ret ?_
      obtain rfl := Option.some.inj h
      exact ⟨s1, _, rfl, rfl⟩
    · replace h := ite_f hc h
      clear hc
      refine son rfl rfl rfl ?_
      refine sv rfl (opv_fieldAddr_lp fi85_0 rfl) ?_
      refine son rfl rfl rfl ?_
      refine sv rfl (opv_load1 ti3 rfl (.lp _ _ _ rfl) rfl) ?_
      refine son rfl rfl rfl ?_
      refine sv rfl (opv_load1 ti3 rfl (.lp _ _ _ rfl) rfl) ?_
      refine son rfl rfl rfl ?_
      refine sv rfl (opv_geq rfl rfl) ?_
      refine sv rfl (opv_pick_f rfl rfl) ?_
      refine snil ?_
      refine icond rfl (fun hc => ?_) (fun hc => ?_)
      · replace h := ite_t hc h
        clear hc
        refine iseq ?_
        refine iregion rfl (fun w0 S0 X0 m0 H0 => ?_)
        refine sstore sz4 rfl rfl rfl rfl (Nat.le_of_ble_eq_true rfl) ?_
        refine smem [.box [.b false], .box [.i .i64 s1], .box x1.2] rfl ?_
        refine snil ?_
        refine iret ?_
        refine then_ret ?_
        refine block_ret ?_
        obtain rfl := Option.some.inj h
        exact ⟨s1, _, rfl, rfl⟩
      · replace h := ite_f hc h
        clear hc
        refine iskip ?_
        refine then_normal ?_
        refine iregion rfl (fun w0 S0 X0 m0 H0 => ?_)
        refine sv rfl (opv_fieldAddr_lp fi85_0 rfl) ?_
        refine sv rfl (opv_load1 ti3 rfl (.lp _ _ _ rfl) rfl) ?_
        refine sstore sz3 rfl rfl rfl rfl (Nat.le_of_ble_eq_true rfl) ?_
        refine smem [.box [.b false], .box [.i .i64 x1.2.Ts], .box x1.2] rfl ?_
        refine snil0 ?_
        refine block_normal ?_
        obtain rfl := Option.some.inj h
        exact ⟨x1.2.Ts, _, rfl, rfl⟩
  · intro s3 hs
    obtain rfl := hs
    replace h : m52_chain_Sane_k3 s3 = some r := h
    unfold m52_chain_Sane_k3 at h
    refine block_normal ?_
    refine then_normal ?_
    refine iseq ?_
    refine iregion rfl (fun w0 S0 X0 m0 H0 => ?_)
    refine sstore sz4 rfl rfl rfl rfl (Nat.le_of_ble_eq_true rfl) ?_
    refine smem [.box [.b true], .box [.i .i64 s3]] rfl ?_
    refine snil ?_
    refine iret ?_
    obtain rfl := Option.some.inj h
    refine ⟨Or.inr rfl, _, _, _, (resVs_cons (ResV.one _ _ _ _ _ ti4 rfl (.lp _ _ _ rfl) rfl) resVs_nil), (pubA_id rfl), ?_⟩
    rfl
  · intro s4 hs
    obtain rfl := hs
    replace h : m52_chain_Sane_k4 s4 = some r := h
    unfold m52_chain_Sane_k4 at h
    refine block_ret ?_
    refine then_ret ?_
    obtain rfl := Option.some.inj h
    refine ⟨Or.inr rfl, _, _, _, (resVs_cons (ResV.one _ _ _ _ _ ti4 rfl (.lp _ _ _ rfl) rfl) resVs_nil), (pubA_id rfl), ?_⟩
    rfl
  · intro id s hs
    obtain rfl := hs
    replace h : none = some r := h
    cases h

def m53_chain_Last_r1 (s1 : Int) (x1 : Int × GChainVer) : Option ((Int) ⊕ (Nat × (Int))) :=
  some (.inr (0, x1.2.Ts))

def m53_chain_Last_k2 (s2 : Int) : Option Int :=
  some 0

def m53_chain_Last_k3 (s3 : Int) : Option Int :=
  some s3
def m53_chain_Last (a0 : GChainChain) : Option Int :=
  (it85 a0).bind fun L1 => (rangeL m53_chain_Last_r1 L1 0).bind fun e => rangeK m53_chain_Last_k2 m53_chain_Last_k3 (fun _ _ => none) e

set_option maxRecDepth 100000 in
theorem m53_chain_Last_c {a0 : GChainChain} {r : Int} (h : m53_chain_Last a0 = some r) : CallsA Try.prog 53 [.agg [.sl a0.L.length (a0.L.flatMap eGChainVer)]] (· = .s (.one (.i .i64 r))) := by
  unfold m53_chain_Last at h
  refine callsA_ofI Try.func53 rfl (nt := 11) rfl (Nat.le_of_ble_eq_true rfl) ?_
  intro w0 S0
  refine iseq ?_
  refine iregion rfl (fun w0 S0 X0 m0 H0 => ?_)
  refine sboxc rfl rfl rfl ?_
  refine salloc rfl zi3 ?_
  refine snil ?_
  refine iseq ?_
  refine iseq ?_
  refine iregion rfl (fun w0 S0 X0 m0 H0 => ?_)
  refine sv rfl (opv_loadNe (ys := [.sl a0.L.length (a0.L.flatMap eGChainVer)]) ti82 rfl (.cp _) rfl rfl) ?_
  refine scall1 rfl fn74 (opnds_cons rfl opnds_nil) (pubA_id rfl) m74_chain_backward_c ?_
  refine snil ?_
  refine iblock ?_
  obtain ⟨L1, hL1, h⟩ := bind_eq h
  obtain ⟨e1, he1, h⟩ := bind_eq h
  refine irangeL m53_chain_Last_r1 L1 (fun x1 => .one (.i .i64 x1.1)) (fun x1 => .agg x1.2) (fun s1 => [.box [.i .i64 s1]]) 0 he1 rfl fn85 rfl (it85_c hL1) rfl rfl rfl (fun _ => rfl) (fun _ => blkinb_of rfl) ?_ ?_ ?_ ?_
  · clear h
    intro x1 s1 y1 l h w0 S0 X0 H0
    unfold m53_chain_Last_r1 at h
    refine iregion rfl (fun w0 S0 X0 m0 H0 => ?_)
    refine salloc rfl zi85 ?_
    refine sstore sz85 rfl rfl rfl rfl (Nat.le_of_ble_eq_true rfl) ?_
    refine smem [.box [.i .i64 s1], .box x1.2] rfl ?_
    refine snil ?_
    refine fun w0 S0 X0 H0 => ?_
    refine iblock ?_
    refine iseq ?_
    refine iregion rfl (fun w0 S0 X0 m0 H0 => ?_)
    refine sv rfl (opv_fieldAddr_lp fi85_0 rfl) ?_
    refine sv rfl (opv_load1 ti3 rfl (.lp _ _ _ rfl) rfl) ?_
    refine sstore sz3 rfl rfl rfl rfl (Nat.le_of_ble_eq_true rfl) ?_
    refine smem [.box [.i .i64 x1.2.Ts], .box x1.2] rfl ?_
    refine snil ?_
    refine iret ?_
    refine block_ret ?_
    obtain rfl := Option.some.inj h
    exact ⟨x1.2.Ts, _, rfl, rfl⟩
  · intro s2 hs
    obtain rfl := hs
    replace h : m53_chain_Last_k2 s2 = some r := h
    unfold m53_chain_Last_k2 at h
    refine block_normal ?_
    refine then_normal ?_
    refine iseq ?_
    refine iregion rfl (fun w0 S0 X0 m0 H0 => ?_)
    refine sstore sz3 rfl rfl rfl rfl (Nat.le_of_ble_eq_true rfl) ?_
    refine smem [.box [.i .i64 0]] rfl ?_
    refine snil ?_
    refine iret ?_
    obtain rfl := Option.some.inj h
    refine ⟨Or.inr rfl, _, _, _, (resVs_cons (ResV.one _ _ _ _ _ ti3 rfl (.lp _ _ _ rfl) rfl) resVs_nil), (pubA_id rfl), ?_⟩
    rfl
  · intro s3 hs
    obtain rfl := hs
    replace h : m53_chain_Last_k3 s3 = some r := h
    unfold m53_chain_Last_k3 at h
    refine block_ret ?_
    refine then_ret ?_
    obtain rfl := Option.some.inj h
    refine ⟨Or.inr rfl, _, _, _, (resVs_cons (ResV.one _ _ _ _ _ ti3 rfl (.lp _ _ _ rfl) rfl) resVs_nil), (pubA_id rfl), ?_⟩
    rfl
  · intro id s hs
    obtain rfl := hs
    replace h : none = some r := h
    cases h

def m23_store_Sane_k2 (b2 : Unit) : Option Bool :=
  some true

def m23_store_Sane_s3 (a0 : GStoreStore) (s3 : Int) : Option (LR (Int) (Unit) (Bool)) :=
  if (decide (s3 < (a0.Chains.length : Int))) then ((idx a0.Chains s3).bind fun u4 => if (decide ((u4.L.length : Int) = 0)) then (some (.ret false)) else ((m52_chain_Sane u4).bind fun v5 => if (!v5) then (some (.ret false)) else ((m53_chain_Last u4).bind fun v6 => if (decide (a0.Ts < v6)) then (some (.ret false)) else (some (.cont (wI (s3 + 1))))))) else (some (.brk ()))

def m23_store_Sane_k1 (a0 : GStoreStore) (b1 : Unit) : Option Bool :=
  (iter (m23_store_Sane_s3 a0) fuel 0).bind fun x => match x with | .inl r => some r | .inr e7 => m23_store_Sane_k2 e7
def m23_store_Sane (a0 : GStoreStore) : Option Bool :=
  if (decide (a0.Ts < 0)) then (some false) else (if (decide (1099511627776 < a0.Ts)) then (some false) else (if (decide (128 < (a0.Keys.length : Int))) then (some false) else (if (!decide ((a0.Chains.length : Int) = (a0.Keys.length : Int))) then (some false) else ((m51_store_saneKeys a0.Keys).bind fun v8 => if (!v8) then (some false) else (m23_store_Sane_k1 a0 ())))))

set_option maxRecDepth 100000 in
theorem m23_store_Sane_c {a0 : GStoreStore} {r : Bool} (h : m23_store_Sane a0 = some r) : CallsA Try.prog 23 [.agg a0] (· = .s (.one (.b r))) := by
  unfold m23_store_Sane at h
  refine callsA_of Try.func23 rfl (nt := 58) rfl (Nat.le_of_ble_eq_true rfl) ?_
  intro w0 S0
  refine cseq ?_
  refine cregion ?_
  refine sbox rfl rfl ?_
  refine sv rfl (opv_as rfl) ?_
  refine snil ?_
  refine cseq ?_
  refine cseq ?_
  refine cjoin3 (Unit) (fun b1 => [(1, .s (.one (.lp 0 0)))]) (fun b1 => [.box a0]) (fun b1 => m23_store_Sane_k1 a0 b1 = some r) (fun _ _ => inbL_of rfl) (fun _ _ => blkinb_of rfl) (fun _ _ => Nat.le_of_ble_eq_true rfl) (fun b1 h => ?_) ?_
  · unfold m23_store_Sane_k1 at h
    refine cseq ?_
    refine cseq ?_
    refine cregion ?_
    refine sv rfl (opv_fieldAddr_lp fi36_1 rfl) ?_
    refine sv rfl (opv_load1 ti34 rfl (.lp _ _ _ rfl) rfl) ?_
    refine sv rfl (opv_len_sl si34 rfl) ?_
    refine sv rfl (opv_mv rfl) ?_
    refine snil ?_
    refine cjoin (Unit) (fun b2 => []) (fun b2 => [.box a0]) (fun b2 => m23_store_Sane_k2 b2 = some r) (fun _ _ => inbL_of rfl) (fun _ _ => blkinb_of rfl) (fun _ _ => Nat.le_of_ble_eq_true rfl) (fun b2 h => ?_) ?_
    · unfold m23_store_Sane_k2 at h
      refine cseq ?_
      refine cregion ?_
      refine sv rfl (opv_as rfl) ?_
      refine snil ?_
      refine cret ?_
      obtain rfl := Option.some.inj h
      refine ⟨Or.inr rfl, _, _, _, (resVs_cons (ResV.tmp _ _ rfl) resVs_nil), (pubA_id rfl), ?_⟩
      rfl
    · skip
      refine cblock ?_
      obtain ⟨x3, hx3, ho3⟩ := bind_eq h
      refine awc_loop (G := Nat × (Int)) (fun g => [(1, .s (.one (.lp 0 0))), (35, .s (.one (.sl a0.Chains.length (a0.Chains.flatMap eGChainChain)))), (36, .s (.one (.i .i64 (a0.Chains.length : Int)))), (37, .s (.one (.i .i64 g.2)))]) (fun g => [.box a0]) (fun g => iter (m23_store_Sane_s3 a0) g.1 g.2 = some x3) (fun g => g.1) (fuel, 0) hx3 ⟨rfl, rfl, rfl, rfl, trivial⟩ [] rfl (fun _ _ => inbL_of rfl) (fun _ _ => blkinb_of rfl) (fun _ _ => Nat.le_of_ble_eq_true rfl) ?_
      clear hx3 h
      rintro ⟨n3, s3⟩ h
      obtain ⟨n3, y3, rfl, h, hk3⟩ := iter_eq h
      unfold m23_store_Sane_s3 at h
      refine cseq ?_
      refine cregion ?_
      refine sv rfl (opv_lss rfl rfl) ?_
      refine snil ?_
      refine cseq ?_
      refine ccond rfl (fun hc => ?_) (fun hc => ?_)
      · replace h := ite_t hc h
        clear hc
        refine cskip ?_
        refine then_normal ?_
        refine cseq ?_
        refine cblock ?_
        refine cseq ?_
        refine cregion ?_
        obtain ⟨u4, hu4, h⟩ := bind_eq h
        refine sv rfl (opv_ix (f := eGChainChain) si34 (fun _ => rfl) rfl rfl rfl rfl hu4) ?_
        refine sv rfl (opv_loadNe (ys := [.sl u4.L.length (u4.L.flatMap eGChainVer)]) ti82 rfl (.cp _) rfl rfl) ?_
        refine salloc rfl zi82 ?_
        refine sstore sz82 rfl rfl rfl rfl (Nat.le_of_ble_eq_true rfl) ?_
        refine smem [.box a0, .box [.sl u4.L.length (u4.L.flatMap eGChainVer)]] rfl ?_
        refine snil ?_
        refine cseq ?_
        refine cdraw mixed (by kernel_rfl) ?_
        refine dv rfl (opv_fieldAddr_lp fi82_0 rfl) ?_
        refine dv rfl (opv_load1 ti80 rfl (.lp _ _ _ rfl) rfl) ?_
        refine dv rfl (opv_len_sl si80 rfl) ?_
        refine dv rfl (opv_ieql rfl rfl) ?_
        refine dv rfl (opv_mv rfl) ?_
        refine dsplit 45 rfl (fun hc => ?_) (fun hc => ?_)
        · replace h := ite_t hc h
          clear hc
          refine doff rfl rfl rfl rfl ?_
          refine doff rfl rfl rfl rfl ?_
          refine doff rfl rfl rfl rfl ?_
          refine dv rfl (opv_pick_t rfl rfl) ?_
          refine dv rfl (opv_mv rfl) ?_
          refine doff rfl rfl rfl rfl ?_
          refine doff rfl rfl rfl rfl ?_
          refine doff rfl rfl rfl rfl ?_
          refine doff rfl rfl rfl rfl ?_
          refine doff rfl rfl rfl rfl ?_
          refine dv rfl (opv_pick_t rfl rfl) ?_
          refine dnil ?_
          refine then_normal ?_
          refine ccond rfl (fun _ => ?_) (fun hx => Bool.noConfusion hx)
          refine cseq ?_
          refine cregion ?_
          refine sv rfl (opv_as rfl) ?_
          refine snil ?_
          refine cret ?_
          refine block_ret ?_
          refine then_ret ?_
          refine then_ret ?_
          refine block_ret ?_
          refine then_ret ?_
          obtain rfl := Option.some.inj h
          obtain rfl : Sum.inl _ = x3 := hk3
          replace ho3 : some _ = some _ := ho3
          obtain rfl := Option.some.inj ho3
          refine ⟨Or.inr rfl, _, _, _, (resVs_cons (ResV.tmp _ _ rfl) resVs_nil), (pubA_id rfl), ?_⟩
          rfl
        · replace h := ite_f hc h
          clear hc
          refine dvg rfl rfl rfl (opv_loadN ti82 rfl (.lp _ _ _ rfl) (Nat.le_of_ble_eq_true rfl)) ?_
          obtain ⟨v5, hv5, h⟩ := bind_eq h
          refine ddg rfl rfl rfl (opD_call fn52 (opnds_cons rfl opnds_nil) rfl (m52_chain_Sane_c hv5)) ?_
          refine dvg rfl rfl rfl (opv_not rfl) ?_
          refine dv rfl (opv_pick_f rfl rfl) ?_
          refine dv rfl (opv_mv rfl) ?_
          refine dsplit 50 rfl (fun hc => ?_) (fun hc => ?_)
          · replace h := ite_t hc h
            clear hc
            refine doff rfl rfl rfl rfl ?_
            refine doff rfl rfl rfl rfl ?_
            refine doff rfl rfl rfl rfl ?_
            refine doff rfl rfl rfl rfl ?_
            refine doff rfl rfl rfl rfl ?_
            refine dv rfl (opv_pick_t rfl rfl) ?_
            refine dnil ?_
            refine then_normal ?_
            refine ccond rfl (fun _ => ?_) (fun hx => Bool.noConfusion hx)
            refine cseq ?_
            refine cregion ?_
            refine sv rfl (opv_as rfl) ?_
            refine snil ?_
            refine cret ?_
            refine block_ret ?_
            refine then_ret ?_
            refine then_ret ?_
            refine block_ret ?_
            refine then_ret ?_
            obtain rfl := Option.some.inj h
            obtain rfl : Sum.inl _ = x3 := hk3
            replace ho3 : some _ = some _ := ho3
            obtain rfl := Option.some.inj ho3
            refine ⟨Or.inr rfl, _, _, _, (resVs_cons (ResV.tmp _ _ rfl) resVs_nil), (pubA_id rfl), ?_⟩
            rfl
          · replace h := ite_f hc h
            clear hc
            refine dvg rfl rfl rfl (opv_loadN ti82 rfl (.lp _ _ _ rfl) (Nat.le_of_ble_eq_true rfl)) ?_
            obtain ⟨v6, hv6, h⟩ := bind_eq h
            refine ddg rfl rfl rfl (opD_call fn53 (opnds_cons rfl opnds_nil) rfl (m53_chain_Last_c hv6)) ?_
            refine dvg rfl rfl rfl (opv_fieldAddr_lp fi36_2 rfl) ?_
            refine dvg rfl rfl rfl (opv_load1 ti3 rfl (.lp _ _ _ rfl) rfl) ?_
            refine dvg rfl rfl rfl (opv_gtr rfl rfl) ?_
            refine dv rfl (opv_pick_f rfl rfl) ?_
            refine dnil ?_
            refine then_normal ?_
            refine ccond rfl (fun hc => ?_) (fun hc => ?_)
            · replace h := ite_t hc h
              clear hc
              refine cseq ?_
              refine cregion ?_
              refine sv rfl (opv_as rfl) ?_
              refine snil ?_
              refine cret ?_
              refine block_ret ?_
              refine then_ret ?_
              refine then_ret ?_
              refine block_ret ?_
              refine then_ret ?_
              obtain rfl := Option.some.inj h
              obtain rfl : Sum.inl _ = x3 := hk3
              replace ho3 : some _ = some _ := ho3
              obtain rfl := Option.some.inj ho3
              refine ⟨Or.inr rfl, _, _, _, (resVs_cons (ResV.tmp _ _ rfl) resVs_nil), (pubA_id rfl), ?_⟩
              rfl
            · replace h := ite_f hc h
              clear hc
              refine cskip ?_
              refine block_normal ?_
              refine then_normal ?_
              refine cregion ?_
              refine sv rfl (opv_add rfl rfl) ?_
              refine sv rfl (opv_mv rfl) ?_
              refine snil ?_
              obtain rfl := Option.some.inj h
              exact ⟨(n3, (wI (s3 + 1))), _, hk3, ⟨rfl, rfl, rfl, rfl, trivial⟩, rfl, Nat.lt_succ_self _⟩
      · replace h := ite_f hc h
        clear hc
        refine cexit ?_
        refine then_exit ?_
        refine then_exit ?_
        refine block_hit ?_
        refine then_normal ?_
        obtain rfl := Option.some.inj h
        obtain rfl : _ = x3 := hk3
        exact ⟨(), _, ho3, trivial, rfl⟩
  · skip
    refine cregion ?_
    refine sv rfl (opv_fieldAddr_lp fi36_2 rfl) ?_
    refine sv rfl (opv_load1 ti3 rfl (.lp _ _ _ rfl) rfl) ?_
    refine sv rfl (opv_lss rfl rfl) ?_
    refine sv rfl (opv_mv rfl) ?_
    refine ssplit 8 rfl (fun hc => ?_) (fun hc => ?_)
    · replace h := ite_t hc h
      clear hc
      refine soff rfl rfl rfl rfl ?_
      refine soff rfl rfl rfl rfl ?_
      refine soff rfl rfl rfl rfl ?_
      refine sv rfl (opv_pick_t rfl rfl) ?_
      refine sv rfl (opv_mv rfl) ?_
      refine soff rfl rfl rfl rfl ?_
      refine soff rfl rfl rfl rfl ?_
      refine soff rfl rfl rfl rfl ?_
      refine soff rfl rfl rfl rfl ?_
      refine sv rfl (opv_pick_t rfl rfl) ?_
      refine sv rfl (opv_mv rfl) ?_
      refine soff rfl rfl rfl rfl ?_
      refine soff rfl rfl rfl rfl ?_
      refine soff rfl rfl rfl rfl ?_
      refine soff rfl rfl rfl rfl ?_
      refine soff rfl rfl rfl rfl ?_
      refine soff rfl rfl rfl rfl ?_
      refine soff rfl rfl rfl rfl ?_
      refine sv rfl (opv_pick_t rfl rfl) ?_
      refine sv rfl (opv_mv rfl) ?_
      refine soff rfl rfl rfl rfl ?_
      refine soff rfl rfl rfl rfl ?_
      refine soff rfl rfl rfl rfl ?_
      refine soff rfl rfl rfl rfl ?_
      refine sv rfl (opv_pick_t rfl rfl) ?_
      refine snil ?_
      refine ccond rfl (fun _ => ?_) (fun hx => Bool.noConfusion hx)
      refine cseq ?_
      refine cregion ?_
      refine sv rfl (opv_as rfl) ?_
      refine snil ?_
      refine cret ?_
      refine then_ret ?_
      obtain rfl := Option.some.inj h
      refine ⟨Or.inr rfl, _, _, _, (resVs_cons (ResV.tmp _ _ rfl) resVs_nil), (pubA_id rfl), ?_⟩
      rfl
    · replace h := ite_f hc h
      clear hc
      refine son rfl rfl rfl ?_
      refine sv rfl (opv_fieldAddr_lp fi36_2 rfl) ?_
      refine son rfl rfl rfl ?_
      refine sv rfl (opv_load1 ti3 rfl (.lp _ _ _ rfl) rfl) ?_
      refine son rfl rfl rfl ?_
      refine sv rfl (opv_gtr rfl rfl) ?_
      refine sv rfl (opv_pick_f rfl rfl) ?_
      refine sv rfl (opv_mv rfl) ?_
      refine ssplit 13 rfl (fun hc => ?_) (fun hc => ?_)
      · replace h := ite_t hc h
        clear hc
        refine soff rfl rfl rfl rfl ?_
        refine soff rfl rfl rfl rfl ?_
        refine soff rfl rfl rfl rfl ?_
        refine soff rfl rfl rfl rfl ?_
        refine sv rfl (opv_pick_t rfl rfl) ?_
        refine sv rfl (opv_mv rfl) ?_
        refine soff rfl rfl rfl rfl ?_
        refine soff rfl rfl rfl rfl ?_
        refine soff rfl rfl rfl rfl ?_
        refine soff rfl rfl rfl rfl ?_
        refine soff rfl rfl rfl rfl ?_
        refine soff rfl rfl rfl rfl ?_
        refine soff rfl rfl rfl rfl ?_
        refine sv rfl (opv_pick_t rfl rfl) ?_
        refine sv rfl (opv_mv rfl) ?_
        refine soff rfl rfl rfl rfl ?_
        refine soff rfl rfl rfl rfl ?_
        refine soff rfl rfl rfl rfl ?_
        refine soff rfl rfl rfl rfl ?_
        refine sv rfl (opv_pick_t rfl rfl) ?_
        refine snil ?_
        refine ccond rfl (fun _ => ?_) (fun hx => Bool.noConfusion hx)
        refine cseq ?_
        refine cregion ?_
        refine sv rfl (opv_as rfl) ?_
        refine snil ?_
        refine cret ?_
        refine then_ret ?_
        obtain rfl := Option.some.inj h
        refine ⟨Or.inr rfl, _, _, _, (resVs_cons (ResV.tmp _ _ rfl) resVs_nil), (pubA_id rfl), ?_⟩
        rfl
      · replace h := ite_f hc h
        clear hc
        refine son rfl rfl rfl ?_
        refine sv rfl (opv_fieldAddr_lp fi36_0 rfl) ?_
        refine son rfl rfl rfl ?_
        refine sv rfl (opv_load1 ti22 rfl (.lp _ _ _ rfl) rfl) ?_
        refine son rfl rfl rfl ?_
        refine sv rfl (opv_len_sl si22 rfl) ?_
        refine son rfl rfl rfl ?_
        refine sv rfl (opv_gtr rfl rfl) ?_
        refine sv rfl (opv_pick_f rfl rfl) ?_
        refine sv rfl (opv_mv rfl) ?_
        refine ssplit 19 rfl (fun hc => ?_) (fun hc => ?_)
        · replace h := ite_t hc h
          clear hc
          refine soff rfl rfl rfl rfl ?_
          refine soff rfl rfl rfl rfl ?_
          refine soff rfl rfl rfl rfl ?_
          refine soff rfl rfl rfl rfl ?_
          refine soff rfl rfl rfl rfl ?_
          refine soff rfl rfl rfl rfl ?_
          refine soff rfl rfl rfl rfl ?_
          refine sv rfl (opv_pick_t rfl rfl) ?_
          refine sv rfl (opv_mv rfl) ?_
          refine soff rfl rfl rfl rfl ?_
          refine soff rfl rfl rfl rfl ?_
          refine soff rfl rfl rfl rfl ?_
          refine soff rfl rfl rfl rfl ?_
          refine sv rfl (opv_pick_t rfl rfl) ?_
          refine snil ?_
          refine ccond rfl (fun _ => ?_) (fun hx => Bool.noConfusion hx)
          refine cseq ?_
          refine cregion ?_
          refine sv rfl (opv_as rfl) ?_
          refine snil ?_
          refine cret ?_
          refine then_ret ?_
          obtain rfl := Option.some.inj h
          refine ⟨Or.inr rfl, _, _, _, (resVs_cons (ResV.tmp _ _ rfl) resVs_nil), (pubA_id rfl), ?_⟩
          rfl
        · replace h := ite_f hc h
          clear hc
          refine son rfl rfl rfl ?_
          refine sv rfl (opv_fieldAddr_lp fi36_1 rfl) ?_
          refine son rfl rfl rfl ?_
          refine sv rfl (opv_load1 ti34 rfl (.lp _ _ _ rfl) rfl) ?_
          refine son rfl rfl rfl ?_
          refine sv rfl (opv_len_sl si34 rfl) ?_
          refine son rfl rfl rfl ?_
          refine sv rfl (opv_fieldAddr_lp fi36_0 rfl) ?_
          refine son rfl rfl rfl ?_
          refine sv rfl (opv_load1 ti22 rfl (.lp _ _ _ rfl) rfl) ?_
          refine son rfl rfl rfl ?_
          refine sv rfl (opv_len_sl si22 rfl) ?_
          refine son rfl rfl rfl ?_
          refine sv rfl (opv_ineq rfl rfl) ?_
          refine sv rfl (opv_pick_f rfl rfl) ?_
          refine sv rfl (opv_mv rfl) ?_
          refine ssplit 28 rfl (fun hc => ?_) (fun hc => ?_)
          · replace h := ite_t hc h
            clear hc
            refine soff rfl rfl rfl rfl ?_
            refine soff rfl rfl rfl rfl ?_
            refine soff rfl rfl rfl rfl ?_
            refine soff rfl rfl rfl rfl ?_
            refine sv rfl (opv_pick_t rfl rfl) ?_
            refine snil ?_
            refine ccond rfl (fun _ => ?_) (fun hx => Bool.noConfusion hx)
            refine cseq ?_
            refine cregion ?_
            refine sv rfl (opv_as rfl) ?_
            refine snil ?_
            refine cret ?_
            refine then_ret ?_
            obtain rfl := Option.some.inj h
            refine ⟨Or.inr rfl, _, _, _, (resVs_cons (ResV.tmp _ _ rfl) resVs_nil), (pubA_id rfl), ?_⟩
            rfl
          · replace h := ite_f hc h
            clear hc
            refine son rfl rfl rfl ?_
            refine sv rfl (opv_fieldAddr_lp fi36_0 rfl) ?_
            refine son rfl rfl rfl ?_
            refine sv rfl (opv_load1 ti22 rfl (.lp _ _ _ rfl) rfl) ?_
            refine son rfl rfl rfl ?_
            obtain ⟨v8, hv8, h⟩ := bind_eq h
            refine scall1 rfl fn51 (opnds_cons rfl opnds_nil) (pubA_id rfl) (m51_store_saneKeys_c hv8) ?_
            refine son rfl rfl rfl ?_
            refine sv rfl (opv_not rfl) ?_
            refine sv rfl (opv_pick_f rfl rfl) ?_
            refine snil ?_
            refine ccond rfl (fun hc => ?_) (fun hc => ?_)
            · replace h := ite_t hc h
              clear hc
              refine cseq ?_
              refine cregion ?_
              refine sv rfl (opv_as rfl) ?_
              refine snil ?_
              refine cret ?_
              refine then_ret ?_
              obtain rfl := Option.some.inj h
              refine ⟨Or.inr rfl, _, _, _, (resVs_cons (ResV.tmp _ _ rfl) resVs_nil), (pubA_id rfl), ?_⟩
              rfl
            · replace h := ite_f hc h
              clear hc
              refine cskip ?_
              refine then_normal ?_
              exact ⟨(), _, h, ⟨rfl, trivial⟩, rfl⟩

def m42_store_saneWrites_k1 (b1 : (List (List UInt8))) : Option Bool :=
  (m51_store_saneKeys b1).bind fun v2 => some v2

def m42_store_saneWrites_k5 (s3 : Int × (List (List UInt8))) (u4 : GApiWrite) (b5 : Unit) : Option (LR (Int × (List (List UInt8))) ((List (List UInt8))) (Bool)) :=
  if (s3.2.length + [u4.Key].length) * 24 ≤ 140737488355328 then (some (.cont ((wI (s3.1 + 1)), (s3.2 ++ [u4.Key])))) else none

def m42_store_saneWrites_s3 (a0 : List GApiWrite) (s3 : Int × (List (List UInt8))) : Option (LR (Int × (List (List UInt8))) ((List (List UInt8))) (Bool)) :=
  if (decide (s3.1 < (a0.length : Int))) then ((idx a0 s3.1).bind fun u4 => if (decide (32 < (u4.Val.length : Int))) then (some (.ret false)) else (if u4.Del then (if (decide (0 < (u4.Val.length : Int))) then (some (.ret false)) else (m42_store_saneWrites_k5 s3 u4 ())) else (m42_store_saneWrites_k5 s3 u4 ()))) else (some (.brk s3.2))
def m42_store_saneWrites (a0 : List GApiWrite) : Option Bool :=
  (iter (m42_store_saneWrites_s3 a0) fuel (0, ([] : List (List UInt8)))).bind fun x => match x with | .inl r => some r | .inr e7 => m42_store_saneWrites_k1 e7

set_option maxRecDepth 100000 in
theorem m42_store_saneWrites_c {a0 : List GApiWrite} {r : Bool} (h : m42_store_saneWrites a0 = some r) : CallsA Try.prog 42 [.one (.sl a0.length (a0.flatMap eGApiWrite))] (· = .s (.one (.b r))) := by
  unfold m42_store_saneWrites at h
  refine callsA_of Try.func42 rfl (nt := 34) rfl (Nat.le_of_ble_eq_true rfl) ?_
  intro w0 S0
  refine cseq ?_
  refine cregion ?_
  refine sv rfl (opv_as rfl) ?_
  refine snil ?_
  refine cseq ?_
  refine cregion ?_
  refine sv rfl (opv_as rfl) ?_
  refine snil ?_
  refine cseq ?_
  refine cseq ?_
  refine cregion ?_
  refine sv rfl (opv_mv rfl) ?_
  refine sv rfl (opv_len_sl si29 rfl) ?_
  refine sv rfl (opv_mv rfl) ?_
  refine snil ?_
  refine sadopt_c 26 1 3 (by decide) rfl ?_
  refine cjoin ((List (List UInt8))) (fun b1 => [(3, .s (.one (.ls 0 b1.length)))]) (fun b1 => [.arr 26 1 0 (b1.flatMap (eL eU8))]) (fun b1 => m42_store_saneWrites_k1 b1 = some r) (fun _ _ => inbL_of rfl) (fun _ _ => blkinb_of rfl) (fun _ _ => Nat.le_of_ble_eq_true rfl) (fun b1 h => ?_) ?_
  · unfold m42_store_saneWrites_k1 at h
    refine cseq ?_
    refine cregion ?_
    refine sv rfl (opv_mv rfl) ?_
    refine spub 32 rfl (by (repeat' first | exact PubA.nil _ | apply PubA.cons | apply PubV.one | apply PubV.agg | exact PubL.nil | exact PubL.ls _ _ _ _ _ _ rfl (flat_len (f := (eL eU8)) (fun _ => rfl) _).symm | exact PubL.id _ rfl | exact PubLs.nil _ | apply PubLs.cons)) ?_
    obtain ⟨v2, hv2, h⟩ := bind_eq h
    refine scall1 rfl fn51 (opnds_cons rfl opnds_nil) (pubA_id rfl) (m51_store_saneKeys_c hv2) ?_
    refine sv rfl (opv_as rfl) ?_
    refine snil ?_
    refine cret ?_
    obtain rfl := Option.some.inj h
    refine ⟨Or.inr rfl, _, _, _, (resVs_cons (ResV.tmp _ _ rfl) resVs_nil), (pubA_id rfl), ?_⟩
    rfl
  · skip
    refine cblock ?_
    obtain ⟨x3, hx3, ho3⟩ := bind_eq h
    refine awc_loop (G := Nat × (Int × (List (List UInt8)))) (fun g => [(3, .s (.one (.ls 0 g.2.2.length))), (6, .s (.one (.sl a0.length (a0.flatMap eGApiWrite)))), (7, .s (.one (.i .i64 (a0.length : Int)))), (8, .s (.one (.i .i64 g.2.1)))]) (fun g => [.arr 26 1 0 (g.2.2.flatMap (eL eU8))]) (fun g => iter (m42_store_saneWrites_s3 a0) g.1 g.2 = some x3) (fun g => g.1) (fuel, (0, ([] : List (List UInt8)))) hx3 ⟨rfl, rfl, rfl, rfl, trivial⟩ [] rfl (fun _ _ => inbL_of rfl) (fun _ _ => blkinb_of rfl) (fun _ _ => Nat.le_of_ble_eq_true rfl) ?_
    clear hx3 h
    rintro ⟨n3, s3⟩ h
    obtain ⟨n3, y3, rfl, h, hk3⟩ := iter_eq h
    unfold m42_store_saneWrites_s3 at h
    refine cseq ?_
    refine cregion ?_
    refine sv rfl (opv_lss rfl rfl) ?_
    refine snil ?_
    refine cseq ?_
    refine ccond rfl (fun hc => ?_) (fun hc => ?_)
    · replace h := ite_t hc h
      clear hc
      refine cskip ?_
      refine then_normal ?_
      refine cseq ?_
      refine cblock ?_
      refine cseq ?_
      refine cregion ?_
      obtain ⟨u4, hu4, h⟩ := bind_eq h
      refine sv rfl (opv_ix (f := eGApiWrite) si29 (fun _ => rfl) rfl rfl rfl rfl hu4) ?_
      refine sv rfl (opv_loadNe (ys := [.sl u4.Key.length (u4.Key.flatMap eU8), .sl u4.Val.length (u4.Val.flatMap eU8), .b u4.Del]) ti67 rfl (.cp _) rfl rfl) ?_
      refine salloc rfl zi67 ?_
      refine sstore sz67 rfl rfl rfl rfl (Nat.le_of_ble_eq_true rfl) ?_
      refine smem [.arr 26 1 0 (s3.2.flatMap (eL eU8)), .box u4] rfl ?_
      refine snil ?_
      refine cseq ?_
      refine cseq ?_
      refine cjoin3 (Unit) (fun b5 => [(3, .s (.one (.ls 0 s3.2.length))), (5, .s (.one (.lp 1 0))), (6, .s (.one (.sl a0.length (a0.flatMap eGApiWrite)))), (7, .s (.one (.i .i64 (a0.length : Int)))), (8, .s (.one (.i .i64 s3.1)))]) (fun b5 => [.arr 26 1 0 (s3.2.flatMap (eL eU8)), .box u4]) (fun b5 => m42_store_saneWrites_k5 s3 u4 b5 = some y3) (fun _ _ => inbL_of rfl) (fun _ _ => blkinb_of rfl) (fun _ _ => Nat.le_of_ble_eq_true rfl) (fun b5 h => ?_) ?_
      · unfold m42_store_saneWrites_k5 at h
        refine cregion ?_
        refine sv rfl (opv_mv rfl) ?_
        refine sv rfl (opv_fieldAddr_lp fi67_0 rfl) ?_
        refine sv rfl (opv_load1 ti26 rfl (.lp _ _ _ rfl) rfl) ?_
        refine sbuild1 rfl Try.underlying22 ei26 rfl rfl (List.all_eq_true.1 rfl) (by decide) ?_
        refine smem [.arr 26 1 0 (s3.2.flatMap (eL eU8)), .box u4, .arr 26 1 0 ([u4.Key].flatMap (eL eU8))] rfl ?_
        obtain ⟨hb6, h⟩ := chk_eq h
        refine sapp (f := (eL eU8)) (xs := s3.2) (us := [u4.Key]) rfl Try.underlying22 ei26 ni22 (fun _ => rfl) rfl rfl (.one _ _ _ _ (.ls _ _ _ _ _ _ rfl (flat_len (f := (eL eU8)) (fun _ => rfl) [u4.Key]).symm)) rfl rfl rfl (.sl _ _ _ (flat_len (f := (eL eU8)) (fun _ => rfl) _)) rfl rfl hb6 (by decide) ?_
        refine sv rfl (opv_as rfl) ?_
        refine snil0 ?_
        refine block_normal ?_
        refine then_normal ?_
        refine cregion ?_
        refine sv rfl (opv_add rfl rfl) ?_
        refine sv rfl (opv_mv rfl) ?_
        refine snil ?_
        obtain rfl := Option.some.inj h
        exact ⟨(n3, ((wI (s3.1 + 1)), (s3.2 ++ [u4.Key]))), _, hk3, ⟨rfl, rfl, rfl, rfl, trivial⟩, rfl, Nat.lt_succ_self _⟩
      · skip
        refine cregion ?_
        refine sv rfl (opv_fieldAddr_lp fi67_1 rfl) ?_
        refine sv rfl (opv_load1 ti26 rfl (.lp _ _ _ rfl) rfl) ?_
        refine sv rfl (opv_len_sl si26 rfl) ?_
        refine sv rfl (opv_gtr rfl rfl) ?_
        refine sv rfl (opv_mv rfl) ?_
        refine ssplit 16 rfl (fun hc => ?_) (fun hc => ?_)
        · replace h := ite_t hc h
          clear hc
          refine soff rfl rfl rfl rfl ?_
          refine soff rfl rfl rfl rfl ?_
          refine soff rfl rfl rfl rfl ?_
          refine soffu rfl rfl rfl ?_
          refine soffu rfl rfl rfl ?_
          refine soffu rfl rfl rfl ?_
          refine soffu rfl rfl rfl ?_
          refine soff rfl rfl rfl rfl ?_
          refine sv rfl (opv_pick_t rfl rfl) ?_
          refine snil ?_
          refine ccond rfl (fun _ => ?_) (fun hx => Bool.noConfusion hx)
          refine cseq ?_
          refine cregion ?_
          refine sv rfl (opv_as rfl) ?_
          refine snil ?_
          refine cret ?_
          refine then_ret ?_
          refine block_ret ?_
          refine then_ret ?_
          refine then_ret ?_
          refine block_ret ?_
          refine then_ret ?_
          obtain rfl := Option.some.inj h
          obtain rfl : Sum.inl _ = x3 := hk3
          replace ho3 : some _ = some _ := ho3
          obtain rfl := Option.some.inj ho3
          refine ⟨Or.inr rfl, _, _, _, (resVs_cons (ResV.tmp _ _ rfl) resVs_nil), (pubA_id rfl), ?_⟩
          rfl
        · replace h := ite_f hc h
          clear hc
          refine son rfl rfl rfl ?_
          refine sv rfl (opv_fieldAddr_lp fi67_2 rfl) ?_
          refine son rfl rfl rfl ?_
          refine sv rfl (opv_load1 ti4 rfl (.lp _ _ _ rfl) rfl) ?_
          refine son rfl rfl rfl ?_
          refine sv rfl (opv_mv rfl) ?_
          refine ssplit 19 rfl (fun hc => ?_) (fun hc => ?_)
          · replace h := ite_t hc h
            clear hc
            refine son rfl rfl rfl ?_
            refine sv rfl (opv_fieldAddr_lp fi67_1 rfl) ?_
            refine son rfl rfl rfl ?_
            refine sv rfl (opv_load1 ti26 rfl (.lp _ _ _ rfl) rfl) ?_
            refine son rfl rfl rfl ?_
            refine sv rfl (opv_len_sl si26 rfl) ?_
            refine son rfl rfl rfl ?_
            refine sv rfl (opv_gtr rfl rfl) ?_
            refine son rfl rfl rfl ?_
            refine sv rfl (opv_pick_t rfl rfl) ?_
            refine sv rfl (opv_pick_f rfl rfl) ?_
            refine snil ?_
            refine ccond rfl (fun hc => ?_) (fun hc => ?_)
            · replace h := ite_t hc h
              clear hc
              refine cseq ?_
              refine cregion ?_
              refine sv rfl (opv_as rfl) ?_
              refine snil ?_
              refine cret ?_
              refine then_ret ?_
              refine block_ret ?_
              refine then_ret ?_
              refine then_ret ?_
              refine block_ret ?_
              refine then_ret ?_
              obtain rfl := Option.some.inj h
              obtain rfl : Sum.inl _ = x3 := hk3
              replace ho3 : some _ = some _ := ho3
              obtain rfl := Option.some.inj ho3
              refine ⟨Or.inr rfl, _, _, _, (resVs_cons (ResV.tmp _ _ rfl) resVs_nil), (pubA_id rfl), ?_⟩
              rfl
            · replace h := ite_f hc h
              clear hc
              refine cskip ?_
              refine then_normal ?_
              exact ⟨(), _, h, ⟨rfl, rfl, rfl, rfl, rfl, trivial⟩, rfl⟩
          · replace h := ite_f hc h
            clear hc
            refine soff rfl rfl rfl rfl ?_
            refine soff rfl rfl rfl rfl ?_
            refine soff rfl rfl rfl rfl ?_
            refine soff rfl rfl rfl rfl ?_
            refine son rfl rfl rfl ?_
            refine sv rfl (opv_pick_f rfl rfl) ?_
            refine sv rfl (opv_pick_f rfl rfl) ?_
            refine snil ?_
            refine ccond rfl (fun hx => Bool.noConfusion hx) (fun _ => ?_)
            refine cskip ?_
            refine then_normal ?_
            exact ⟨(), _, h, ⟨rfl, rfl, rfl, rfl, rfl, trivial⟩, rfl⟩
    · replace h := ite_f hc h
      clear hc
      refine cexit ?_
      refine then_exit ?_
      refine then_exit ?_
      refine block_hit ?_
      refine then_normal ?_
      obtain rfl := Option.some.inj h
      obtain rfl : _ = x3 := hk3
      exact ⟨s3.2, _, ho3, ⟨rfl, trivial⟩, rfl⟩

def m43_slices_Clone (a0 : List (List UInt8)) : Option (List (List UInt8)) :=
  if (([] : List (List UInt8)).length + a0.length) * 24 ≤ 140737488355328 then (some (([] : List (List UInt8)) ++ a0)) else none

set_option maxRecDepth 100000 in
theorem m43_slices_Clone_c {a0 : List (List UInt8)} {r : (List (List UInt8))} (h : m43_slices_Clone a0 = some r) : CallsA Try.prog 43 [.one (.sl a0.length (a0.flatMap (eL eU8)))] (· = .s (.one (.sl r.length (r.flatMap (eL eU8))))) := by
  unfold m43_slices_Clone at h
  refine callsA_of Try.func43 rfl (nt := 8) rfl (Nat.le_of_ble_eq_true rfl) ?_
  intro w0 S0
  refine cseq ?_
  refine cregion ?_
  refine sv rfl (opv_as rfl) ?_
  refine snil ?_
  refine cseq ?_
  refine cseq ?_
  refine cregion ?_
  refine sv rfl (opv_mv rfl) ?_
  refine snilq rfl Try.underlying22 rfl (fun nq hnq => ?_)
  cases nq
  · skip
    refine snil ?_
    refine ccond rfl (fun hx => Bool.noConfusion hx) (fun _ => ?_)
    refine cskip ?_
    refine then_normal ?_
    refine cseq ?_
    refine cregion ?_
    refine sbuild0 rfl Try.underlying22 ei26 ?_
    refine sv rfl (opv_mv rfl) ?_
    obtain ⟨hb1, h⟩ := chk_eq h
    refine sapp (f := (eL eU8)) (xs := ([] : List (List UInt8))) (us := a0) rfl Try.underlying22 ei26 ni22 (fun _ => rfl) rfl rfl (.one _ _ _ _ (.id _ rfl)) rfl rfl rfl (.sl _ _ _ (flat_len (f := (eL eU8)) (fun _ => rfl) _)) rfl rfl hb1 (by decide) ?_
    refine sv rfl (opv_as rfl) ?_
    refine snil ?_
    refine cret ?_
    obtain rfl := Option.some.inj h
    refine ⟨Or.inr rfl, _, _, _, (resVs_cons (ResV.tmp _ _ rfl) resVs_nil), (by (repeat' first | exact PubA.nil _ | apply PubA.cons | apply PubV.one | apply PubV.agg | exact PubL.nil | exact PubL.ls _ _ _ _ _ _ rfl (flat_len (f := (eL eU8)) (fun _ => rfl) _).symm | exact PubL.id _ rfl | exact PubLs.nil _ | apply PubLs.cons)), ?_⟩
    rfl
  · obtain rfl := List.eq_nil_of_length_eq_zero (hnq rfl)
    replace h : (some ([] : List (List UInt8))) = some r := by first | exact h | (rw [if_pos (by decide)] at h; exact h)
    refine snil ?_
    refine ccond rfl (fun _ => ?_) (fun hx => Bool.noConfusion hx)
    refine cseq ?_
    refine cregion ?_
    refine sv rfl (opv_as rfl) ?_
    refine snil ?_
    refine cret ?_
    refine then_ret ?_
    obtain rfl := Option.some.inj h
    refine ⟨Or.inr rfl, _, _, _, (resVs_cons (ResV.tmp _ _ rfl) resVs_nil), (pubC rfl), ?_⟩
    rfl

def m44_slices_Clone (a0 : List GChainChain) : Option (List GChainChain) :=
  if (([] : List GChainChain).length + a0.length) * 24 ≤ 140737488355328 then (some (([] : List GChainChain) ++ a0)) else none

set_option maxRecDepth 100000 in
theorem m44_slices_Clone_c {a0 : List GChainChain} {r : (List GChainChain)} (h : m44_slices_Clone a0 = some r) : CallsA Try.prog 44 [.one (.sl a0.length (a0.flatMap eGChainChain))] (· = .s (.one (.sl r.length (r.flatMap eGChainChain)))) := by
  unfold m44_slices_Clone at h
  refine callsA_of Try.func44 rfl (nt := 8) rfl (Nat.le_of_ble_eq_true rfl) ?_
  intro w0 S0
  refine cseq ?_
  refine cregion ?_
  refine sv rfl (opv_as rfl) ?_
  refine snil ?_
  refine cseq ?_
  refine cseq ?_
  refine cregion ?_
  refine sv rfl (opv_mv rfl) ?_
  refine snilq rfl Try.underlying34 rfl (fun nq hnq => ?_)
  cases nq
  · skip
    refine snil ?_
    refine ccond rfl (fun hx => Bool.noConfusion hx) (fun _ => ?_)
    refine cskip ?_
    refine then_normal ?_
    refine cseq ?_
    refine cregion ?_
    refine sbuild0 rfl Try.underlying34 ei82 ?_
    refine sv rfl (opv_mv rfl) ?_
    obtain ⟨hb1, h⟩ := chk_eq h
    refine sapp (f := eGChainChain) (xs := ([] : List GChainChain)) (us := a0) rfl Try.underlying34 ei82 ni34 (fun _ => rfl) rfl rfl (.one _ _ _ _ (.id _ rfl)) rfl rfl rfl (.sl _ _ _ (flat_len (f := eGChainChain) (fun _ => rfl) _)) rfl rfl hb1 (by decide) ?_
    refine sv rfl (opv_as rfl) ?_
    refine snil ?_
    refine cret ?_
    obtain rfl := Option.some.inj h
    refine ⟨Or.inr rfl, _, _, _, (resVs_cons (ResV.tmp _ _ rfl) resVs_nil), (by (repeat' first | exact PubA.nil _ | apply PubA.cons | apply PubV.one | apply PubV.agg | exact PubL.nil | exact PubL.ls _ _ _ _ _ _ rfl (flat_len (f := eGChainChain) (fun _ => rfl) _).symm | exact PubL.id _ rfl | exact PubLs.nil _ | apply PubLs.cons)), ?_⟩
    rfl
  · obtain rfl := List.eq_nil_of_length_eq_zero (hnq rfl)
    replace h : (some ([] : List GChainChain)) = some r := by first | exact h | (rw [if_pos (by decide)] at h; exact h)
    refine snil ?_
    refine ccond rfl (fun _ => ?_) (fun hx => Bool.noConfusion hx)
    refine cseq ?_
    refine cregion ?_
    refine sv rfl (opv_as rfl) ?_
    refine snil ?_
    refine cret ?_
    refine then_ret ?_
    obtain rfl := Option.some.inj h
    refine ⟨Or.inr rfl, _, _, _, (resVs_cons (ResV.tmp _ _ rfl) resVs_nil), (pubC rfl), ?_⟩
    rfl

def m43_slices_Cloneo (a0 : List (List UInt8)) : Option (List (List UInt8)) :=
  if (([] : List (List UInt8)).length + a0.length) * 24 ≤ 140737488355328 then (some (([] : List (List UInt8)) ++ a0)) else none

set_option maxRecDepth 100000 in
theorem m43_slices_Cloneo_c {a0 : List (List UInt8)} {r : (List (List UInt8))} (h : m43_slices_Cloneo a0 = some r) : CallsB Try.prog 43 [] [.one (.sl a0.length (a0.flatMap (eL eU8)))] (fun y m' => y = .s (.one (.ls 0 r.length)) ∧ m' = [.arr 26 1 0 (r.flatMap (eL eU8))]) := by
  unfold m43_slices_Cloneo at h
  refine callsB_of Try.func43 rfl (nt := 8) rfl (Nat.le_of_ble_eq_true rfl) ?_
  intro w0 S0 X0 H0
  refine cseq ?_
  refine cregion ?_
  refine sv rfl (opv_as rfl) ?_
  refine snil ?_
  refine cseq ?_
  refine cseq ?_
  refine cregion ?_
  refine sv rfl (opv_mv rfl) ?_
  refine snilq rfl Try.underlying22 rfl (fun nq hnq => ?_)
  cases nq
  · skip
    refine snil ?_
    refine ccond rfl (fun hx => Bool.noConfusion hx) (fun _ => ?_)
    refine cskip ?_
    refine then_normal ?_
    refine cseq ?_
    refine cregion ?_
    refine sbuild0 rfl Try.underlying22 ei26 ?_
    refine sv rfl (opv_mv rfl) ?_
    obtain ⟨hb1, h⟩ := chk_eq h
    refine sapp (f := (eL eU8)) (xs := ([] : List (List UInt8))) (us := a0) rfl Try.underlying22 ei26 ni22 (fun _ => rfl) rfl rfl (.one _ _ _ _ (.id _ rfl)) rfl rfl rfl (.sl _ _ _ (flat_len (f := (eL eU8)) (fun _ => rfl) _)) rfl rfl hb1 (by decide) ?_
    refine sv rfl (opv_as rfl) ?_
    refine snil ?_
    refine cret ?_
    obtain rfl := Option.some.inj h
    exact ⟨Or.inr rfl, _, [0], [.one (.ls 0 (([] : List (List UInt8)) ++ a0).length)], [.arr 26 1 0 ((([] : List (List UInt8)) ++ a0).flatMap (eL eU8))], (resVs_cons (ResV.tmp _ _ rfl) resVs_nil), rfl, rfl, ⟨by decide, rfl⟩, rfl, rfl, ⟨rfl, rfl⟩⟩
  · obtain rfl := List.eq_nil_of_length_eq_zero (hnq rfl)
    replace h : (some ([] : List (List UInt8))) = some r := by first | exact h | (rw [if_pos (by decide)] at h; exact h)
    refine snil ?_
    refine ccond rfl (fun _ => ?_) (fun hx => Bool.noConfusion hx)
    refine cseq ?_
    refine cregion ?_
    refine sv rfl (opv_as rfl) ?_
    refine snil ?_
    refine sadopt_c 26 1 2 (by decide) rfl ?_
    refine cret ?_
    refine then_ret ?_
    obtain rfl := Option.some.inj h
    exact ⟨Or.inr rfl, _, [0], [.one (.ls 0 ([] : List (List UInt8)).length)], [.arr 26 1 0 (([] : List (List UInt8)).flatMap (eL eU8))], (resVs_cons (ResV.tmp _ _ rfl) resVs_nil), rfl, rfl, ⟨by decide, rfl⟩, rfl, rfl, ⟨rfl, rfl⟩⟩

def m44_slices_Cloneo (a0 : List GChainChain) : Option (List GChainChain) :=
  if (([] : List GChainChain).length + a0.length) * 24 ≤ 140737488355328 then (some (([] : List GChainChain) ++ a0)) else none

set_option maxRecDepth 100000 in
theorem m44_slices_Cloneo_c {a0 : List GChainChain} {r : (List GChainChain)} (h : m44_slices_Cloneo a0 = some r) : CallsB Try.prog 44 [] [.one (.sl a0.length (a0.flatMap eGChainChain))] (fun y m' => y = .s (.one (.ls 0 r.length)) ∧ m' = [.arr 82 1 0 (r.flatMap eGChainChain)]) := by
  unfold m44_slices_Cloneo at h
  refine callsB_of Try.func44 rfl (nt := 8) rfl (Nat.le_of_ble_eq_true rfl) ?_
  intro w0 S0 X0 H0
  refine cseq ?_
  refine cregion ?_
  refine sv rfl (opv_as rfl) ?_
  refine snil ?_
  refine cseq ?_
  refine cseq ?_
  refine cregion ?_
  refine sv rfl (opv_mv rfl) ?_
  refine snilq rfl Try.underlying34 rfl (fun nq hnq => ?_)
  cases nq
  · skip
    refine snil ?_
    refine ccond rfl (fun hx => Bool.noConfusion hx) (fun _ => ?_)
    refine cskip ?_
    refine then_normal ?_
    refine cseq ?_
    refine cregion ?_
    refine sbuild0 rfl Try.underlying34 ei82 ?_
    refine sv rfl (opv_mv rfl) ?_
    obtain ⟨hb1, h⟩ := chk_eq h
    refine sapp (f := eGChainChain) (xs := ([] : List GChainChain)) (us := a0) rfl Try.underlying34 ei82 ni34 (fun _ => rfl) rfl rfl (.one _ _ _ _ (.id _ rfl)) rfl rfl rfl (.sl _ _ _ (flat_len (f := eGChainChain) (fun _ => rfl) _)) rfl rfl hb1 (by decide) ?_
    refine sv rfl (opv_as rfl) ?_
    refine snil ?_
    refine cret ?_
    obtain rfl := Option.some.inj h
    exact ⟨Or.inr rfl, _, [0], [.one (.ls 0 (([] : List GChainChain) ++ a0).length)], [.arr 82 1 0 ((([] : List GChainChain) ++ a0).flatMap eGChainChain)], (resVs_cons (ResV.tmp _ _ rfl) resVs_nil), rfl, rfl, ⟨by decide, rfl⟩, rfl, rfl, ⟨rfl, rfl⟩⟩
  · obtain rfl := List.eq_nil_of_length_eq_zero (hnq rfl)
    replace h : (some ([] : List GChainChain)) = some r := by first | exact h | (rw [if_pos (by decide)] at h; exact h)
    refine snil ?_
    refine ccond rfl (fun _ => ?_) (fun hx => Bool.noConfusion hx)
    refine cseq ?_
    refine cregion ?_
    refine sv rfl (opv_as rfl) ?_
    refine snil ?_
    refine sadopt_c 82 1 2 (by decide) rfl ?_
    refine cret ?_
    refine then_ret ?_
    obtain rfl := Option.some.inj h
    exact ⟨Or.inr rfl, _, [0], [.one (.ls 0 ([] : List GChainChain).length)], [.arr 82 1 0 (([] : List GChainChain).flatMap eGChainChain)], (resVs_cons (ResV.tmp _ _ rfl) resVs_nil), rfl, rfl, ⟨by decide, rfl⟩, rfl, rfl, ⟨rfl, rfl⟩⟩

def m62_keys_key_reacheds (a0 : List UInt8) (a1 : List UInt8) : Option Bool :=
  (m71_keys_Cmp a1 a0).bind fun v1 => some (decide (0 ≤ v1))

set_option maxRecDepth 100000 in
theorem m62_keys_key_reacheds_c {a0 : List UInt8} {a1 : List UInt8} {r : Bool} (h : m62_keys_key_reacheds a0 a1 = some r) : CallsA Try.prog 62 [.one (.sl a0.length (a0.flatMap eU8)), .one (.sl a1.length (a1.flatMap eU8))] (· = .s (.one (.b r))) := by
  unfold m62_keys_key_reacheds at h
  refine callsA_of Try.func62 rfl (nt := 9) rfl (Nat.le_of_ble_eq_true rfl) ?_
  intro w0 S0
  refine cseq ?_
  refine cregion ?_
  refine sv rfl (opv_as rfl) ?_
  refine snil ?_
  refine cseq ?_
  refine cregion ?_
  refine sv rfl (opv_mv rfl) ?_
  refine sv rfl (opv_mv rfl) ?_
  obtain ⟨v1, hv1, h⟩ := bind_eq h
  refine scall1 rfl fn71 (opnds_cons rfl (opnds_cons rfl opnds_nil)) (pubA_id rfl) (m71_keys_Cmp_c hv1) ?_
  refine sv rfl (opv_geq rfl rfl) ?_
  refine sv rfl (opv_as rfl) ?_
  refine snil ?_
  refine cret ?_
  obtain rfl := Option.some.inj h
  refine ⟨Or.inr rfl, _, _, _, (resVs_cons (ResV.tmp _ _ rfl) resVs_nil), (pubA_id rfl), ?_⟩
  rfl

def m61_slices_IndexFuncs_k1 (b1 : Unit) : Option Int :=
  some (-1)

def m61_slices_IndexFuncs_s2 (a0 : List (List UInt8)) (a1 : List UInt8) (s2 : Int) : Option (LR (Int) (Unit) (Int)) :=
  if (decide (s2 < (a0.length : Int))) then ((idx a0 s2).bind fun u3 => (m62_keys_key_reacheds a1 u3).bind fun v4 => if v4 then (some (.ret s2)) else (some (.cont (wI (s2 + 1))))) else (some (.brk ()))
def m61_slices_IndexFuncs (a0 : List (List UInt8)) (a1 : List UInt8) : Option Int :=
  (iter (m61_slices_IndexFuncs_s2 a0 a1) fuel 0).bind fun x => match x with | .inl r => some r | .inr e5 => m61_slices_IndexFuncs_k1 e5

set_option maxRecDepth 100000 in
theorem m61_slices_IndexFuncs_c {a0 : List (List UInt8)} {a1 : List UInt8} {r : Int} (h : m61_slices_IndexFuncs a0 a1 = some r) : CallsB Try.prog 61 [.arr 26 1 0 (a0.flatMap (eL eU8))] [.one (.ls 0 a0.length), .one (.fn 62 [.sl a1.length (a1.flatMap eU8)] [])] (fun y m' => y = .s (.one (.i .i64 r)) ∧ m' = [.arr 26 1 0 (a0.flatMap (eL eU8))]) := by
  unfold m61_slices_IndexFuncs at h
  refine callsB_of Try.func61 rfl (nt := 19) rfl (Nat.le_of_ble_eq_true rfl) ?_
  intro w0 S0 X0 H0
  refine cseq ?_
  refine cregion ?_
  refine sv rfl (opv_as rfl) ?_
  refine snil ?_
  refine cseq ?_
  refine cseq ?_
  refine cregion ?_
  refine sv rfl (opv_mv rfl) ?_
  refine sv rfl (opv_len_ls si22 rfl rfl (flat_len (f := (eL eU8)) (fun _ => rfl) _).symm) ?_
  refine sv rfl (opv_mv rfl) ?_
  refine snil ?_
  refine cjoin (Unit) (fun b1 => []) (fun b1 => [.arr 26 1 0 (a0.flatMap (eL eU8))]) (fun b1 => m61_slices_IndexFuncs_k1 b1 = some r) (fun _ _ => inbL_of rfl) (fun _ _ => blkinb_of rfl) (fun _ _ => Nat.le_of_ble_eq_true rfl) (fun b1 h => ?_) ?_
  · unfold m61_slices_IndexFuncs_k1 at h
    refine cseq ?_
    refine cregion ?_
    refine sv rfl (opv_as rfl) ?_
    refine snil ?_
    refine cret ?_
    obtain rfl := Option.some.inj h
    exact ⟨Or.inr rfl, _, [0], [.one (.i .i64 (-1))], [.arr 26 1 0 (a0.flatMap (eL eU8))], (resVs_cons (ResV.tmp _ _ rfl) resVs_nil), rfl, rfl, ⟨by decide, rfl⟩, rfl, rfl, ⟨rfl, rfl⟩⟩
  · skip
    refine cblock ?_
    obtain ⟨x2, hx2, ho2⟩ := bind_eq h
    refine awc_loop (G := Nat × (Int)) (fun g => [(0, .s (.one (.ls 0 a0.length))), (1, .s (.one (.fn 62 [.sl a1.length (a1.flatMap eU8)] []))), (7, .s (.one (.i .i64 (a0.length : Int)))), (8, .s (.one (.i .i64 g.2)))]) (fun g => [.arr 26 1 0 (a0.flatMap (eL eU8))]) (fun g => iter (m61_slices_IndexFuncs_s2 a0 a1) g.1 g.2 = some x2) (fun g => g.1) (fuel, 0) hx2 ⟨rfl, rfl, rfl, rfl, trivial⟩ [] rfl (fun _ _ => inbL_of rfl) (fun _ _ => blkinb_of rfl) (fun _ _ => Nat.le_of_ble_eq_true rfl) ?_
    clear hx2 h
    rintro ⟨n2, s2⟩ h
    obtain ⟨n2, y2, rfl, h, hk2⟩ := iter_eq h
    unfold m61_slices_IndexFuncs_s2 at h
    refine cseq ?_
    refine cregion ?_
    refine sv rfl (opv_lss rfl rfl) ?_
    refine snil ?_
    refine cseq ?_
    refine ccond rfl (fun hc => ?_) (fun hc => ?_)
    · replace h := ite_t hc h
      clear hc
      refine cskip ?_
      refine then_normal ?_
      refine cseq ?_
      refine cblock ?_
      refine cseq ?_
      refine cregion ?_
      refine sv rfl (opv_mv rfl) ?_
      refine sv rfl (opv_as rfl) ?_
      refine snil ?_
      refine cseq ?_
      refine cregion ?_
      refine sv rfl (opv_mv rfl) ?_
      refine sv rfl (opv_mv rfl) ?_
      refine sv rfl (opv_mv rfl) ?_
      obtain ⟨u3, hu3, h⟩ := bind_eq h
      refine sv rfl (opv_ixo (f := (eL eU8)) si22 (fun _ => rfl) rfl rfl rfl rfl rfl hu3) ?_
      refine sv rfl (opv_ld1o (f := (eL eU8)) 0 ti26 (fun _ => rfl) rfl rfl rfl rfl (idx_eq hu3).2 rfl) ?_
      obtain ⟨v4, hv4, h⟩ := bind_eq h
      refine sd rfl (opD_callC fn62 (.fn _ _ _ _ rfl) (opnds_cons rfl opnds_nil) rfl (m62_keys_key_reacheds_c hv4)) ?_
      refine snil ?_
      refine ccond rfl (fun hc => ?_) (fun hc => ?_)
      · replace h := ite_t hc h
        clear hc
        refine cseq ?_
        refine cregion ?_
        refine sv rfl (opv_mv rfl) ?_
        refine sv rfl (opv_as rfl) ?_
        refine snil ?_
        refine cret ?_
        refine block_ret ?_
        refine then_ret ?_
        refine then_ret ?_
        refine block_ret ?_
        refine then_ret ?_
        obtain rfl := Option.some.inj h
        obtain rfl : Sum.inl _ = x2 := hk2
        replace ho2 : some _ = some _ := ho2
        obtain rfl := Option.some.inj ho2
        exact ⟨Or.inr rfl, _, [0], [.one (.i .i64 s2)], [.arr 26 1 0 (a0.flatMap (eL eU8))], (resVs_cons (ResV.tmp _ _ rfl) resVs_nil), rfl, rfl, ⟨by decide, rfl⟩, rfl, rfl, ⟨rfl, rfl⟩⟩
      · replace h := ite_f hc h
        clear hc
        refine cskip ?_
        refine block_normal ?_
        refine then_normal ?_
        refine cregion ?_
        refine sv rfl (opv_add rfl rfl) ?_
        refine sv rfl (opv_mv rfl) ?_
        refine snil ?_
        obtain rfl := Option.some.inj h
        exact ⟨(n2, (wI (s2 + 1))), _, hk2, ⟨rfl, rfl, rfl, rfl, trivial⟩, rfl, Nat.lt_succ_self _⟩
    · replace h := ite_f hc h
      clear hc
      refine cexit ?_
      refine then_exit ?_
      refine then_exit ?_
      refine block_hit ?_
      refine then_normal ?_
      obtain rfl := Option.some.inj h
      obtain rfl : _ = x2 := hk2
      exact ⟨(), _, ho2, trivial, rfl⟩

def m63_bytes_Equal (a0 : List UInt8) (a1 : List UInt8) : Option Bool :=
  some (a0 == a1)

set_option maxRecDepth 100000 in
theorem m63_bytes_Equal_c {a0 : List UInt8} {a1 : List UInt8} {r : Bool} (h : m63_bytes_Equal a0 a1 = some r) : CallsA Try.prog 63 [.one (.sl a0.length (a0.flatMap eU8)), .one (.sl a1.length (a1.flatMap eU8))] (· = .s (.one (.b r))) := by
  unfold m63_bytes_Equal at h
  refine callsA_of Try.func63 rfl (nt := 10) rfl (Nat.le_of_ble_eq_true rfl) ?_
  intro w0 S0
  refine cseq ?_
  refine cregion ?_
  refine sv rfl (opv_as rfl) ?_
  refine snil ?_
  refine cseq ?_
  refine cregion ?_
  refine sv rfl (opv_mv rfl) ?_
  refine sv rfl (opv_bs (l := a0) Try.underlying26 Try.underlying5 Try.underlying9 rfl rfl rfl) ?_
  refine sv rfl (opv_mv rfl) ?_
  refine sv rfl (opv_bs (l := a1) Try.underlying26 Try.underlying5 Try.underlying9 rfl rfl rfl) ?_
  refine sv rfl (opv_seql' rfl rfl) ?_
  refine sv rfl (opv_as rfl) ?_
  refine snil ?_
  refine cret ?_
  obtain rfl := Option.some.inj h
  refine ⟨Or.inr rfl, _, _, _, (resVs_cons (ResV.tmp _ _ rfl) resVs_nil), (pubA_id rfl), ?_⟩
  rfl

def m38_keys_Finds (a0 : List (List UInt8)) (a1 : List UInt8) : Option (Int × Bool) :=
  (m61_slices_IndexFuncs a0 a1).bind fun v1 => if (decide (v1 < 0)) then (some ((a0.length : Int), false)) else ((idx a0 v1).bind fun u2 => (m63_bytes_Equal u2 a1).bind fun v3 => some (v1, v3))

set_option maxRecDepth 100000 in
theorem m38_keys_Finds_c {a0 : List (List UInt8)} {a1 : List UInt8} {r : Int × Bool} (h : m38_keys_Finds a0 a1 = some r) : CallsB Try.prog 38 [.arr 26 1 0 (a0.flatMap (eL eU8))] [.one (.ls 0 a0.length), .one (.sl a1.length (a1.flatMap eU8))] (fun y m' => y = .tup [.one (.i .i64 r.1), .one (.b r.2)] ∧ m' = [.arr 26 1 0 (a0.flatMap (eL eU8))]) := by
  unfold m38_keys_Finds at h
  refine callsB_of Try.func38 rfl (nt := 22) rfl (Nat.le_of_ble_eq_true rfl) ?_
  intro w0 S0 X0 H0
  refine cseq ?_
  refine cregion ?_
  refine sv rfl (opv_as rfl) ?_
  refine sv rfl (opv_as rfl) ?_
  refine snil ?_
  refine cseq ?_
  refine cregion ?_
  refine sv rfl (opv_mv rfl) ?_
  refine sv rfl (opv_mv rfl) ?_
  refine sv rfl (opv_makeFunc (opnds1_cons rfl rfl opnds1_nil) opnds1_nil) ?_
  obtain ⟨v1, hv1, h⟩ := bind_eq h
  refine scallB (x' := .s (.one (.i .i64 v1))) (M' := [.arr 26 1 0 (a0.flatMap (eL eU8))]) [0] rfl fn61 (.func _) (opnds_cons rfl (opnds_cons rfl opnds_nil)) (m61_slices_IndexFuncs_c hv1) rfl rfl (by decide) rfl rfl rfl ?_
  refine sv rfl (opv_as rfl) ?_
  refine snil ?_
  refine cseq ?_
  refine cseq ?_
  refine cregion ?_
  refine sv rfl (opv_mv rfl) ?_
  refine sv rfl (opv_lss rfl rfl) ?_
  refine snil ?_
  refine ccond rfl (fun hc => ?_) (fun hc => ?_)
  · replace h := ite_t hc h
    clear hc
    refine cseq ?_
    refine cregion ?_
    refine sv rfl (opv_mv rfl) ?_
    refine sv rfl (opv_len_ls si22 rfl rfl (flat_len (f := (eL eU8)) (fun _ => rfl) _).symm) ?_
    refine sv rfl (opv_as rfl) ?_
    refine sv rfl (opv_as rfl) ?_
    refine snil ?_
    refine cret ?_
    refine then_ret ?_
    obtain rfl := Option.some.inj h
    exact ⟨Or.inr rfl, _, [0], [.one (.i .i64 (a0.length : Int)), .one (.b false)], [.arr 26 1 0 (a0.flatMap (eL eU8))], (resVs_cons (ResV.tmp _ _ rfl) (resVs_cons (ResV.tmp _ _ rfl) resVs_nil)), rfl, rfl, ⟨by decide, rfl⟩, rfl, rfl, ⟨rfl, rfl⟩⟩
  · replace h := ite_f hc h
    clear hc
    refine cskip ?_
    refine then_normal ?_
    refine cseq ?_
    refine cregion ?_
    refine sv rfl (opv_mv rfl) ?_
    refine sv rfl (opv_mv rfl) ?_
    refine sv rfl (opv_mv rfl) ?_
    obtain ⟨u2, hu2, h⟩ := bind_eq h
    refine sv rfl (opv_ixo (f := (eL eU8)) si22 (fun _ => rfl) rfl rfl rfl rfl rfl hu2) ?_
    refine sv rfl (opv_ld1o (f := (eL eU8)) 0 ti26 (fun _ => rfl) rfl rfl rfl rfl (idx_eq hu2).2 rfl) ?_
    refine sv rfl (opv_mv rfl) ?_
    obtain ⟨v3, hv3, h⟩ := bind_eq h
    refine scall1 rfl fn63 (opnds_cons rfl (opnds_cons rfl opnds_nil)) (pubA_id rfl) (m63_bytes_Equal_c hv3) ?_
    refine sv rfl (opv_as rfl) ?_
    refine sv rfl (opv_as rfl) ?_
    refine snil ?_
    refine cret ?_
    obtain rfl := Option.some.inj h
    exact ⟨Or.inr rfl, _, [0], [.one (.i .i64 v1), .one (.b v3)], [.arr 26 1 0 (a0.flatMap (eL eU8))], (resVs_cons (ResV.tmp _ _ rfl) (resVs_cons (ResV.tmp _ _ rfl) resVs_nil)), rfl, rfl, ⟨by decide, rfl⟩, rfl, rfl, ⟨rfl, rfl⟩⟩

section
open Go.Lib

set_option maxHeartbeats 4000000 in
set_option maxRecDepth 100000 in
theorem ins67_end (b n c vb vc : Nat) (vs : List Value) (w : World) (i0 : TypeInfo) (hi0 : Try.prog.info? 26 = some i0) (hs0 : i0.size = 1) (hroom : n + 1 ≤ c) (hc63 : c ≤ 9223372036854775807)
    (hvl : vs.length = 1) (hsp : ∀ j, j < 1 → (w.cell? ⟨b, n * 1 + j, none⟩).isSome = true) (hfz : ∀ j, j < 1 → w.frozen? ⟨b, n * 1 + j, none⟩ = false)
    (hvs : ∀ j v, vs[j]? = some v → w.cell? ⟨vb, j, none⟩ = some v) (h1v : ∀ v ∈ vs, v.oneCell' = true) :
    Calls Try.prog 67 #[.slice (some ⟨b, 0, none⟩) n c, .int .i64 n, .slice (some ⟨vb, 0, none⟩) 1 vc] w fun e w' =>
      e = .returned (.slice (some ⟨b, 0, none⟩) (n + 1) c) ∧ w' = w.setCells b (n * 1) vs := by
  have hsrc : _root_.Go.Src Try.prog i0.size 22 (.slice (some ⟨vb, 0, none⟩) 1 vc) 1 vs w := by
    rw [hs0]
    exact _root_.Go.Src.ofSlice w Try.underlying22 ⟨vb, 0, none⟩ 1 vc vs (by omega) (fun j u hj => by rw [Addr.add_lit, Nat.zero_add]; exact hvs j u hj) h1v
  go_enter Try.func67, Try.ntmps67
  go_wp2_with (at_builtin; refine wpList_append_room_src _ rfl _ _ 22 22 rfl 26 i0 Try.underlying22 hi0 b 0 n c rfl _ rfl 1 vs hsrc hroom (by rw [hvl, hs0, Nat.zero_add]; exact hsp) (by rw [hvl, hs0, Nat.zero_add]; exact hfz) ?_)
  go_ret
  refine ⟨rfl, ?_⟩
  first | rfl | (simp; done) | (simp [hs0]; done)

set_option maxHeartbeats 4000000 in
set_option maxRecDepth 100000 in
theorem ins67_egrow (b n c vb vc : Nat) (cs vs : List Value) (w : World) (i0 : TypeInfo) (hi0 : Try.prog.info? 26 = some i0) (hz0 : i0.zero = some (.slice none 0 0)) (hs0 : i0.size = 1) (hnc : n ≤ c) (hroom : c < n + 1) (hn63 : n + 1 ≤ 9223372036854775807)
    (hfit : Builtin.nextslicecap (n + 1) c * i0.bytes ≤ 281474976710656) (hcl : cs.length = n * 1) (hvl : vs.length = 1)
    (hcs : ∀ j v, cs[j]? = some v → w.cell? ⟨b, j, none⟩ = some v) (hvs : ∀ j v, vs[j]? = some v → w.cell? ⟨vb, j, none⟩ = some v) (h1v : ∀ v ∈ vs, v.oneCell' = true) :
    Calls Try.prog 67 #[.slice (some ⟨b, 0, none⟩) n c, .int .i64 n, .slice (some ⟨vb, 0, none⟩) 1 vc] w fun e w' =>
      e = .returned (.slice (some ⟨w.heap.size, 0, none⟩) (n + 1) (grownCap w (n + 1) c 26)) ∧
      w' = w.drew.alloc (.cells ((cs ++ vs).toArray ++ Builtin.zeroCells (Value.cells (.slice none 0 0)) (grownCap w (n + 1) c 26 - (n + 1))) 26) := by
  have hsrc : _root_.Go.Src Try.prog i0.size 22 (.slice (some ⟨vb, 0, none⟩) 1 vc) 1 vs w := by
    rw [hs0]
    exact _root_.Go.Src.ofSlice w Try.underlying22 ⟨vb, 0, none⟩ 1 vc vs (by omega) (fun j u hj => by rw [Addr.add_lit, Nat.zero_add]; exact hvs j u hj) h1v
  have hold : (Builtin.firstCells i0.size n (.slice (some ⟨b, 0, none⟩) n c)).run Try.prog w.drew = .ok cs.toArray w.drew := by
    rw [hs0]
    exact run_firstCells_some w.drew 1 n ⟨b, 0, none⟩ n c cs (by omega) (fun j v hj => by rw [Addr.add_lit, Nat.zero_add]; exact hcs j v hj)
  have hrun : ∀ ty, (Builtin.append_ #[22, 22] ty #[.slice (some ⟨b, 0, none⟩) n c, .slice (some ⟨vb, 0, none⟩) 1 vc]).run Try.prog w = .ok (.slice (some ⟨w.heap.size, 0, none⟩) (n + 1) (grownCap w (n + 1) c 26)) (w.drew.alloc (.cells ((cs ++ vs).toArray ++ Builtin.zeroCells (Value.cells (.slice none 0 0)) (grownCap w (n + 1) c 26 - (n + 1))) 26)) := fun ty =>
    run_append_grow_src w 22 22 ty 26 i0 _ Try.underlying22 hi0 hz0 (some ⟨b, 0, none⟩) n c cs hold _ 1 vs hsrc hroom (by omega) hfit
  go_enter Try.func67, Try.ntmps67
  go_wp2_with (at_builtin; refine Lib.wpList_append_run _ rfl _ _ _ _ rfl _ _ rfl rfl _ _ (hrun _) ?_)
  all_goals (go_ret; first | exact ⟨rfl, rfl⟩ | exact ⟨rfl, by simp [Value.cells]⟩)

set_option maxHeartbeats 4000000 in
set_option maxRecDepth 100000 in
theorem ins67_shift (b n c i vb vc : Nat) (cs vs : List Value) (w : World) (hs0 : (Try.prog.info? 26).map (·.size) = some 1) (hi : i < n) (hroom : n + 1 ≤ c) (hc63 : c ≤ 9223372036854775807) (hvb : vb ≠ b)
    (hcl : cs.length = n * 1) (hvl : vs.length = 1)
    (hcs : ∀ j v, cs[j]? = some v → w.cell? ⟨b, j, none⟩ = some v) (hsp : ∀ j, j < (n + 1) * 1 → (w.cell? ⟨b, j, none⟩).isSome = true) (hfz : ∀ j, j < (n + 1) * 1 → w.frozen? ⟨b, j, none⟩ = false)
    (hvs : ∀ j v, vs[j]? = some v → w.cell? ⟨vb, j, none⟩ = some v) (h1c : ∀ v ∈ cs, v.oneCell' = true) (h1v : ∀ v ∈ vs, v.oneCell' = true)
    (tA tB : TypeId) (kA kB : Nat) (hsa : w.shape? vb = some (tA, kA)) (hsb : w.shape? b = some (tB, kB)) (hkB : kB ≠ 0) (hfa : w.frozen? ⟨vb, 0, none⟩ = false) (hfe : w.frozen? ⟨vb, kA, none⟩ = false) :
    Calls Try.prog 67 #[.slice (some ⟨b, 0, none⟩) n c, .int .i64 i, .slice (some ⟨vb, 0, none⟩) 1 vc] w fun e w' =>
      e = .returned (.slice (some ⟨b, 0, none⟩) (n + 1) c) ∧ w' = (w.drew.setCells b (i + 1) (cs.drop (i))).setCells b (i) vs := by
  have hz2 : ¬ ((i : Int) = (n : Int)) := by omega
  have hz3 : ¬ ((c : Int) < (n : Int) + 1) := by omega
  have mixed : Try.prog.follows .mixedOrders = true := by kernel_rfl
  have hov : ∀ lb cb, (callFunc 79 #[.slice (some ⟨vb, 0, none⟩) 1 vc, .slice (some ⟨b, i + 1, none⟩) lb cb]).run Try.prog w = .ok (.value (.bool false)) w := fun lb cb => by
    rw [run_callFunc_extern Try.func79 (by kernel_rfl) (by kernel_rfl) (by kernel_rfl) (e := Extern.SlicesOverlaps.overlaps #[22, 22] #[4]) (by kernel_rfl),
      Lib.run_overlaps_apart w 22 4 26 Try.underlying22 1 (fun w => run_sizeOf' hs0 w) ⟨vb, 0, none⟩ ⟨b, i + 1, none⟩ 1 vc lb cb hvb tA tB kA kB hsa hsb hkB hfa hfe]
    rfl
  have hdl : (cs.drop (i)).length = (n - i) * 1 := by rw [List.length_drop, hcl]; omega
  have hw1 : IntKind.i64.wrap ((i : Int) + 1) = (i : Int) + 1 := by rw [IntKind.wrap_i64]; omega
  have hb1 : (0 : Int) ≤ (i : Int) + 1 := by omega
  have hin : i ≤ n := by omega
  have htn : ((i : Int) + 1).toNat = i + 1 := by omega
  have hb2 : ¬ (c = i + 1) := by omega
  have hb3 : (i : Int) ≤ (n : Int) + 1 := by omega
  have hb4 : ¬ (c = i) := by omega
  have hcp1 : ∀ ty dc sc, (Builtin.copy_ #[22, 22] ty #[.slice (some ⟨b, i + 1, none⟩) (n - i) dc, .slice (some ⟨b, i, none⟩) (n + 1 - i) sc]).run Try.prog w.drew = .ok (goInt (n - i : Nat)) (w.drew.setCells b (i + 1) (cs.drop (i))) := fun ty dc sc =>
    run_copy_k w.drew _ _ ty 26 b (i + 1) (n - i) dc ⟨b, i, none⟩ (n + 1 - i) sc 1 (n - i) (cs.drop (i)) Try.underlying22 hs0 (by simp only [Nat.min_def]; split <;> omega) hdl
      (fun j v hj => by rw [Addr.add_lit]; exact hcs (i + j) v (by rwa [List.getElem?_drop] at hj))
      (fun j hj => hsp _ (by rw [hdl] at hj; omega)) (fun j hj => hfz _ (by rw [hdl] at hj; omega)) (fun v hv => h1c v (List.mem_of_mem_drop hv))
  obtain ⟨W1, hW1⟩ : ∃ W1, W1 = w.drew.setCells b (i + 1) (cs.drop (i)) := ⟨_, rfl⟩
  have hsp1 : ∀ k, k < (n + 1) * 1 → (W1.cell? ⟨b, k, none⟩).isSome = true := fun k hk => by
    rw [hW1]
    exact isSome_setCells b (cs.drop (i)) (i + 1) w.drew (fun j hj => hsp _ (by rw [hdl] at hj; omega)) _ (hsp k hk)
  have hcp2 : ∀ (W : World), (∀ x, W.cell? x = W1.cell? x) → (∀ x, W.frozen? x = W1.frozen? x) → ∀ ty dc, (Builtin.copy_ #[22, 22] ty #[.slice (some ⟨b, i, none⟩) (n + 1 - i) dc, .slice (some ⟨vb, 0, none⟩) 1 vc]).run Try.prog W = .ok (goInt (1 : Nat)) (W.setCells b (i) vs) := fun W hWc hWf ty dc =>
    run_copy_k W _ _ ty 26 b (i) (n + 1 - i) dc ⟨vb, 0, none⟩ 1 vc 1 1 vs Try.underlying22 hs0 (by simp only [Nat.min_def]; split <;> omega) (by omega)
      (fun j v hj => by
        rw [Addr.add_lit, hWc, hW1, Nat.zero_add, World.cell?_setCells_out b _ _ _ _ (fun h _ => absurd h hvb)]
        exact hvs j v hj)
      (fun j hj => by rw [hWc]; exact hsp1 _ (by omega)) (fun j hj => by rw [hWf, hW1, World.frozen?_setCells]; exact hfz _ (by omega)) h1v
  rw [← hW1] at hcp1
  go_enter Try.func67, Try.ntmps67
  go_wp2_with (simp only [hov])
  go_region_law_o (refine step_copy_runI rfl _ _ 22 22 rfl _ _ (by simp [Act.eval, Act.put]) (by simp [Act.eval, Act.put]) (hcp1 _ _ _) ?_)
  go_wp2_with (at_builtin; refine wpList_copy_runI _ rfl _ _ 22 22 rfl _ _ rfl rfl (hcp2 _ (fun _ => rfl) (fun _ => rfl) _ _) ?_)
  go_ret
  first | exact ⟨rfl, rfl⟩ | exact ⟨rfl, by rw [hW1]⟩

set_option maxHeartbeats 4000000 in
set_option maxRecDepth 100000 in
theorem ins67_grow (b n c i vb vc : Nat) (cs vs : List Value) (w : World) (i0 : TypeInfo) (hi0 : Try.prog.info? 26 = some i0) (hz0 : i0.zero = some (.slice none 0 0)) (hs0 : i0.size = 1) (hi : i < n) (hnc : n ≤ c) (hroom : c < n + 1) (hn63 : n + 1 ≤ 4611686018427387904)
    (hb48 : (n + 1) * i0.bytes ≤ 281474976710656) (hfit : Builtin.nextslicecap (n + 1) c * i0.bytes ≤ 281474976710656) (hcl : cs.length = n * 1) (hvl : vs.length = 1)
    (hcs : ∀ j v, cs[j]? = some v → w.cell? ⟨b, j, none⟩ = some v) (hvs : ∀ j v, vs[j]? = some v → w.cell? ⟨vb, j, none⟩ = some v) (h1c : ∀ v ∈ cs, v.oneCell' = true) (h1v : ∀ v ∈ vs, v.oneCell' = true) :
    Calls Try.prog 67 #[.slice (some ⟨b, 0, none⟩) n c, .int .i64 i, .slice (some ⟨vb, 0, none⟩) 1 vc] w fun e w' =>
      e = .returned (.slice (some ⟨w.heap.size, 0, none⟩) (n + 1) (grownCap w (n + 1) c 26)) ∧
      w' = (((w.alloc (.cells ((cs.take (i)).toArray ++ Builtin.zeroCells (Value.cells (.slice none 0 0)) (n + 1 - i) ++ Builtin.zeroCells (Value.cells (.slice none 0 0)) (grownCap w (n + 1) c 26 - (n + 1))) 26)).drew.setCells w.heap.size (i) vs).drew).setCells w.heap.size (i + 1) (cs.drop (i)) := by
  have mixed : Try.prog.follows .mixedOrders = true := by kernel_rfl
  have hz2 : ¬ ((i : Int) = (n : Int)) := by omega
  have hz3 : (c : Int) < (n : Int) + 1 := by omega
  have hsz : (Try.prog.info? 26).map (·.size) = some 1 := by rw [hi0]; simp [hs0]
  have hbw : b < w.heap.size := block_lt_of_cell (hcs 0 _ (List.getElem?_eq_getElem (by omega)))
  have hvw : vb < w.heap.size := block_lt_of_cell (hvs 0 _ (List.getElem?_eq_getElem (by omega)))
  have hkk : (n : Int) + 1 - (i : Int) = ((n + 1 - i : Nat) : Int) := by omega
  have hik : i + (n + 1 - i) = n + 1 := by omega
  have htl : (cs.take (i)).length = i * 1 := by rw [List.length_take]; omega
  have hold : (Builtin.firstCells i0.size i (.slice (some ⟨b, 0, none⟩) i c)).run Try.prog w.drew = .ok (cs.take (i)).toArray w.drew := by
    rw [hs0]
    exact run_firstCells_some w.drew 1 i ⟨b, 0, none⟩ i c (cs.take (i)) htl (fun j v hj => by
      rw [Addr.add_lit, Nat.zero_add]
      rw [List.getElem?_take] at hj
      split at hj
      · exact hcs j v hj
      · cases hj)
  have hrz : ∀ ty, (Builtin.append_ #[22, 3] ty #[.slice (some ⟨b, 0, none⟩) i c, .int .i64 ((n : Int) + 1 - (i : Int))]).run Try.prog w =
      .ok (.slice (some ⟨w.heap.size, 0, none⟩) (n + 1) (grownCap w (n + 1) c 26)) (w.drew.alloc (.cells ((cs.take (i)).toArray ++ Builtin.zeroCells (Value.cells (.slice none 0 0)) (n + 1 - i) ++ Builtin.zeroCells (Value.cells (.slice none 0 0)) (grownCap w (n + 1) c 26 - (n + 1))) 26)) := fun ty => by
    have h := Lib.run_append_grow_zeros w 22 3 ty 26 i0 _ .i64 .i64 Try.underlying22 Try.underlying3 hi0 hz0 (some ⟨b, 0, none⟩) i c (cs.take (i)) hold (n + 1 - i) (by omega) (by omega) (by omega) (by omega) (Nat.le_trans (Nat.mul_le_mul_right _ (by omega)) hb48) (by rw [hik]; exact hfit)
    rw [hik] at h
    rw [hkk]
    exact h
  obtain ⟨G, hG⟩ : ∃ G, G = grownCap w (n + 1) c 26 := ⟨_, rfl⟩
  obtain ⟨ROW, hROW⟩ : ∃ ROW : Array Value, ROW = (cs.take (i)).toArray ++ Builtin.zeroCells (Value.cells (.slice none 0 0)) (n + 1 - i) ++ Builtin.zeroCells (Value.cells (.slice none 0 0)) (G - (n + 1)) := ⟨_, rfl⟩
  rw [← hG] at hrz ⊢
  rw [← hROW] at hrz ⊢
  have hzc : ∀ k, (Builtin.zeroCells (Value.cells (.slice none 0 0)) k).size = k * 1 := fun k => by simp [Builtin.zeroCells, Value.cells]
  have hRl : (n + 1) * 1 ≤ ROW.size := by
    rw [hROW, Array.size_append, Array.size_append, hzc, hzc, List.size_toArray, htl]
    omega
  obtain ⟨W1, hW1⟩ : ∃ W1, W1 = w.drew.alloc (.cells ROW 26) := ⟨_, rfl⟩
  rw [← hW1] at hrz
  have hN : ∀ j, j < (n + 1) * 1 → (W1.cell? ⟨w.heap.size, j, none⟩).isSome = true := fun j hj => by
    rw [hW1, World.cell?_alloc_at (w := w.drew) ROW _ w.heap.size j rfl, Array.getElem?_eq_getElem (by omega)]; rfl
  have hNf : ∀ j, W1.frozen? ⟨w.heap.size, j, none⟩ = false := fun j => by rw [hW1]; exact World.frozen?_alloc_at (w := w.drew) ROW _ w.heap.size j rfl
  have hOb : ∀ j v, w.cell? ⟨b, j, none⟩ = some v → W1.cell? ⟨b, j, none⟩ = some v := fun j v h => by rw [hW1, World.cell?_alloc_past (w := w.drew) _ b j hbw]; exact h
  have hOv : ∀ j v, w.cell? ⟨vb, j, none⟩ = some v → W1.cell? ⟨vb, j, none⟩ = some v := fun j v h => by rw [hW1, World.cell?_alloc_past (w := w.drew) _ vb j hvw]; exact h
  have hcpA : ∀ (W : World), (∀ x, W.cell? x = W1.cell? x) → (∀ x, W.frozen? x = W1.frozen? x) → ∀ ty dc, (Builtin.copy_ #[22, 22] ty #[.slice (some ⟨w.heap.size, i, none⟩) (n + 1 - i) dc, .slice (some ⟨vb, 0, none⟩) 1 vc]).run Try.prog W = .ok (goInt (1 : Nat)) (W.setCells w.heap.size (i) vs) := fun W hWc hWf ty dc =>
    run_copy_k W _ _ ty 26 w.heap.size (i) (n + 1 - i) dc ⟨vb, 0, none⟩ 1 vc 1 1 vs Try.underlying22 hsz (by simp only [Nat.min_def]; split <;> omega) (by omega)
      (fun j v hj => by rw [Addr.add_lit, hWc, Nat.zero_add]; exact hOv _ v (hvs j v hj))
      (fun j hj => by rw [hWc]; exact hN _ (by omega)) (fun j hj => by rw [hWf]; exact hNf _) h1v
  have hGn : n + 1 ≤ G := by rw [hG]; exact grownCap_ge w _ _ _
  have hG63 : G ≤ 9223372036854775807 := by
    have := grownCap_le_maxLen w (n + 1) c 26 (by unfold maxLen; omega)
    rw [← hG] at this
    unfold maxLen at this
    omega
  have hGi : ¬ (G = i) := by omega
  have hGim : ¬ (G = i + 1) := by omega
  have hci : ¬ (c = i) := by omega
  have hbN : b ≠ w.heap.size := by omega
  have hdl : (cs.drop (i)).length = (n - i) * 1 := by rw [List.length_drop, hcl]; omega
  have hcpB : ∀ (W : World), (∀ x, W.cell? x = (W1.setCells w.heap.size (i) vs).cell? x) → (∀ x, W.frozen? x = (W1.setCells w.heap.size (i) vs).frozen? x) → ∀ ty dc sc, (Builtin.copy_ #[22, 22] ty #[.slice (some ⟨w.heap.size, i + 1, none⟩) (n - i) dc, .slice (some ⟨b, i, none⟩) (n - i) sc]).run Try.prog W = .ok (goInt (n - i : Nat)) (W.setCells w.heap.size (i + 1) (cs.drop (i))) := fun W hWc hWf ty dc sc =>
    run_copy_k W _ _ ty 26 w.heap.size (i + 1) (n - i) dc ⟨b, i, none⟩ (n - i) sc 1 (n - i) (cs.drop (i)) Try.underlying22 hsz (by simp only [Nat.min_def]; split <;> omega) hdl
      (fun j v hj => by
        rw [Addr.add_lit, hWc, World.cell?_setCells_out _ _ _ _ _ (fun h _ => absurd h hbN)]
        exact hOb _ v (hcs (i + j) v (by rwa [List.getElem?_drop] at hj)))
      (fun j hj => by rw [hWc]; exact isSome_setCells w.heap.size vs (i) W1 (fun t ht => hN _ (by omega)) _ (hN _ (by rw [hdl] at hj; omega)))
      (fun j hj => by rw [hWf, World.frozen?_setCells]; exact hNf _) (fun v hv => h1c v (List.mem_of_mem_drop hv))
  subst hW1
  have hE1 : ∀ x, ((w.alloc (.cells ROW 26)).drew).cell? x = (w.drew.alloc (.cells ROW 26)).cell? x := fun x => rfl
  have hE2 : ∀ x, ((w.alloc (.cells ROW 26)).drew).frozen? x = (w.drew.alloc (.cells ROW 26)).frozen? x := fun x => rfl
  have hF1 : ∀ x, (((w.alloc (.cells ROW 26)).drew.setCells w.heap.size (i) vs).drew).cell? x = ((w.drew.alloc (.cells ROW 26)).setCells w.heap.size (i) vs).cell? x := fun x => rfl
  have hF2 : ∀ x, (((w.alloc (.cells ROW 26)).drew.setCells w.heap.size (i) vs).drew).frozen? x = ((w.drew.alloc (.cells ROW 26)).setCells w.heap.size (i) vs).frozen? x := fun x => rfl
  have hw1 : IntKind.i64.wrap ((i : Int) + 1) = (i : Int) + 1 := by rw [IntKind.wrap_i64]; omega
  have hb1 : (0 : Int) ≤ (i : Int) + 1 := by omega
  have hin : i ≤ n := by omega
  have htn : ((i : Int) + 1).toNat = i + 1 := by omega
  have hb3 : (i : Int) ≤ (n : Int) := by omega
  clear hkk hik hold hROW hG hRl htl hzc
  go_enter Try.func67, Try.ntmps67
  go_wp2_with (first
    | (at_builtin; refine Lib.wpList_append_run _ rfl _ _ _ _ rfl _ _ rfl rfl _ _ (hrz _) ?_)
    | (at_builtin; refine wpList_copy_runI _ rfl _ _ 22 22 rfl _ _ rfl rfl (hcpA _ hE1 hE2 _ _) ?_)
    | (at_builtin; refine wpList_copy_runI _ rfl _ _ 22 22 rfl _ _ rfl rfl (hcpB _ (fun _ => rfl) (fun _ => rfl) _ _ _) ?_))
  go_region_law_o (refine step_copy_runI rfl _ _ 22 22 rfl (.slice (some ⟨w.heap.size, i + 1, none⟩) (n - i) (G - (i + 1))) (.slice (some ⟨b, i, none⟩) (n - i) (c - i)) (by simp [Act.eval, Act.put]) (by simp [Act.eval, Act.put]) (hcpB _ hF1 hF2 3 (G - (i + 1)) (c - i)) ?_)
  go_wp2
  go_ret
  exact ⟨rfl, rfl⟩

set_option maxHeartbeats 4000000 in
set_option maxRecDepth 100000 in
theorem ins67_nil (vb vc : Nat) (vs : List Value) (w : World) (i0 : TypeInfo) (hi0 : Try.prog.info? 26 = some i0) (hz0 : i0.zero = some (.slice none 0 0)) (hs0 : i0.size = 1)
    (hfit : Builtin.nextslicecap (0 + 1) 0 * i0.bytes ≤ 281474976710656) (hvl : vs.length = 1)
    (hvs : ∀ j v, vs[j]? = some v → w.cell? ⟨vb, j, none⟩ = some v) (h1v : ∀ v ∈ vs, v.oneCell' = true) :
    Calls Try.prog 67 #[.slice none 0 0, .int .i64 ((0 : Nat) : Int), .slice (some ⟨vb, 0, none⟩) 1 vc] w fun e w' =>
      e = .returned (.slice (some ⟨w.heap.size, 0, none⟩) (0 + 1) (grownCap w (0 + 1) 0 26)) ∧
      w' = w.drew.alloc (.cells (([] ++ vs).toArray ++ Builtin.zeroCells (Value.cells (.slice none 0 0)) (grownCap w (0 + 1) 0 26 - (0 + 1))) 26) := by
  have hsrc : _root_.Go.Src Try.prog i0.size 22 (.slice (some ⟨vb, 0, none⟩) 1 vc) 1 vs w := by
    rw [hs0]
    exact _root_.Go.Src.ofSlice w Try.underlying22 ⟨vb, 0, none⟩ 1 vc vs (by omega) (fun j u hj => by rw [Addr.add_lit, Nat.zero_add]; exact hvs j u hj) h1v
  have hold : (Builtin.firstCells i0.size 0 (.slice none 0 0)).run Try.prog w.drew = .ok ([] : List Value).toArray w.drew := by
    rw [hs0]
    exact run_firstCells_none w.drew 1 0 0 0
  have hrun : ∀ ty, (Builtin.append_ #[22, 22] ty #[.slice none 0 0, .slice (some ⟨vb, 0, none⟩) 1 vc]).run Try.prog w = .ok (.slice (some ⟨w.heap.size, 0, none⟩) (0 + 1) (grownCap w (0 + 1) 0 26)) (w.drew.alloc (.cells (([] ++ vs).toArray ++ Builtin.zeroCells (Value.cells (.slice none 0 0)) (grownCap w (0 + 1) 0 26 - (0 + 1))) 26)) := fun ty =>
    run_append_grow_src w 22 22 ty 26 i0 _ Try.underlying22 hi0 hz0 none 0 0 [] hold _ 1 vs hsrc (by omega) (by omega) hfit
  go_enter Try.func67, Try.ntmps67
  go_wp2_with (at_builtin; refine Lib.wpList_append_run _ rfl _ _ _ _ rfl _ _ rfl rfl _ _ (hrun _) ?_)
  all_goals (go_ret; first | exact ⟨rfl, rfl⟩ | exact ⟨rfl, by simp [Value.cells]⟩)

theorem ins67_info : (Try.prog.info? 26).map (fun i => (i.zero, i.size, i.bytes)) = some (some (.slice none 0 0), 1, 24) := by kernel_rfl

theorem ins67_B {cs vs : List Lf} {n i : Nat} (hcl : cs.length = n * 1) (hvl : vs.length = 1) (hi : i ≤ n) (hn : (n + 1) * 24 ≤ 140737488355328) :
    CallsB Try.prog 67 [.arr 26 1 0 cs, .arr 26 1 0 vs] [.one (.ls 0 n), .one (.i .i64 (i : Int)), .one (.ls 1 1)] (fun y m' => y = .s (.one (.ls 0 (n + 1))) ∧ m' = [.arr 26 1 0 (cs.take (i * 1) ++ vs ++ cs.drop (i * 1)), .dead]) := by
  refine callsB_ins (by decide) hcl hvl (fun w v1 vb vc cur2 xs ys hown hg2 hcell hyl hne hx1 hy1 => ?_)
  obtain ⟨i0, hi0, hz0, hs0, hb0⟩ := info_parts ins67_info
  have hxl := hown.1
  have hfitG : ∀ {old}, old < n + 1 → Builtin.nextslicecap (n + 1) old * i0.bytes ≤ 281474976710656 := fun h => growslice_fits h (by rw [hb0]; exact hn)
  have hsz' : (Try.prog.info? 26).map (·.size) = some 1 := by rw [hi0]; simp [hs0]
  have hzc : ∀ k, (Builtin.zeroCells (Value.cells (.slice none 0 0)) k).size = k * 1 := fun k => by simp [Builtin.zeroCells, Value.cells]
  have hg63 : ∀ c, grownCap w (n + 1) c 26 ≤ maxLen := fun c => grownCap_le_maxLen w (n + 1) c 26 (by unfold maxLen; omega)
  have hgge : ∀ c, n + 1 ≤ grownCap w (n + 1) c 26 := fun c => grownCap_ge w _ _ _
  rcases hown.2 with ⟨rfl, h0⟩ | ⟨g, cap, cur, rfl, _, hg, hnc, hcm, hcs, hct⟩
  · subst h0
    have hi0' : i = 0 := by omega
    subst hi0'
    have hx0 : xs = [] := List.length_eq_zero_iff.1 (hxl.trans (Nat.zero_mul _))
    subst hx0
    refine (ins67_nil vb vc ys w i0 hi0 hz0 hs0 (hfitG (by omega)) hyl hcell hy1).mono ?_
    rintro e w' ⟨rfl, rfl⟩
    refine ⟨_, w.heap.size, rfl, rowLeft_new (hgge 0) (hg63 0) ?_ ?_, .inr (Nat.le_refl _)⟩
    · have := hgge 0
      rw [Array.size_append, hzc, List.size_toArray, List.nil_append, hyl]; omega
    · rw [Array.toList_append, List.toList_toArray, List.take_left' (by rw [List.nil_append, hyl])]
      simp
  · have hcur : cur.toList.length = cap * 1 := by rw [Array.length_toList]; exact hcs
    have hcell1 : ∀ j v, xs[j]? = some v → w.cell? ⟨g, j, none⟩ = some v := fun j v hj => by
      unfold World.cell?
      rw [hg]
      rw [← hct, List.getElem?_take] at hj
      split at hj
      · simpa using hj
      · cases hj
    have hc63 : cap ≤ 9223372036854775807 := by unfold maxLen at hcm; exact hcm
    have hsome : ∀ j, j < cap * 1 → (w.cell? ⟨g, j, none⟩).isSome = true := fun j hj => by
      unfold World.cell?
      rw [hg]
      show (cur[j]?).isSome = true
      rw [Array.getElem?_eq_getElem (by omega)]; rfl
    have hfrz : ∀ j, w.frozen? ⟨g, j, none⟩ = false := fun j => by
      unfold World.frozen?
      rw [hg]
      show (decide (0 ≤ j) && decide (j < 0)) = false
      rw [decide_eq_false (Nat.not_lt_zero j), Bool.and_false]
    have hfrz2 : ∀ j, w.frozen? ⟨vb, j, none⟩ = false := fun j => by
      unfold World.frozen?
      rw [hg2]
      show (decide (0 ≤ j) && decide (j < 0)) = false
      rw [decide_eq_false (Nat.not_lt_zero j), Bool.and_false]
    have hvb : vb ≠ g := fun e => hne (by rw [e]; rfl)
    rcases Nat.lt_or_eq_of_le hi with hlt | rfl
    · rcases Nat.lt_or_ge cap (n + 1) with hroom | hroom
      · refine (ins67_grow g n cap i vb vc xs ys w i0 hi0 hz0 hs0 hlt hnc hroom (by omega) (by rw [hb0]; omega) (hfitG hroom) hxl hyl hcell1 hcell hx1 hy1).mono ?_
        rintro e w' ⟨rfl, rfl⟩
        have hge := hgge cap
        have htl : (xs.take (i * 1)).length = i * 1 := by rw [List.length_take]; omega
        have := rowLeft_grow (E := 26) (sz := 1) (w := w) (row := (xs.take (i * 1)).toArray ++ Builtin.zeroCells (Value.cells (.slice none 0 0)) (n + 1 - i) ++ Builtin.zeroCells (Value.cells (.slice none 0 0)) (grownCap w (n + 1) cap 26 - (n + 1))) (xs := xs.take (i * 1)) (vs := ys) (D := xs.drop (i * 1)) hlt hge (hg63 cap)
          (by rw [Array.size_append, Array.size_append, hzc, hzc, List.size_toArray, htl]; omega) hyl (by rw [List.length_drop, hxl]; omega)
          (by rw [Array.toList_append, Array.toList_append, List.toList_toArray, List.append_assoc, List.take_left' htl])
        refine ⟨_, w.heap.size, rfl, ?_, .inr (Nat.le_refl _)⟩
        first | exact this | simpa only [Nat.mul_one] using this
      · refine (ins67_shift g n cap i vb vc xs ys w hsz' hlt hroom hc63 hvb hxl hyl hcell1 (fun j hj => hsome j (by omega)) (fun j _ => hfrz j) hcell hx1 hy1 26 26 cur2.size cur.size (by unfold World.shape?; rw [hg2]) (by unfold World.shape?; rw [hg]) (by omega) (hfrz2 _) (hfrz2 _)).mono ?_
        rintro e w' ⟨rfl, rfl⟩
        have := rowLeft_shift (E := 26) (sz := 1) (b := g) (vs := ys) hg hlt hroom hcm hcs hyl
        rw [hct] at this
        refine ⟨_, g, rfl, ?_, .inl rfl⟩
        first | exact this | simpa only [Nat.mul_one] using this
    · have hxe : xs.take (i * 1) ++ ys ++ xs.drop (i * 1) = xs ++ ys := by
        rw [List.take_of_length_le (by omega), List.drop_of_length_le (by omega), List.append_nil]
      rw [hxe]
      rcases Nat.lt_or_ge cap (i + 1) with hroom | hroom
      · refine (ins67_egrow g i cap vb vc xs ys w i0 hi0 hz0 hs0 hnc hroom (by omega) (hfitG hroom) hxl hyl hcell1 hcell hy1).mono ?_
        rintro e w' ⟨rfl, rfl⟩
        have hge := hgge cap
        refine ⟨_, w.heap.size, rfl, rowLeft_new hge (hg63 cap) ?_ ?_, .inr (Nat.le_refl _)⟩
        · rw [Array.size_append, hzc, List.size_toArray, List.length_append, hxl, hyl]; omega
        · rw [Array.toList_append, List.toList_toArray, List.take_left' (by rw [List.length_append, hxl, hyl]; omega)]
      · refine (ins67_end g i cap vb vc ys w i0 hi0 hs0 hroom hc63 hyl (fun j hj => hsome _ (by omega)) (fun j _ => hfrz _) hcell hy1).mono ?_
        rintro e w' ⟨rfl, rfl⟩
        have := rowLeft_end (E := 26) (sz := 1) (n := i) (b := g) (vs := ys) hg hroom hcm hcs hyl
        rw [hct] at this
        exact ⟨_, g, rfl, this, .inl rfl⟩
end
def m67_slices_Insert (a0 : List (List UInt8)) (a1 : Int) (a2 : List (List UInt8)) : Option (List (List UInt8)) := insM 24 a0 a1 a2
theorem m67_slices_Insert_c {a0 : List (List UInt8)} {a1 : Int} {a2 r : List (List UInt8)} (h : m67_slices_Insert a0 a1 a2 = some r) : CallsB Try.prog 67 [.arr 26 1 0 (a0.flatMap (eL eU8)), .arr 26 1 0 (a2.flatMap (eL eU8))] [.one (.ls 0 a0.length), .one (.i .i64 a1), .one (.ls 1 a2.length)] (fun y m' => y = .s (.one (.ls 0 r.length)) ∧ m' = [.arr 26 1 0 (r.flatMap (eL eU8)), .dead]) :=
  insM_c (f := (eL eU8)) (fun _ => rfl) ins67_B h

section
open Go.Lib

set_option maxHeartbeats 4000000 in
set_option maxRecDepth 100000 in
theorem ins68_end (b n c vb vc : Nat) (vs : List Value) (w : World) (i0 : TypeInfo) (hi0 : Try.prog.info? 82 = some i0) (hs0 : i0.size = 1) (hroom : n + 1 ≤ c) (hc63 : c ≤ 9223372036854775807)
    (hvl : vs.length = 1) (hsp : ∀ j, j < 1 → (w.cell? ⟨b, n * 1 + j, none⟩).isSome = true) (hfz : ∀ j, j < 1 → w.frozen? ⟨b, n * 1 + j, none⟩ = false)
    (hvs : ∀ j v, vs[j]? = some v → w.cell? ⟨vb, j, none⟩ = some v) (h1v : ∀ v ∈ vs, v.oneCell' = true) :
    Calls Try.prog 68 #[.slice (some ⟨b, 0, none⟩) n c, .int .i64 n, .slice (some ⟨vb, 0, none⟩) 1 vc] w fun e w' =>
      e = .returned (.slice (some ⟨b, 0, none⟩) (n + 1) c) ∧ w' = w.setCells b (n * 1) vs := by
  have hsrc : _root_.Go.Src Try.prog i0.size 34 (.slice (some ⟨vb, 0, none⟩) 1 vc) 1 vs w := by
    rw [hs0]
    exact _root_.Go.Src.ofSlice w Try.underlying34 ⟨vb, 0, none⟩ 1 vc vs (by omega) (fun j u hj => by rw [Addr.add_lit, Nat.zero_add]; exact hvs j u hj) h1v
  go_enter Try.func68, Try.ntmps68
  go_wp2_with (at_builtin; refine wpList_append_room_src _ rfl _ _ 34 34 rfl 82 i0 Try.underlying34 hi0 b 0 n c rfl _ rfl 1 vs hsrc hroom (by rw [hvl, hs0, Nat.zero_add]; exact hsp) (by rw [hvl, hs0, Nat.zero_add]; exact hfz) ?_)
  go_ret
  refine ⟨rfl, ?_⟩
  first | rfl | (simp; done) | (simp [hs0]; done)

set_option maxHeartbeats 4000000 in
set_option maxRecDepth 100000 in
theorem ins68_egrow (b n c vb vc : Nat) (cs vs : List Value) (w : World) (i0 : TypeInfo) (hi0 : Try.prog.info? 82 = some i0) (hz0 : i0.zero = some (.agg #[.slice none 0 0])) (hs0 : i0.size = 1) (hnc : n ≤ c) (hroom : c < n + 1) (hn63 : n + 1 ≤ 9223372036854775807)
    (hfit : Builtin.nextslicecap (n + 1) c * i0.bytes ≤ 281474976710656) (hcl : cs.length = n * 1) (hvl : vs.length = 1)
    (hcs : ∀ j v, cs[j]? = some v → w.cell? ⟨b, j, none⟩ = some v) (hvs : ∀ j v, vs[j]? = some v → w.cell? ⟨vb, j, none⟩ = some v) (h1v : ∀ v ∈ vs, v.oneCell' = true) :
    Calls Try.prog 68 #[.slice (some ⟨b, 0, none⟩) n c, .int .i64 n, .slice (some ⟨vb, 0, none⟩) 1 vc] w fun e w' =>
      e = .returned (.slice (some ⟨w.heap.size, 0, none⟩) (n + 1) (grownCap w (n + 1) c 82)) ∧
      w' = w.drew.alloc (.cells ((cs ++ vs).toArray ++ Builtin.zeroCells (Value.cells (.agg #[.slice none 0 0])) (grownCap w (n + 1) c 82 - (n + 1))) 82) := by
  have hsrc : _root_.Go.Src Try.prog i0.size 34 (.slice (some ⟨vb, 0, none⟩) 1 vc) 1 vs w := by
    rw [hs0]
    exact _root_.Go.Src.ofSlice w Try.underlying34 ⟨vb, 0, none⟩ 1 vc vs (by omega) (fun j u hj => by rw [Addr.add_lit, Nat.zero_add]; exact hvs j u hj) h1v
  have hold : (Builtin.firstCells i0.size n (.slice (some ⟨b, 0, none⟩) n c)).run Try.prog w.drew = .ok cs.toArray w.drew := by
    rw [hs0]
    exact run_firstCells_some w.drew 1 n ⟨b, 0, none⟩ n c cs (by omega) (fun j v hj => by rw [Addr.add_lit, Nat.zero_add]; exact hcs j v hj)
  have hrun : ∀ ty, (Builtin.append_ #[34, 34] ty #[.slice (some ⟨b, 0, none⟩) n c, .slice (some ⟨vb, 0, none⟩) 1 vc]).run Try.prog w = .ok (.slice (some ⟨w.heap.size, 0, none⟩) (n + 1) (grownCap w (n + 1) c 82)) (w.drew.alloc (.cells ((cs ++ vs).toArray ++ Builtin.zeroCells (Value.cells (.agg #[.slice none 0 0])) (grownCap w (n + 1) c 82 - (n + 1))) 82)) := fun ty =>
    run_append_grow_src w 34 34 ty 82 i0 _ Try.underlying34 hi0 hz0 (some ⟨b, 0, none⟩) n c cs hold _ 1 vs hsrc hroom (by omega) hfit
  go_enter Try.func68, Try.ntmps68
  go_wp2_with (at_builtin; refine Lib.wpList_append_run _ rfl _ _ _ _ rfl _ _ rfl rfl _ _ (hrun _) ?_)
  all_goals (go_ret; first | exact ⟨rfl, rfl⟩ | exact ⟨rfl, by simp [Value.cells]⟩)

set_option maxHeartbeats 4000000 in
set_option maxRecDepth 100000 in
theorem ins68_shift (b n c i vb vc : Nat) (cs vs : List Value) (w : World) (hs0 : (Try.prog.info? 82).map (·.size) = some 1) (hi : i < n) (hroom : n + 1 ≤ c) (hc63 : c ≤ 9223372036854775807) (hvb : vb ≠ b)
    (hcl : cs.length = n * 1) (hvl : vs.length = 1)
    (hcs : ∀ j v, cs[j]? = some v → w.cell? ⟨b, j, none⟩ = some v) (hsp : ∀ j, j < (n + 1) * 1 → (w.cell? ⟨b, j, none⟩).isSome = true) (hfz : ∀ j, j < (n + 1) * 1 → w.frozen? ⟨b, j, none⟩ = false)
    (hvs : ∀ j v, vs[j]? = some v → w.cell? ⟨vb, j, none⟩ = some v) (h1c : ∀ v ∈ cs, v.oneCell' = true) (h1v : ∀ v ∈ vs, v.oneCell' = true)
    (tA tB : TypeId) (kA kB : Nat) (hsa : w.shape? vb = some (tA, kA)) (hsb : w.shape? b = some (tB, kB)) (hkB : kB ≠ 0) (hfa : w.frozen? ⟨vb, 0, none⟩ = false) (hfe : w.frozen? ⟨vb, kA, none⟩ = false) :
    Calls Try.prog 68 #[.slice (some ⟨b, 0, none⟩) n c, .int .i64 i, .slice (some ⟨vb, 0, none⟩) 1 vc] w fun e w' =>
      e = .returned (.slice (some ⟨b, 0, none⟩) (n + 1) c) ∧ w' = (w.drew.setCells b (i + 1) (cs.drop (i))).setCells b (i) vs := by
  have hz2 : ¬ ((i : Int) = (n : Int)) := by omega
  have hz3 : ¬ ((c : Int) < (n : Int) + 1) := by omega
  have mixed : Try.prog.follows .mixedOrders = true := by kernel_rfl
  have hov : ∀ lb cb, (callFunc 81 #[.slice (some ⟨vb, 0, none⟩) 1 vc, .slice (some ⟨b, i + 1, none⟩) lb cb]).run Try.prog w = .ok (.value (.bool false)) w := fun lb cb => by
    rw [run_callFunc_extern Try.func81 (by kernel_rfl) (by kernel_rfl) (by kernel_rfl) (e := Extern.SlicesOverlaps.overlaps #[34, 34] #[4]) (by kernel_rfl),
      Lib.run_overlaps_apart w 34 4 82 Try.underlying34 1 (fun w => run_sizeOf' hs0 w) ⟨vb, 0, none⟩ ⟨b, i + 1, none⟩ 1 vc lb cb hvb tA tB kA kB hsa hsb hkB hfa hfe]
    rfl
  have hdl : (cs.drop (i)).length = (n - i) * 1 := by rw [List.length_drop, hcl]; omega
  have hw1 : IntKind.i64.wrap ((i : Int) + 1) = (i : Int) + 1 := by rw [IntKind.wrap_i64]; omega
  have hb1 : (0 : Int) ≤ (i : Int) + 1 := by omega
  have hin : i ≤ n := by omega
  have htn : ((i : Int) + 1).toNat = i + 1 := by omega
  have hb2 : ¬ (c = i + 1) := by omega
  have hb3 : (i : Int) ≤ (n : Int) + 1 := by omega
  have hb4 : ¬ (c = i) := by omega
  have hcp1 : ∀ ty dc sc, (Builtin.copy_ #[34, 34] ty #[.slice (some ⟨b, i + 1, none⟩) (n - i) dc, .slice (some ⟨b, i, none⟩) (n + 1 - i) sc]).run Try.prog w.drew = .ok (goInt (n - i : Nat)) (w.drew.setCells b (i + 1) (cs.drop (i))) := fun ty dc sc =>
    run_copy_k w.drew _ _ ty 82 b (i + 1) (n - i) dc ⟨b, i, none⟩ (n + 1 - i) sc 1 (n - i) (cs.drop (i)) Try.underlying34 hs0 (by simp only [Nat.min_def]; split <;> omega) hdl
      (fun j v hj => by rw [Addr.add_lit]; exact hcs (i + j) v (by rwa [List.getElem?_drop] at hj))
      (fun j hj => hsp _ (by rw [hdl] at hj; omega)) (fun j hj => hfz _ (by rw [hdl] at hj; omega)) (fun v hv => h1c v (List.mem_of_mem_drop hv))
  obtain ⟨W1, hW1⟩ : ∃ W1, W1 = w.drew.setCells b (i + 1) (cs.drop (i)) := ⟨_, rfl⟩
  have hsp1 : ∀ k, k < (n + 1) * 1 → (W1.cell? ⟨b, k, none⟩).isSome = true := fun k hk => by
    rw [hW1]
    exact isSome_setCells b (cs.drop (i)) (i + 1) w.drew (fun j hj => hsp _ (by rw [hdl] at hj; omega)) _ (hsp k hk)
  have hcp2 : ∀ (W : World), (∀ x, W.cell? x = W1.cell? x) → (∀ x, W.frozen? x = W1.frozen? x) → ∀ ty dc, (Builtin.copy_ #[34, 34] ty #[.slice (some ⟨b, i, none⟩) (n + 1 - i) dc, .slice (some ⟨vb, 0, none⟩) 1 vc]).run Try.prog W = .ok (goInt (1 : Nat)) (W.setCells b (i) vs) := fun W hWc hWf ty dc =>
    run_copy_k W _ _ ty 82 b (i) (n + 1 - i) dc ⟨vb, 0, none⟩ 1 vc 1 1 vs Try.underlying34 hs0 (by simp only [Nat.min_def]; split <;> omega) (by omega)
      (fun j v hj => by
        rw [Addr.add_lit, hWc, hW1, Nat.zero_add, World.cell?_setCells_out b _ _ _ _ (fun h _ => absurd h hvb)]
        exact hvs j v hj)
      (fun j hj => by rw [hWc]; exact hsp1 _ (by omega)) (fun j hj => by rw [hWf, hW1, World.frozen?_setCells]; exact hfz _ (by omega)) h1v
  rw [← hW1] at hcp1
  go_enter Try.func68, Try.ntmps68
  go_wp2_with (simp only [hov])
  go_region_law_o (refine step_copy_runI rfl _ _ 34 34 rfl _ _ (by simp [Act.eval, Act.put]) (by simp [Act.eval, Act.put]) (hcp1 _ _ _) ?_)
  go_wp2_with (at_builtin; refine wpList_copy_runI _ rfl _ _ 34 34 rfl _ _ rfl rfl (hcp2 _ (fun _ => rfl) (fun _ => rfl) _ _) ?_)
  go_ret
  first | exact ⟨rfl, rfl⟩ | exact ⟨rfl, by rw [hW1]⟩

set_option maxHeartbeats 4000000 in
set_option maxRecDepth 100000 in
theorem ins68_grow (b n c i vb vc : Nat) (cs vs : List Value) (w : World) (i0 : TypeInfo) (hi0 : Try.prog.info? 82 = some i0) (hz0 : i0.zero = some (.agg #[.slice none 0 0])) (hs0 : i0.size = 1) (hi : i < n) (hnc : n ≤ c) (hroom : c < n + 1) (hn63 : n + 1 ≤ 4611686018427387904)
    (hb48 : (n + 1) * i0.bytes ≤ 281474976710656) (hfit : Builtin.nextslicecap (n + 1) c * i0.bytes ≤ 281474976710656) (hcl : cs.length = n * 1) (hvl : vs.length = 1)
    (hcs : ∀ j v, cs[j]? = some v → w.cell? ⟨b, j, none⟩ = some v) (hvs : ∀ j v, vs[j]? = some v → w.cell? ⟨vb, j, none⟩ = some v) (h1c : ∀ v ∈ cs, v.oneCell' = true) (h1v : ∀ v ∈ vs, v.oneCell' = true) :
    Calls Try.prog 68 #[.slice (some ⟨b, 0, none⟩) n c, .int .i64 i, .slice (some ⟨vb, 0, none⟩) 1 vc] w fun e w' =>
      e = .returned (.slice (some ⟨w.heap.size, 0, none⟩) (n + 1) (grownCap w (n + 1) c 82)) ∧
      w' = (((w.alloc (.cells ((cs.take (i)).toArray ++ Builtin.zeroCells (Value.cells (.agg #[.slice none 0 0])) (n + 1 - i) ++ Builtin.zeroCells (Value.cells (.agg #[.slice none 0 0])) (grownCap w (n + 1) c 82 - (n + 1))) 82)).drew.setCells w.heap.size (i) vs).drew).setCells w.heap.size (i + 1) (cs.drop (i)) := by
  have mixed : Try.prog.follows .mixedOrders = true := by kernel_rfl
  have hz2 : ¬ ((i : Int) = (n : Int)) := by omega
  have hz3 : (c : Int) < (n : Int) + 1 := by omega
  have hsz : (Try.prog.info? 82).map (·.size) = some 1 := by rw [hi0]; simp [hs0]
  have hbw : b < w.heap.size := block_lt_of_cell (hcs 0 _ (List.getElem?_eq_getElem (by omega)))
  have hvw : vb < w.heap.size := block_lt_of_cell (hvs 0 _ (List.getElem?_eq_getElem (by omega)))
  have hkk : (n : Int) + 1 - (i : Int) = ((n + 1 - i : Nat) : Int) := by omega
  have hik : i + (n + 1 - i) = n + 1 := by omega
  have htl : (cs.take (i)).length = i * 1 := by rw [List.length_take]; omega
  have hold : (Builtin.firstCells i0.size i (.slice (some ⟨b, 0, none⟩) i c)).run Try.prog w.drew = .ok (cs.take (i)).toArray w.drew := by
    rw [hs0]
    exact run_firstCells_some w.drew 1 i ⟨b, 0, none⟩ i c (cs.take (i)) htl (fun j v hj => by
      rw [Addr.add_lit, Nat.zero_add]
      rw [List.getElem?_take] at hj
      split at hj
      · exact hcs j v hj
      · cases hj)
  have hrz : ∀ ty, (Builtin.append_ #[34, 3] ty #[.slice (some ⟨b, 0, none⟩) i c, .int .i64 ((n : Int) + 1 - (i : Int))]).run Try.prog w =
      .ok (.slice (some ⟨w.heap.size, 0, none⟩) (n + 1) (grownCap w (n + 1) c 82)) (w.drew.alloc (.cells ((cs.take (i)).toArray ++ Builtin.zeroCells (Value.cells (.agg #[.slice none 0 0])) (n + 1 - i) ++ Builtin.zeroCells (Value.cells (.agg #[.slice none 0 0])) (grownCap w (n + 1) c 82 - (n + 1))) 82)) := fun ty => by
    have h := Lib.run_append_grow_zeros w 34 3 ty 82 i0 _ .i64 .i64 Try.underlying34 Try.underlying3 hi0 hz0 (some ⟨b, 0, none⟩) i c (cs.take (i)) hold (n + 1 - i) (by omega) (by omega) (by omega) (by omega) (Nat.le_trans (Nat.mul_le_mul_right _ (by omega)) hb48) (by rw [hik]; exact hfit)
    rw [hik] at h
    rw [hkk]
    exact h
  obtain ⟨G, hG⟩ : ∃ G, G = grownCap w (n + 1) c 82 := ⟨_, rfl⟩
  obtain ⟨ROW, hROW⟩ : ∃ ROW : Array Value, ROW = (cs.take (i)).toArray ++ Builtin.zeroCells (Value.cells (.agg #[.slice none 0 0])) (n + 1 - i) ++ Builtin.zeroCells (Value.cells (.agg #[.slice none 0 0])) (G - (n + 1)) := ⟨_, rfl⟩
  rw [← hG] at hrz ⊢
  rw [← hROW] at hrz ⊢
  have hzc : ∀ k, (Builtin.zeroCells (Value.cells (.agg #[.slice none 0 0])) k).size = k * 1 := fun k => by simp [Builtin.zeroCells, Value.cells]
  have hRl : (n + 1) * 1 ≤ ROW.size := by
    rw [hROW, Array.size_append, Array.size_append, hzc, hzc, List.size_toArray, htl]
    omega
  obtain ⟨W1, hW1⟩ : ∃ W1, W1 = w.drew.alloc (.cells ROW 82) := ⟨_, rfl⟩
  rw [← hW1] at hrz
  have hN : ∀ j, j < (n + 1) * 1 → (W1.cell? ⟨w.heap.size, j, none⟩).isSome = true := fun j hj => by
    rw [hW1, World.cell?_alloc_at (w := w.drew) ROW _ w.heap.size j rfl, Array.getElem?_eq_getElem (by omega)]; rfl
  have hNf : ∀ j, W1.frozen? ⟨w.heap.size, j, none⟩ = false := fun j => by rw [hW1]; exact World.frozen?_alloc_at (w := w.drew) ROW _ w.heap.size j rfl
  have hOb : ∀ j v, w.cell? ⟨b, j, none⟩ = some v → W1.cell? ⟨b, j, none⟩ = some v := fun j v h => by rw [hW1, World.cell?_alloc_past (w := w.drew) _ b j hbw]; exact h
  have hOv : ∀ j v, w.cell? ⟨vb, j, none⟩ = some v → W1.cell? ⟨vb, j, none⟩ = some v := fun j v h => by rw [hW1, World.cell?_alloc_past (w := w.drew) _ vb j hvw]; exact h
  have hcpA : ∀ (W : World), (∀ x, W.cell? x = W1.cell? x) → (∀ x, W.frozen? x = W1.frozen? x) → ∀ ty dc, (Builtin.copy_ #[34, 34] ty #[.slice (some ⟨w.heap.size, i, none⟩) (n + 1 - i) dc, .slice (some ⟨vb, 0, none⟩) 1 vc]).run Try.prog W = .ok (goInt (1 : Nat)) (W.setCells w.heap.size (i) vs) := fun W hWc hWf ty dc =>
    run_copy_k W _ _ ty 82 w.heap.size (i) (n + 1 - i) dc ⟨vb, 0, none⟩ 1 vc 1 1 vs Try.underlying34 hsz (by simp only [Nat.min_def]; split <;> omega) (by omega)
      (fun j v hj => by rw [Addr.add_lit, hWc, Nat.zero_add]; exact hOv _ v (hvs j v hj))
      (fun j hj => by rw [hWc]; exact hN _ (by omega)) (fun j hj => by rw [hWf]; exact hNf _) h1v
  have hGn : n + 1 ≤ G := by rw [hG]; exact grownCap_ge w _ _ _
  have hG63 : G ≤ 9223372036854775807 := by
    have := grownCap_le_maxLen w (n + 1) c 82 (by unfold maxLen; omega)
    rw [← hG] at this
    unfold maxLen at this
    omega
  have hGi : ¬ (G = i) := by omega
  have hGim : ¬ (G = i + 1) := by omega
  have hci : ¬ (c = i) := by omega
  have hbN : b ≠ w.heap.size := by omega
  have hdl : (cs.drop (i)).length = (n - i) * 1 := by rw [List.length_drop, hcl]; omega
  have hcpB : ∀ (W : World), (∀ x, W.cell? x = (W1.setCells w.heap.size (i) vs).cell? x) → (∀ x, W.frozen? x = (W1.setCells w.heap.size (i) vs).frozen? x) → ∀ ty dc sc, (Builtin.copy_ #[34, 34] ty #[.slice (some ⟨w.heap.size, i + 1, none⟩) (n - i) dc, .slice (some ⟨b, i, none⟩) (n - i) sc]).run Try.prog W = .ok (goInt (n - i : Nat)) (W.setCells w.heap.size (i + 1) (cs.drop (i))) := fun W hWc hWf ty dc sc =>
    run_copy_k W _ _ ty 82 w.heap.size (i + 1) (n - i) dc ⟨b, i, none⟩ (n - i) sc 1 (n - i) (cs.drop (i)) Try.underlying34 hsz (by simp only [Nat.min_def]; split <;> omega) hdl
      (fun j v hj => by
        rw [Addr.add_lit, hWc, World.cell?_setCells_out _ _ _ _ _ (fun h _ => absurd h hbN)]
        exact hOb _ v (hcs (i + j) v (by rwa [List.getElem?_drop] at hj)))
      (fun j hj => by rw [hWc]; exact isSome_setCells w.heap.size vs (i) W1 (fun t ht => hN _ (by omega)) _ (hN _ (by rw [hdl] at hj; omega)))
      (fun j hj => by rw [hWf, World.frozen?_setCells]; exact hNf _) (fun v hv => h1c v (List.mem_of_mem_drop hv))
  subst hW1
  have hE1 : ∀ x, ((w.alloc (.cells ROW 82)).drew).cell? x = (w.drew.alloc (.cells ROW 82)).cell? x := fun x => rfl
  have hE2 : ∀ x, ((w.alloc (.cells ROW 82)).drew).frozen? x = (w.drew.alloc (.cells ROW 82)).frozen? x := fun x => rfl
  have hF1 : ∀ x, (((w.alloc (.cells ROW 82)).drew.setCells w.heap.size (i) vs).drew).cell? x = ((w.drew.alloc (.cells ROW 82)).setCells w.heap.size (i) vs).cell? x := fun x => rfl
  have hF2 : ∀ x, (((w.alloc (.cells ROW 82)).drew.setCells w.heap.size (i) vs).drew).frozen? x = ((w.drew.alloc (.cells ROW 82)).setCells w.heap.size (i) vs).frozen? x := fun x => rfl
  have hw1 : IntKind.i64.wrap ((i : Int) + 1) = (i : Int) + 1 := by rw [IntKind.wrap_i64]; omega
  have hb1 : (0 : Int) ≤ (i : Int) + 1 := by omega
  have hin : i ≤ n := by omega
  have htn : ((i : Int) + 1).toNat = i + 1 := by omega
  have hb3 : (i : Int) ≤ (n : Int) := by omega
  clear hkk hik hold hROW hG hRl htl hzc
  go_enter Try.func68, Try.ntmps68
  go_wp2_with (first
    | (at_builtin; refine Lib.wpList_append_run _ rfl _ _ _ _ rfl _ _ rfl rfl _ _ (hrz _) ?_)
    | (at_builtin; refine wpList_copy_runI _ rfl _ _ 34 34 rfl _ _ rfl rfl (hcpA _ hE1 hE2 _ _) ?_)
    | (at_builtin; refine wpList_copy_runI _ rfl _ _ 34 34 rfl _ _ rfl rfl (hcpB _ (fun _ => rfl) (fun _ => rfl) _ _ _) ?_))
  go_region_law_o (refine step_copy_runI rfl _ _ 34 34 rfl (.slice (some ⟨w.heap.size, i + 1, none⟩) (n - i) (G - (i + 1))) (.slice (some ⟨b, i, none⟩) (n - i) (c - i)) (by simp [Act.eval, Act.put]) (by simp [Act.eval, Act.put]) (hcpB _ hF1 hF2 3 (G - (i + 1)) (c - i)) ?_)
  go_wp2
  go_ret
  exact ⟨rfl, rfl⟩

set_option maxHeartbeats 4000000 in
set_option maxRecDepth 100000 in
theorem ins68_nil (vb vc : Nat) (vs : List Value) (w : World) (i0 : TypeInfo) (hi0 : Try.prog.info? 82 = some i0) (hz0 : i0.zero = some (.agg #[.slice none 0 0])) (hs0 : i0.size = 1)
    (hfit : Builtin.nextslicecap (0 + 1) 0 * i0.bytes ≤ 281474976710656) (hvl : vs.length = 1)
    (hvs : ∀ j v, vs[j]? = some v → w.cell? ⟨vb, j, none⟩ = some v) (h1v : ∀ v ∈ vs, v.oneCell' = true) :
    Calls Try.prog 68 #[.slice none 0 0, .int .i64 ((0 : Nat) : Int), .slice (some ⟨vb, 0, none⟩) 1 vc] w fun e w' =>
      e = .returned (.slice (some ⟨w.heap.size, 0, none⟩) (0 + 1) (grownCap w (0 + 1) 0 82)) ∧
      w' = w.drew.alloc (.cells (([] ++ vs).toArray ++ Builtin.zeroCells (Value.cells (.agg #[.slice none 0 0])) (grownCap w (0 + 1) 0 82 - (0 + 1))) 82) := by
  have hsrc : _root_.Go.Src Try.prog i0.size 34 (.slice (some ⟨vb, 0, none⟩) 1 vc) 1 vs w := by
    rw [hs0]
    exact _root_.Go.Src.ofSlice w Try.underlying34 ⟨vb, 0, none⟩ 1 vc vs (by omega) (fun j u hj => by rw [Addr.add_lit, Nat.zero_add]; exact hvs j u hj) h1v
  have hold : (Builtin.firstCells i0.size 0 (.slice none 0 0)).run Try.prog w.drew = .ok ([] : List Value).toArray w.drew := by
    rw [hs0]
    exact run_firstCells_none w.drew 1 0 0 0
  have hrun : ∀ ty, (Builtin.append_ #[34, 34] ty #[.slice none 0 0, .slice (some ⟨vb, 0, none⟩) 1 vc]).run Try.prog w = .ok (.slice (some ⟨w.heap.size, 0, none⟩) (0 + 1) (grownCap w (0 + 1) 0 82)) (w.drew.alloc (.cells (([] ++ vs).toArray ++ Builtin.zeroCells (Value.cells (.agg #[.slice none 0 0])) (grownCap w (0 + 1) 0 82 - (0 + 1))) 82)) := fun ty =>
    run_append_grow_src w 34 34 ty 82 i0 _ Try.underlying34 hi0 hz0 none 0 0 [] hold _ 1 vs hsrc (by omega) (by omega) hfit
  go_enter Try.func68, Try.ntmps68
  go_wp2_with (at_builtin; refine Lib.wpList_append_run _ rfl _ _ _ _ rfl _ _ rfl rfl _ _ (hrun _) ?_)
  all_goals (go_ret; first | exact ⟨rfl, rfl⟩ | exact ⟨rfl, by simp [Value.cells]⟩)

theorem ins68_info : (Try.prog.info? 82).map (fun i => (i.zero, i.size, i.bytes)) = some (some (.agg #[.slice none 0 0]), 1, 24) := by kernel_rfl

theorem ins68_B {cs vs : List Lf} {n i : Nat} (hcl : cs.length = n * 1) (hvl : vs.length = 1) (hi : i ≤ n) (hn : (n + 1) * 24 ≤ 140737488355328) :
    CallsB Try.prog 68 [.arr 82 1 0 cs, .arr 82 1 0 vs] [.one (.ls 0 n), .one (.i .i64 (i : Int)), .one (.ls 1 1)] (fun y m' => y = .s (.one (.ls 0 (n + 1))) ∧ m' = [.arr 82 1 0 (cs.take (i * 1) ++ vs ++ cs.drop (i * 1)), .dead]) := by
  refine callsB_ins (by decide) hcl hvl (fun w v1 vb vc cur2 xs ys hown hg2 hcell hyl hne hx1 hy1 => ?_)
  obtain ⟨i0, hi0, hz0, hs0, hb0⟩ := info_parts ins68_info
  have hxl := hown.1
  have hfitG : ∀ {old}, old < n + 1 → Builtin.nextslicecap (n + 1) old * i0.bytes ≤ 281474976710656 := fun h => growslice_fits h (by rw [hb0]; exact hn)
  have hsz' : (Try.prog.info? 82).map (·.size) = some 1 := by rw [hi0]; simp [hs0]
  have hzc : ∀ k, (Builtin.zeroCells (Value.cells (.agg #[.slice none 0 0])) k).size = k * 1 := fun k => by simp [Builtin.zeroCells, Value.cells]
  have hg63 : ∀ c, grownCap w (n + 1) c 82 ≤ maxLen := fun c => grownCap_le_maxLen w (n + 1) c 82 (by unfold maxLen; omega)
  have hgge : ∀ c, n + 1 ≤ grownCap w (n + 1) c 82 := fun c => grownCap_ge w _ _ _
  rcases hown.2 with ⟨rfl, h0⟩ | ⟨g, cap, cur, rfl, _, hg, hnc, hcm, hcs, hct⟩
  · subst h0
    have hi0' : i = 0 := by omega
    subst hi0'
    have hx0 : xs = [] := List.length_eq_zero_iff.1 (hxl.trans (Nat.zero_mul _))
    subst hx0
    refine (ins68_nil vb vc ys w i0 hi0 hz0 hs0 (hfitG (by omega)) hyl hcell hy1).mono ?_
    rintro e w' ⟨rfl, rfl⟩
    refine ⟨_, w.heap.size, rfl, rowLeft_new (hgge 0) (hg63 0) ?_ ?_, .inr (Nat.le_refl _)⟩
    · have := hgge 0
      rw [Array.size_append, hzc, List.size_toArray, List.nil_append, hyl]; omega
    · rw [Array.toList_append, List.toList_toArray, List.take_left' (by rw [List.nil_append, hyl])]
      simp
  · have hcur : cur.toList.length = cap * 1 := by rw [Array.length_toList]; exact hcs
    have hcell1 : ∀ j v, xs[j]? = some v → w.cell? ⟨g, j, none⟩ = some v := fun j v hj => by
      unfold World.cell?
      rw [hg]
      rw [← hct, List.getElem?_take] at hj
      split at hj
      · simpa using hj
      · cases hj
    have hc63 : cap ≤ 9223372036854775807 := by unfold maxLen at hcm; exact hcm
    have hsome : ∀ j, j < cap * 1 → (w.cell? ⟨g, j, none⟩).isSome = true := fun j hj => by
      unfold World.cell?
      rw [hg]
      show (cur[j]?).isSome = true
      rw [Array.getElem?_eq_getElem (by omega)]; rfl
    have hfrz : ∀ j, w.frozen? ⟨g, j, none⟩ = false := fun j => by
      unfold World.frozen?
      rw [hg]
      show (decide (0 ≤ j) && decide (j < 0)) = false
      rw [decide_eq_false (Nat.not_lt_zero j), Bool.and_false]
    have hfrz2 : ∀ j, w.frozen? ⟨vb, j, none⟩ = false := fun j => by
      unfold World.frozen?
      rw [hg2]
      show (decide (0 ≤ j) && decide (j < 0)) = false
      rw [decide_eq_false (Nat.not_lt_zero j), Bool.and_false]
    have hvb : vb ≠ g := fun e => hne (by rw [e]; rfl)
    rcases Nat.lt_or_eq_of_le hi with hlt | rfl
    · rcases Nat.lt_or_ge cap (n + 1) with hroom | hroom
      · refine (ins68_grow g n cap i vb vc xs ys w i0 hi0 hz0 hs0 hlt hnc hroom (by omega) (by rw [hb0]; omega) (hfitG hroom) hxl hyl hcell1 hcell hx1 hy1).mono ?_
        rintro e w' ⟨rfl, rfl⟩
        have hge := hgge cap
        have htl : (xs.take (i * 1)).length = i * 1 := by rw [List.length_take]; omega
        have := rowLeft_grow (E := 82) (sz := 1) (w := w) (row := (xs.take (i * 1)).toArray ++ Builtin.zeroCells (Value.cells (.agg #[.slice none 0 0])) (n + 1 - i) ++ Builtin.zeroCells (Value.cells (.agg #[.slice none 0 0])) (grownCap w (n + 1) cap 82 - (n + 1))) (xs := xs.take (i * 1)) (vs := ys) (D := xs.drop (i * 1)) hlt hge (hg63 cap)
          (by rw [Array.size_append, Array.size_append, hzc, hzc, List.size_toArray, htl]; omega) hyl (by rw [List.length_drop, hxl]; omega)
          (by rw [Array.toList_append, Array.toList_append, List.toList_toArray, List.append_assoc, List.take_left' htl])
        refine ⟨_, w.heap.size, rfl, ?_, .inr (Nat.le_refl _)⟩
        first | exact this | simpa only [Nat.mul_one] using this
      · refine (ins68_shift g n cap i vb vc xs ys w hsz' hlt hroom hc63 hvb hxl hyl hcell1 (fun j hj => hsome j (by omega)) (fun j _ => hfrz j) hcell hx1 hy1 82 82 cur2.size cur.size (by unfold World.shape?; rw [hg2]) (by unfold World.shape?; rw [hg]) (by omega) (hfrz2 _) (hfrz2 _)).mono ?_
        rintro e w' ⟨rfl, rfl⟩
        have := rowLeft_shift (E := 82) (sz := 1) (b := g) (vs := ys) hg hlt hroom hcm hcs hyl
        rw [hct] at this
        refine ⟨_, g, rfl, ?_, .inl rfl⟩
        first | exact this | simpa only [Nat.mul_one] using this
    · have hxe : xs.take (i * 1) ++ ys ++ xs.drop (i * 1) = xs ++ ys := by
        rw [List.take_of_length_le (by omega), List.drop_of_length_le (by omega), List.append_nil]
      rw [hxe]
      rcases Nat.lt_or_ge cap (i + 1) with hroom | hroom
      · refine (ins68_egrow g i cap vb vc xs ys w i0 hi0 hz0 hs0 hnc hroom (by omega) (hfitG hroom) hxl hyl hcell1 hcell hy1).mono ?_
        rintro e w' ⟨rfl, rfl⟩
        have hge := hgge cap
        refine ⟨_, w.heap.size, rfl, rowLeft_new hge (hg63 cap) ?_ ?_, .inr (Nat.le_refl _)⟩
        · rw [Array.size_append, hzc, List.size_toArray, List.length_append, hxl, hyl]; omega
        · rw [Array.toList_append, List.toList_toArray, List.take_left' (by rw [List.length_append, hxl, hyl]; omega)]
      · refine (ins68_end g i cap vb vc ys w i0 hi0 hs0 hroom hc63 hyl (fun j hj => hsome _ (by omega)) (fun j _ => hfrz _) hcell hy1).mono ?_
        rintro e w' ⟨rfl, rfl⟩
        have := rowLeft_end (E := 82) (sz := 1) (n := i) (b := g) (vs := ys) hg hroom hcm hcs hyl
        rw [hct] at this
        exact ⟨_, g, rfl, this, .inl rfl⟩
end
def m68_slices_Insert (a0 : List GChainChain) (a1 : Int) (a2 : List GChainChain) : Option (List GChainChain) := insM 24 a0 a1 a2
theorem m68_slices_Insert_c {a0 : List GChainChain} {a1 : Int} {a2 r : List GChainChain} (h : m68_slices_Insert a0 a1 a2 = some r) : CallsB Try.prog 68 [.arr 82 1 0 (a0.flatMap eGChainChain), .arr 82 1 0 (a2.flatMap eGChainChain)] [.one (.ls 0 a0.length), .one (.i .i64 a1), .one (.ls 1 a2.length)] (fun y m' => y = .s (.one (.ls 0 r.length)) ∧ m' = [.arr 82 1 0 (r.flatMap eGChainChain), .dead]) :=
  insM_c (f := eGChainChain) (fun _ => rfl) ins68_B h

def m88_slices_Growo_k1 (a0 : Int) (b1 : Unit) : Option (List GChainVer) :=
  if (decide (0 < (wI (a0 - (wI (0 - 0)))))) then (if 0 < (wI (a0 - (wI (0 - 0)))) ∧ (wI (a0 - (wI (0 - 0)))) * ((40 : Nat) : Int) ≤ 281474976710656 then (if (0 : Int) ≤ 0 ∧ 0 ≤ ((List.replicate (wI (a0 - (wI (0 - 0)))).toNat (GChainVer.mk 0 ([] : List UInt8) false)).length : Int) then (some ((List.replicate (wI (a0 - (wI (0 - 0)))).toNat (GChainVer.mk 0 ([] : List UInt8) false)).take (0 : Int).toNat)) else none) else none) else (some ([] : List GChainVer))
def m88_slices_Growo (a0 : Int) : Option (List GChainVer) :=
  if (decide (a0 < 0)) then none else (m88_slices_Growo_k1 a0 ())

set_option maxRecDepth 100000 in
theorem m88_slices_Growo_c {a0 : Int} {r : (List GChainVer)} (h : m88_slices_Growo a0 = some r) : CallsB Try.prog 88 [] [.one (.raw (.slice none 0 0)), .one (.i .i64 a0)] (fun y m' => y = .s (.one (.ls 0 r.length)) ∧ m' = [.arr 85 3 0 (r.flatMap eGChainVer)]) := by
  unfold m88_slices_Growo at h
  refine callsB_of Try.func88 rfl (nt := 27) rfl (Nat.le_of_ble_eq_true rfl) ?_
  intro w0 S0 X0 H0
  refine cseq ?_
  refine cregion ?_
  refine sv rfl (opv_as rfl) ?_
  refine snil ?_
  refine cseq ?_
  refine cseq ?_
  refine cregion ?_
  refine sv rfl (opv_mv rfl) ?_
  refine sv rfl (opv_lss rfl rfl) ?_
  refine snil ?_
  refine cjoin (Unit) (fun b1 => [(0, .s (.one (.raw (.slice none 0 0)))), (1, .s (.one (.i .i64 a0)))]) (fun b1 => []) (fun b1 => m88_slices_Growo_k1 a0 b1 = some r) (fun _ _ => inbL_of rfl) (fun _ _ => blkinb_of rfl) (fun _ _ => Nat.le_of_ble_eq_true rfl) (fun b1 h => ?_) ?_
  · unfold m88_slices_Growo_k1 at h
    refine cseq ?_
    refine cseq ?_
    refine cregion ?_
    refine sv rfl (opv_mv rfl) ?_
    refine sv rfl (opv_mv rfl) ?_
    refine sv rfl (opv_cap_nil si80 rfl) ?_
    refine sv rfl (opv_mv rfl) ?_
    refine sv rfl (opv_len_nil si80 rfl) ?_
    refine sv rfl (opv_sub rfl rfl) ?_
    refine sv rfl (opv_sub rfl rfl) ?_
    refine sv rfl (opv_as rfl) ?_
    refine snil ?_
    refine cseq ?_
    refine cregion ?_
    refine sv rfl (opv_mv rfl) ?_
    refine sv rfl (opv_gtr rfl rfl) ?_
    refine snil ?_
    refine ccond rfl (fun hc => ?_) (fun hc => ?_)
    · replace h := ite_t hc h
      clear hc
      refine cregion ?_
      refine sv rfl (opv_mv rfl) ?_
      refine sv rfl (opv_mv rfl) ?_
      refine sv rfl (opv_cap_nil si80 rfl) ?_
      refine sv rfl (opv_slice_nil si80 rfl rfl) ?_
      refine sv rfl (opv_mv rfl) ?_
      obtain ⟨hm2, h⟩ := chk_eq h
      refine sappzc (f := eGChainVer) (z := (GChainVer.mk 0 ([] : List UInt8) false)) rfl Try.underlying80 ei85 Try.underlying3 (fun _ => rfl) rfl rfl rfl hm2 (by decide) ?_
      refine sv rfl (opv_mv rfl) ?_
      refine sv rfl (opv_len_nil si80 rfl) ?_
      obtain ⟨hs3, h⟩ := chk_eq h
      refine strunc (f := eGChainVer) rfl si80 (fun _ => rfl) rfl rfl rfl rfl rfl hs3 ?_
      refine sv rfl (opv_as rfl) ?_
      refine snil ?_
      refine cseq ?_
      refine cregion ?_
      refine sv rfl (opv_mv rfl) ?_
      refine sv rfl (opv_as rfl) ?_
      refine snil ?_
      refine cret ?_
      obtain rfl := Option.some.inj h
      exact ⟨Or.inr rfl, _, [1], [.one (.ls 0 ((List.replicate (wI (a0 - (wI (0 - 0)))).toNat (GChainVer.mk 0 ([] : List UInt8) false)).take (0 : Int).toNat).length)], [.arr 85 3 0 (((List.replicate (wI (a0 - (wI (0 - 0)))).toNat (GChainVer.mk 0 ([] : List UInt8) false)).take (0 : Int).toNat).flatMap eGChainVer)], (resVs_cons (ResV.tmp _ _ rfl) resVs_nil), rfl, rfl, ⟨by decide, rfl⟩, rfl, rfl, ⟨rfl, rfl⟩⟩
    · replace h := ite_f hc h
      clear hc
      refine cskip ?_
      refine then_normal ?_
      refine cseq ?_
      refine cregion ?_
      refine sv rfl (opv_mv rfl) ?_
      refine sv rfl (opv_as rfl) ?_
      refine snil ?_
      refine sadopt_c 85 3 4 (by decide) rfl ?_
      refine cret ?_
      obtain rfl := Option.some.inj h
      exact ⟨Or.inr rfl, _, [0], [.one (.ls 0 ([] : List GChainVer).length)], [.arr 85 3 0 (([] : List GChainVer).flatMap eGChainVer)], (resVs_cons (ResV.tmp _ _ rfl) resVs_nil), rfl, rfl, ⟨by decide, rfl⟩, rfl, rfl, ⟨rfl, rfl⟩⟩
  · skip
    refine ccond rfl (fun hc => ?_) (fun hc => ?_)
    · replace h := ite_t hc h
      clear hc
      cases h
    · replace h := ite_f hc h
      clear hc
      refine cskip ?_
      refine then_normal ?_
      exact ⟨(), _, h, ⟨rfl, rfl, trivial⟩, rfl⟩

def m83_slices_Concato_k3 (b3 : (List GChainVer)) : Option (List GChainVer) :=
  some b3

def m83_slices_Concato_s4 (a0 : List (List GChainVer)) (s4 : Int × (List GChainVer)) : Option (LB (Int × (List GChainVer)) ((List GChainVer))) :=
  if (decide (s4.1 < (a0.length : Int))) then ((idx a0 s4.1).bind fun u5 => if (s4.2.length + u5.length) * 40 ≤ 140737488355328 then (some (.cont ((wI (s4.1 + 1)), (s4.2 ++ u5)))) else none) else (some (.brk s4.2))

def m83_slices_Concato_k1 (a0 : List (List GChainVer)) (b1 : Int) : Option (List GChainVer) :=
  (m88_slices_Growo b1).bind fun v2 => (iterB (m83_slices_Concato_s4 a0) fuel (0, v2)).bind fun e7 => m83_slices_Concato_k3 e7

def m83_slices_Concato_s8 (a0 : List (List GChainVer)) (s8 : Int × Int) : Option (LB (Int × Int) (Int)) :=
  if (decide (s8.2 < (a0.length : Int))) then ((idx a0 s8.2).bind fun u9 => if (decide ((wI (s8.1 + (u9.length : Int))) < 0)) then none else (some (.cont ((wI (s8.1 + (u9.length : Int))), (wI (s8.2 + 1)))))) else (some (.brk s8.1))
def m83_slices_Concato (a0 : List (List GChainVer)) : Option (List GChainVer) :=
  (iterB (m83_slices_Concato_s8 a0) fuel (0, 0)).bind fun e10 => m83_slices_Concato_k1 a0 e10

set_option maxRecDepth 100000 in
theorem m83_slices_Concato_c {a0 : List (List GChainVer)} {r : (List GChainVer)} (h : m83_slices_Concato a0 = some r) : CallsB Try.prog 83 [] [.one (.sl a0.length (a0.flatMap (eL eGChainVer)))] (fun y m' => y = .s (.one (.ls 0 r.length)) ∧ m' = [.arr 85 3 0 (r.flatMap eGChainVer)]) := by
  unfold m83_slices_Concato at h
  refine callsB_of Try.func83 rfl (nt := 36) rfl (Nat.le_of_ble_eq_true rfl) ?_
  intro w0 S0 X0 H0
  refine cseq ?_
  refine cregion ?_
  refine sv rfl (opv_as rfl) ?_
  refine snil ?_
  refine cseq ?_
  refine cregion ?_
  refine sv rfl (opv_as rfl) ?_
  refine snil ?_
  refine cseq ?_
  refine cseq ?_
  refine cregion ?_
  refine sv rfl (opv_mv rfl) ?_
  refine sv rfl (opv_len_sl si132 rfl) ?_
  refine sv rfl (opv_mv rfl) ?_
  refine snil ?_
  refine cjoin (Int) (fun b1 => [(0, .s (.one (.sl a0.length (a0.flatMap (eL eGChainVer))))), (3, .s (.one (.i .i64 b1)))]) (fun b1 => []) (fun b1 => m83_slices_Concato_k1 a0 b1 = some r) (fun _ _ => inbL_of rfl) (fun _ _ => blkinb_of rfl) (fun _ _ => Nat.le_of_ble_eq_true rfl) (fun b1 h => ?_) ?_
  · unfold m83_slices_Concato_k1 at h
    refine cseq ?_
    refine cregion ?_
    refine sv rfl (opv_mv rfl) ?_
    obtain ⟨v2, hv2, h⟩ := bind_eq h
    refine scallB (x' := .s (.one (.ls 0 v2.length))) (M' := [.arr 85 3 0 (v2.flatMap eGChainVer)]) [] rfl fn88 (.func _) (opnds_cons rfl (opnds_cons rfl opnds_nil)) (m88_slices_Growo_c hv2) rfl rfl (by decide) rfl rfl rfl ?_
    refine sv rfl (opv_as rfl) ?_
    refine snil ?_
    refine cseq ?_
    refine cseq ?_
    refine cregion ?_
    refine sv rfl (opv_mv rfl) ?_
    refine sv rfl (opv_len_sl si132 rfl) ?_
    refine sv rfl (opv_mv rfl) ?_
    refine snil ?_
    refine cjoin ((List GChainVer)) (fun b3 => [(6, .s (.one (.ls 0 b3.length)))]) (fun b3 => [.arr 85 3 0 (b3.flatMap eGChainVer)]) (fun b3 => m83_slices_Concato_k3 b3 = some r) (fun _ _ => inbL_of rfl) (fun _ _ => blkinb_of rfl) (fun _ _ => Nat.le_of_ble_eq_true rfl) (fun b3 h => ?_) ?_
    · unfold m83_slices_Concato_k3 at h
      refine cseq ?_
      refine cregion ?_
      refine sv rfl (opv_mv rfl) ?_
      refine sv rfl (opv_as rfl) ?_
      refine snil ?_
      refine cret ?_
      obtain rfl := Option.some.inj h
      exact ⟨Or.inr rfl, _, [0], [.one (.ls 0 b3.length)], [.arr 85 3 0 (b3.flatMap eGChainVer)], (resVs_cons (ResV.tmp _ _ rfl) resVs_nil), rfl, rfl, ⟨by decide, rfl⟩, rfl, rfl, ⟨rfl, rfl⟩⟩
    · skip
      refine cblock ?_
      obtain ⟨x4, hx4, ho4⟩ := bind_eq h
      refine awc_loop (G := Nat × (Int × (List GChainVer))) (fun g => [(6, .s (.one (.ls 0 g.2.2.length))), (25, .s (.one (.sl a0.length (a0.flatMap (eL eGChainVer))))), (26, .s (.one (.i .i64 (a0.length : Int)))), (27, .s (.one (.i .i64 g.2.1)))]) (fun g => [.arr 85 3 0 (g.2.2.flatMap eGChainVer)]) (fun g => iterB (m83_slices_Concato_s4 a0) g.1 g.2 = some x4) (fun g => g.1) (fuel, (0, v2)) hx4 ⟨rfl, rfl, rfl, rfl, trivial⟩ [] rfl (fun _ _ => inbL_of rfl) (fun _ _ => blkinb_of rfl) (fun _ _ => Nat.le_of_ble_eq_true rfl) ?_
      clear hx4 h
      rintro ⟨n4, s4⟩ h
      obtain ⟨n4, y4, rfl, h, hk4⟩ := iterB_eq h
      unfold m83_slices_Concato_s4 at h
      refine cseq ?_
      refine cregion ?_
      refine sv rfl (opv_lss rfl rfl) ?_
      refine snil ?_
      refine cseq ?_
      refine ccond rfl (fun hc => ?_) (fun hc => ?_)
      · replace h := ite_t hc h
        clear hc
        refine cskip ?_
        refine then_normal ?_
        refine cseq ?_
        refine cblock ?_
        refine cseq ?_
        refine cregion ?_
        obtain ⟨u5, hu5, h⟩ := bind_eq h
        refine sv rfl (opv_ix (f := (eL eGChainVer)) si132 (fun _ => rfl) rfl rfl rfl rfl hu5) ?_
        refine sv rfl (opv_load1 ti80 rfl (.cp _) rfl) ?_
        refine sv rfl (opv_as rfl) ?_
        refine snil ?_
        refine cregion ?_
        refine sv rfl (opv_mv rfl) ?_
        refine sv rfl (opv_mv rfl) ?_
        obtain ⟨hb6, h⟩ := chk_eq h
        refine sapp (f := eGChainVer) (xs := s4.2) (us := u5) rfl Try.underlying80 ei85 ni80 (fun _ => rfl) rfl rfl (.one _ _ _ _ (.id _ rfl)) rfl rfl rfl (.sl _ _ _ (flat_len (f := eGChainVer) (fun _ => rfl) _)) rfl rfl hb6 (by decide) ?_
        refine sv rfl (opv_as rfl) ?_
        refine snil0 ?_
        refine block_normal ?_
        refine then_normal ?_
        refine cregion ?_
        refine sv rfl (opv_add rfl rfl) ?_
        refine sv rfl (opv_mv rfl) ?_
        refine snil ?_
        obtain rfl := Option.some.inj h
        exact ⟨(n4, ((wI (s4.1 + 1)), (s4.2 ++ u5))), _, hk4, ⟨rfl, rfl, rfl, rfl, trivial⟩, rfl, Nat.lt_succ_self _⟩
      · replace h := ite_f hc h
        clear hc
        refine cexit ?_
        refine then_exit ?_
        refine then_exit ?_
        refine block_hit ?_
        refine then_normal ?_
        obtain rfl := Option.some.inj h
        obtain rfl : _ = x4 := hk4
        exact ⟨s4.2, _, ho4, ⟨rfl, trivial⟩, rfl⟩
  · skip
    refine cblock ?_
    obtain ⟨x8, hx8, ho8⟩ := bind_eq h
    refine awc_loop (G := Nat × (Int × Int)) (fun g => [(0, .s (.one (.sl a0.length (a0.flatMap (eL eGChainVer))))), (3, .s (.one (.i .i64 g.2.1))), (9, .s (.one (.sl a0.length (a0.flatMap (eL eGChainVer))))), (10, .s (.one (.i .i64 (a0.length : Int)))), (11, .s (.one (.i .i64 g.2.2)))]) (fun g => []) (fun g => iterB (m83_slices_Concato_s8 a0) g.1 g.2 = some x8) (fun g => g.1) (fuel, (0, 0)) hx8 ⟨rfl, rfl, rfl, rfl, rfl, trivial⟩ [] rfl (fun _ _ => inbL_of rfl) (fun _ _ => blkinb_of rfl) (fun _ _ => Nat.le_of_ble_eq_true rfl) ?_
    clear hx8 h
    rintro ⟨n8, s8⟩ h
    obtain ⟨n8, y8, rfl, h, hk8⟩ := iterB_eq h
    unfold m83_slices_Concato_s8 at h
    refine cseq ?_
    refine cregion ?_
    refine sv rfl (opv_lss rfl rfl) ?_
    refine snil ?_
    refine cseq ?_
    refine ccond rfl (fun hc => ?_) (fun hc => ?_)
    · replace h := ite_t hc h
      clear hc
      refine cskip ?_
      refine then_normal ?_
      refine cseq ?_
      refine cblock ?_
      refine cseq ?_
      refine cregion ?_
      obtain ⟨u9, hu9, h⟩ := bind_eq h
      refine sv rfl (opv_ix (f := (eL eGChainVer)) si132 (fun _ => rfl) rfl rfl rfl rfl hu9) ?_
      refine sv rfl (opv_load1 ti80 rfl (.cp _) rfl) ?_
      refine sv rfl (opv_as rfl) ?_
      refine snil ?_
      refine cseq ?_
      refine cregion ?_
      refine sv rfl (opv_mv rfl) ?_
      refine sv rfl (opv_mv rfl) ?_
      refine sv rfl (opv_len_sl si80 rfl) ?_
      refine sv rfl (opv_add rfl rfl) ?_
      refine sv rfl (opv_as rfl) ?_
      refine snil ?_
      refine cseq ?_
      refine cregion ?_
      refine sv rfl (opv_mv rfl) ?_
      refine sv rfl (opv_lss rfl rfl) ?_
      refine snil ?_
      refine ccond rfl (fun hc => ?_) (fun hc => ?_)
      · replace h := ite_t hc h
        clear hc
        cases h
      · replace h := ite_f hc h
        clear hc
        refine cskip ?_
        refine block_normal ?_
        refine then_normal ?_
        refine cregion ?_
        refine sv rfl (opv_add rfl rfl) ?_
        refine sv rfl (opv_mv rfl) ?_
        refine snil ?_
        obtain rfl := Option.some.inj h
        exact ⟨(n8, ((wI (s8.1 + (u9.length : Int))), (wI (s8.2 + 1)))), _, hk8, ⟨rfl, rfl, rfl, rfl, rfl, trivial⟩, rfl, Nat.lt_succ_self _⟩
    · replace h := ite_f hc h
      clear hc
      refine cexit ?_
      refine then_exit ?_
      refine then_exit ?_
      refine block_hit ?_
      refine then_normal ?_
      obtain rfl := Option.some.inj h
      obtain rfl : _ = x8 := hk8
      exact ⟨s8.1, _, ho8, ⟨rfl, rfl, trivial⟩, rfl⟩

def m69_chain_Push_k1 (a0 : GChainChain) (a1 : GChainVer) (b1 : Unit) : Option (GChainChain × Int) :=
  (m53_chain_Last a0).bind fun v2 => if (decide (a1.Ts ≤ v2)) then (some ((GChainChain.mk ([] : List GChainVer)), 7)) else ((m83_slices_Concato [a0.L, [a1]]).bind fun v3 => some ((GChainChain.mk v3), 0))
def m69_chain_Push (a0 : GChainChain) (a1 : GChainVer) : Option (GChainChain × Int) :=
  (m52_chain_Sane (GChainChain.mk a0.L)).bind fun v4 => if (!v4) then (some ((GChainChain.mk ([] : List GChainVer)), 1)) else ((m75_chain_saneVer a1).bind fun v5 => if (!v5) then (some ((GChainChain.mk ([] : List GChainVer)), 1)) else (m69_chain_Push_k1 a0 a1 ()))

set_option maxRecDepth 100000 in
theorem m69_chain_Push_c {a0 : GChainChain} {a1 : GChainVer} {r : GChainChain × Int} (h : m69_chain_Push a0 a1 = some r) : CallsA Try.prog 69 [.agg [.sl a0.L.length (a0.L.flatMap eGChainVer)], .agg a1] (· = .tup [.agg [.sl r.1.L.length (r.1.L.flatMap eGChainVer)], .one (.i .i64 r.2)]) := by
  unfold m69_chain_Push at h
  refine callsA_of Try.func69 rfl (nt := 28) rfl (Nat.le_of_ble_eq_true rfl) ?_
  intro w0 S0
  refine cseq ?_
  refine cregion ?_
  refine sbox rfl rfl ?_
  refine sbox rfl rfl ?_
  refine salloc rfl zi82 ?_
  refine sv rfl (opv_as rfl) ?_
  refine snil ?_
  refine cseq ?_
  refine cseq ?_
  refine cjoin3 (Unit) (fun b1 => [(2, .s (.one (.lp 0 0))), (3, .s (.one (.lp 1 0))), (4, .s (.one (.lp 2 0)))]) (fun b1 => [.box [.sl a0.L.length (a0.L.flatMap eGChainVer)], .box a1, .box [.raw (.slice none 0 0)]]) (fun b1 => m69_chain_Push_k1 a0 a1 b1 = some r) (fun _ _ => inbL_of rfl) (fun _ _ => blkinb_of rfl) (fun _ _ => Nat.le_of_ble_eq_true rfl) (fun b1 h => ?_) ?_
  · unfold m69_chain_Push_k1 at h
    refine cseq ?_
    refine cseq ?_
    refine cdraw mixed (by kernel_rfl) ?_
    refine dv rfl (opv_fieldAddr_lp fi85_0 rfl) ?_
    refine dv rfl (opv_load1 ti3 rfl (.lp _ _ _ rfl) rfl) ?_
    refine dv rfl (opv_loadN ti82 rfl (.lp _ _ _ rfl) (Nat.le_of_ble_eq_true rfl)) ?_
    obtain ⟨v2, hv2, h⟩ := bind_eq h
    refine dd rfl (opD_call fn53 (opnds_cons rfl opnds_nil) rfl (m53_chain_Last_c hv2)) ?_
    refine dv rfl (opv_leq rfl rfl) ?_
    refine dnil ?_
    refine then_normal ?_
    refine ccond rfl (fun hc => ?_) (fun hc => ?_)
    · replace h := ite_t hc h
      clear hc
      refine cseq ?_
      refine cregion ?_
      refine sv rfl (opv_build zi82 pi82 parts_nil (.nil _)) ?_
      refine sstore sz82 rfl rfl rfl rfl (Nat.le_of_ble_eq_true rfl) ?_
      refine smem [.box [.sl a0.L.length (a0.L.flatMap eGChainVer)], .box a1, .box [.raw (.slice none 0 0)]] rfl ?_
      refine sv rfl (opv_as rfl) ?_
      refine snil ?_
      refine cret ?_
      refine then_ret ?_
      obtain rfl := Option.some.inj h
      refine ⟨Or.inr rfl, _, _, _, (resVs_cons (ResV.agg _ _ _ _ _ ti82 rfl (.lp _ _ _ rfl) (Nat.le_of_ble_eq_true rfl)) (resVs_cons (ResV.tmp _ _ rfl) resVs_nil)), (pubC rfl), ?_⟩
      rfl
    · replace h := ite_f hc h
      clear hc
      refine cskip ?_
      refine then_normal ?_
      refine cseq ?_
      refine cregion ?_
      refine sv rfl (opv_fieldAddr_lp fi82_0 rfl) ?_
      refine sv rfl (opv_load1 ti80 rfl (.lp _ _ _ rfl) rfl) ?_
      refine sv rfl (opv_loadN ti85 rfl (.lp _ _ _ rfl) (Nat.le_of_ble_eq_true rfl)) ?_
      refine sbuild1 rfl Try.underlying80 ei85 rfl rfl (List.all_eq_true.1 rfl) (by decide) ?_
      refine smem [.box [.sl a0.L.length (a0.L.flatMap eGChainVer)], .box a1, .box [.raw (.slice none 0 0)], .arr 85 3 0 ([a1].flatMap eGChainVer)] rfl ?_
      refine spub 24 rfl (by (repeat' first | exact PubA.nil _ | apply PubA.cons | apply PubV.one | apply PubV.agg | exact PubL.nil | exact PubL.ls _ _ _ _ _ _ rfl (flat_len (f := eGChainVer) (fun _ => rfl) ([a1] : List GChainVer)).symm | exact PubL.ls _ _ _ _ _ _ rfl (flat_len (f := eGChainVer) (fun _ => rfl) _).symm | exact PubL.id _ rfl | exact PubLs.nil _ | apply PubLs.cons)) ?_
      refine sbuildN (out := ([a0.L, [a1]] : List (List GChainVer)).flatMap (eL eGChainVer)) rfl Try.underlying132 ei80 (parts_cons rfl (parts_cons rfl parts_nil)) (.cons _ _ _ _ _ _ _ rfl rfl (Nat.le_of_ble_eq_true rfl) (.cons _ _ _ _ _ _ _ rfl rfl (Nat.le_of_ble_eq_true rfl) (.nil _))) rfl (by decide) ?_
      refine spub 25 rfl (by (repeat' first | exact PubA.nil _ | apply PubA.cons | apply PubV.one | apply PubV.agg | exact PubL.nil | exact PubL.ls _ _ _ _ _ _ rfl (flat_len (f := (eL eGChainVer)) (fun _ => rfl) ([a0.L, [a1]] : List (List GChainVer))).symm | exact PubL.ls _ _ _ _ _ _ rfl (flat_len (f := (eL eGChainVer)) (fun _ => rfl) _).symm | exact PubL.ls _ _ _ _ _ _ rfl (flat_len (f := eGChainVer) (fun _ => rfl) _).symm | exact PubL.id _ rfl | exact PubLs.nil _ | apply PubLs.cons)) ?_
      obtain ⟨v3, hv3, h⟩ := bind_eq h
      refine scallB (x' := .s (.one (.ls 5 v3.length))) (M' := [.box [.sl a0.L.length (a0.L.flatMap eGChainVer)], .box a1, .box [.raw (.slice none 0 0)], .arr 85 3 ([a1].flatMap eGChainVer).length ([a1].flatMap eGChainVer), .arr 80 1 ([a0.L, [a1]].flatMap (eL eGChainVer)).length ([a0.L, [a1]].flatMap (eL eGChainVer)), .arr 85 3 0 (v3.flatMap eGChainVer)]) [] rfl fn83 (.func _) (opnds_cons rfl opnds_nil) (m83_slices_Concato_c hv3) rfl rfl (by decide) rfl rfl rfl ?_
      refine sv rfl (opv_build zi82 pi82 (parts_cons rfl parts_nil) (.cons _ _ _ _ _ _ _ rfl rfl (Nat.le_of_ble_eq_true rfl) (.nil _))) ?_
      refine sstore sz82 rfl rfl rfl rfl (Nat.le_of_ble_eq_true rfl) ?_
      refine smem [.box [.sl a0.L.length (a0.L.flatMap eGChainVer)], .box a1, .box [.ls 5 v3.length], .arr 85 3 ([a1].flatMap eGChainVer).length ([a1].flatMap eGChainVer), .arr 80 1 ([a0.L, [a1]].flatMap (eL eGChainVer)).length ([a0.L, [a1]].flatMap (eL eGChainVer)), .arr 85 3 0 (v3.flatMap eGChainVer)] rfl ?_
      refine sv rfl (opv_as rfl) ?_
      refine snil ?_
      refine cret ?_
      obtain rfl := Option.some.inj h
      refine ⟨Or.inr rfl, _, _, _, (resVs_cons (ResV.agg _ _ _ _ _ ti82 rfl (.lp _ _ _ rfl) (Nat.le_of_ble_eq_true rfl)) (resVs_cons (ResV.tmp _ _ rfl) resVs_nil)), (by (repeat' first | exact PubA.nil _ | apply PubA.cons | apply PubV.one | apply PubV.agg | exact PubL.nil | exact PubL.ls _ _ _ _ _ _ rfl (flat_len (f := (eL eGChainVer)) (fun _ => rfl) _).symm | exact PubL.ls _ _ _ _ _ _ rfl (flat_len (f := eGChainVer) (fun _ => rfl) _).symm | exact PubL.id _ rfl | exact PubLs.nil _ | apply PubLs.cons)), ?_⟩
      rfl
  · skip
    refine cregion ?_
    refine sv rfl (opv_loadN ti82 rfl (.lp _ _ _ rfl) (Nat.le_of_ble_eq_true rfl)) ?_
    obtain ⟨v4, hv4, h⟩ := bind_eq h
    refine scall1 rfl fn52 (opnds_cons rfl opnds_nil) (pubA_id rfl) (m52_chain_Sane_c hv4) ?_
    refine sv rfl (opv_not rfl) ?_
    refine sv rfl (opv_mv rfl) ?_
    refine ssplit 9 rfl (fun hc => ?_) (fun hc => ?_)
    · replace h := ite_t hc h
      clear hc
      refine soff rfl rfl rfl rfl ?_
      refine soff rfl rfl rfl rfl ?_
      refine soff rfl rfl rfl rfl ?_
      refine sv rfl (opv_pick_t rfl rfl) ?_
      refine snil ?_
      refine ccond rfl (fun _ => ?_) (fun hx => Bool.noConfusion hx)
      refine cseq ?_
      refine cregion ?_
      refine sv rfl (opv_build zi82 pi82 parts_nil (.nil _)) ?_
      refine sstore sz82 rfl rfl rfl rfl (Nat.le_of_ble_eq_true rfl) ?_
      refine smem [.box [.sl a0.L.length (a0.L.flatMap eGChainVer)], .box a1, .box [.raw (.slice none 0 0)]] rfl ?_
      refine sv rfl (opv_as rfl) ?_
      refine snil ?_
      refine cret ?_
      refine then_ret ?_
      obtain rfl := Option.some.inj h
      refine ⟨Or.inr rfl, _, _, _, (resVs_cons (ResV.agg _ _ _ _ _ ti82 rfl (.lp _ _ _ rfl) (Nat.le_of_ble_eq_true rfl)) (resVs_cons (ResV.tmp _ _ rfl) resVs_nil)), (pubC rfl), ?_⟩
      rfl
    · replace h := ite_f hc h
      clear hc
      refine son rfl rfl rfl ?_
      refine sv rfl (opv_loadN ti85 rfl (.lp _ _ _ rfl) (Nat.le_of_ble_eq_true rfl)) ?_
      refine son rfl rfl rfl ?_
      obtain ⟨v5, hv5, h⟩ := bind_eq h
      refine scall1 rfl fn75 (opnds_cons rfl opnds_nil) (pubA_id rfl) (m75_chain_saneVer_c hv5) ?_
      refine son rfl rfl rfl ?_
      refine sv rfl (opv_not rfl) ?_
      refine sv rfl (opv_pick_f rfl rfl) ?_
      refine snil ?_
      refine ccond rfl (fun hc => ?_) (fun hc => ?_)
      · replace h := ite_t hc h
        clear hc
        refine cseq ?_
        refine cregion ?_
        refine sv rfl (opv_build zi82 pi82 parts_nil (.nil _)) ?_
        refine sstore sz82 rfl rfl rfl rfl (Nat.le_of_ble_eq_true rfl) ?_
        refine smem [.box [.sl a0.L.length (a0.L.flatMap eGChainVer)], .box a1, .box [.raw (.slice none 0 0)]] rfl ?_
        refine sv rfl (opv_as rfl) ?_
        refine snil ?_
        refine cret ?_
        refine then_ret ?_
        obtain rfl := Option.some.inj h
        refine ⟨Or.inr rfl, _, _, _, (resVs_cons (ResV.agg _ _ _ _ _ ti82 rfl (.lp _ _ _ rfl) (Nat.le_of_ble_eq_true rfl)) (resVs_cons (ResV.tmp _ _ rfl) resVs_nil)), (pubC rfl), ?_⟩
        rfl
      · replace h := ite_f hc h
        clear hc
        refine cskip ?_
        refine then_normal ?_
        exact ⟨(), _, h, ⟨rfl, rfl, rfl, trivial⟩, rfl⟩

def m45_store_lays_k2 (a2 : Int) (a3 : GApiWrite) (v1 : Int × Bool) (b2 : (List (List UInt8)) × (List GChainChain)) : Option (Int × (List (List UInt8)) × (List GChainChain)) :=
  (idx b2.2 v1.1).bind fun u3 => (m69_chain_Push u3 (GChainVer.mk a2 a3.Val a3.Del)).bind fun v4 => if (decide (v4.2 = 0)) then ((idx b2.2 v1.1).bind fun u5 => some (a2, b2.1, (b2.2.set v1.1.toNat v4.1))) else (some (a2, b2.1, b2.2))
def m45_store_lays (a0 : List (List UInt8)) (a1 : List GChainChain) (a2 : Int) (a3 : GApiWrite) : Option (Int × (List (List UInt8)) × (List GChainChain)) :=
  (m38_keys_Finds a0 a3.Key).bind fun v1 => if (!v1.2) then ((m67_slices_Insert a0 v1.1 [a3.Key]).bind fun v6 => (m68_slices_Insert a1 v1.1 [(GChainChain.mk ([] : List GChainVer))]).bind fun v7 => m45_store_lays_k2 a2 a3 v1 (v6, v7)) else (m45_store_lays_k2 a2 a3 v1 (a0, a1))

set_option maxRecDepth 100000 in
theorem m45_store_lays_c {a0 : List (List UInt8)} {a1 : List GChainChain} {a2 : Int} {a3 : GApiWrite} {r : Int × (List (List UInt8)) × (List GChainChain)} (h : m45_store_lays a0 a1 a2 a3 = some r) : CallsB Try.prog 45 [.arr 26 1 0 (a0.flatMap (eL eU8)), .arr 82 1 0 (a1.flatMap eGChainChain)] [.agg [.ls 0 a0.length, .ls 1 a1.length, .i .i64 a2], .agg a3] (fun y m' => y = .s (.agg [.ls 0 r.2.1.length, .ls 1 r.2.2.length, .i .i64 r.1]) ∧ m' = [.arr 26 1 0 (r.2.1.flatMap (eL eU8)), .arr 82 1 0 (r.2.2.flatMap eGChainChain)]) := by
  unfold m45_store_lays at h
  refine callsB_of Try.func45 rfl (nt := 58) rfl (Nat.le_of_ble_eq_true rfl) ?_
  intro w0 S0 X0 H0
  refine cseq ?_
  refine cregion ?_
  refine sbox rfl rfl ?_
  refine sbox rfl rfl ?_
  refine salloc rfl zi36 ?_
  refine snil ?_
  refine cseq ?_
  refine cregion ?_
  refine sv rfl (opv_fieldAddr_lp fi36_0 rfl) ?_
  refine sv rfl (opv_load1 ti22 rfl (.lp _ _ _ rfl) rfl) ?_
  refine sv rfl (opv_fieldAddr_lp fi67_0 rfl) ?_
  refine sv rfl (opv_load1 ti26 rfl (.lp _ _ _ rfl) rfl) ?_
  obtain ⟨v1, hv1, h⟩ := bind_eq h
  refine scallB (x' := .tup [.one (.i .i64 v1.1), .one (.b v1.2)]) (M' := [.arr 26 1 0 (a0.flatMap (eL eU8)), .arr 82 1 0 (a1.flatMap eGChainChain), .box [.ls 0 a0.length, .ls 1 a1.length, .i .i64 a2], .box a3, .box [.raw (.slice none 0 0), .raw (.slice none 0 0), .i .i64 0]]) [0] rfl fn38 (.func _) (opnds_cons rfl (opnds_cons rfl opnds_nil)) (m38_keys_Finds_c hv1) rfl rfl (by decide) rfl rfl rfl ?_
  refine sv rfl (opv_mvt rfl) ?_
  refine sv rfl (opv_extract rfl rfl) ?_
  refine sv rfl (opv_extract rfl rfl) ?_
  refine sv rfl (opv_as rfl) ?_
  refine sv rfl (opv_as rfl) ?_
  refine snil ?_
  refine cseq ?_
  refine cseq ?_
  refine cregion ?_
  refine sv rfl (opv_mv rfl) ?_
  refine sv rfl (opv_not rfl) ?_
  refine snil ?_
  refine cjoin ((List (List UInt8)) × (List GChainChain)) (fun b2 => [(2, .s (.one (.lp 2 0))), (3, .s (.one (.lp 3 0))), (4, .s (.one (.lp 4 0))), (5, .s (.one (.i .i64 v1.1)))]) (fun b2 => [.arr 26 1 0 (b2.1.flatMap (eL eU8)), .arr 82 1 0 (b2.2.flatMap eGChainChain), .box [.ls 0 b2.1.length, .ls 1 b2.2.length, .i .i64 a2], .box a3, .box [.raw (.slice none 0 0), .raw (.slice none 0 0), .i .i64 0]]) (fun b2 => m45_store_lays_k2 a2 a3 v1 b2 = some r) (fun _ _ => inbL_of rfl) (fun _ _ => blkinb_of rfl) (fun _ _ => Nat.le_of_ble_eq_true rfl) (fun b2 h => ?_) ?_
  · unfold m45_store_lays_k2 at h
    refine cseq ?_
    refine chole ?_
    obtain ⟨u3, hu3, h⟩ := bind_eq h
    obtain ⟨v4, hv4, h⟩ := bind_eq h
    refine cdraw_e [16, 17] [0, 1, 0, 7, 15, 0, 32, 0, 128, 0, 512, 2016, 4095, 8191, 16383, 16383, 0, 98303, 262143] [[.arr 26 1 0 (b2.1.flatMap (eL eU8)), .arr 82 1 0 (b2.2.flatMap eGChainChain), .box [.ls 0 b2.1.length, .ls 1 b2.2.length, .i .i64 a2], .box a3, .box [.raw (.slice none 0 0), .raw (.slice none 0 0), .i .i64 0], .hole], [.arr 26 1 0 (b2.1.flatMap (eL eU8)), .arr 82 1 0 (b2.2.flatMap eGChainChain), .box [.ls 0 b2.1.length, .ls 1 b2.2.length, .i .i64 a2], .box a3, .box [.raw (.slice none 0 0), .raw (.slice none 0 0), .i .i64 0], .box [.raw (.slice none 0 0)]], [.arr 26 1 0 (b2.1.flatMap (eL eU8)), .arr 82 1 0 (b2.2.flatMap eGChainChain), .box [.ls 0 b2.1.length, .ls 1 b2.2.length, .i .i64 a2], .box a3, .box [.raw (.slice none 0 0), .raw (.slice none 0 0), .i .i64 0], .box [.sl v4.1.L.length (v4.1.L.flatMap eGChainVer)]]] (by kernel_rfl) mixed (by kernel_rfl) (by decide) rfl rfl rfl rfl ?_
    refine ev (sees_all (md := [.arr 26 1 0 (b2.1.flatMap (eL eU8)), .arr 82 1 0 (b2.2.flatMap eGChainChain), .box [.ls 0 b2.1.length, .ls 1 b2.2.length, .i .i64 a2], .box a3, .box [.raw (.slice none 0 0), .raw (.slice none 0 0), .i .i64 0], .dead]) ⟨⟨rfl, ⟨rfl, ⟨rfl, ⟨rfl, ⟨rfl, ⟨trivial, trivial⟩⟩⟩⟩⟩⟩, ⟨⟨rfl, ⟨rfl, ⟨rfl, ⟨rfl, ⟨rfl, ⟨trivial, trivial⟩⟩⟩⟩⟩⟩, ⟨⟨rfl, ⟨rfl, ⟨rfl, ⟨rfl, ⟨rfl, ⟨trivial, trivial⟩⟩⟩⟩⟩⟩, trivial⟩⟩⟩) rfl rfl (opv_fieldAddr_lp fi36_1 rfl) ?_
    refine ev (sees_all (md := [.arr 26 1 0 (b2.1.flatMap (eL eU8)), .arr 82 1 0 (b2.2.flatMap eGChainChain), .box [.ls 0 b2.1.length, .ls 1 b2.2.length, .i .i64 a2], .box a3, .box [.raw (.slice none 0 0), .raw (.slice none 0 0), .i .i64 0], .dead]) ⟨⟨rfl, ⟨rfl, ⟨rfl, ⟨rfl, ⟨rfl, ⟨trivial, trivial⟩⟩⟩⟩⟩⟩, ⟨⟨rfl, ⟨rfl, ⟨rfl, ⟨rfl, ⟨rfl, ⟨trivial, trivial⟩⟩⟩⟩⟩⟩, ⟨⟨rfl, ⟨rfl, ⟨rfl, ⟨rfl, ⟨rfl, ⟨trivial, trivial⟩⟩⟩⟩⟩⟩, trivial⟩⟩⟩) rfl rfl (opv_load1 ti34 rfl (.lp _ _ _ rfl) rfl) ?_
    refine emv rfl rfl (fun _ => opv_mv rfl) ?_
    refine ev (sees_all (md := [.arr 26 1 0 (b2.1.flatMap (eL eU8)), .arr 82 1 0 (b2.2.flatMap eGChainChain), .box [.ls 0 b2.1.length, .ls 1 b2.2.length, .i .i64 a2], .box a3, .box [.raw (.slice none 0 0), .raw (.slice none 0 0), .i .i64 0], .dead]) ⟨⟨rfl, ⟨rfl, ⟨rfl, ⟨rfl, ⟨rfl, ⟨trivial, trivial⟩⟩⟩⟩⟩⟩, ⟨⟨rfl, ⟨rfl, ⟨rfl, ⟨rfl, ⟨rfl, ⟨trivial, trivial⟩⟩⟩⟩⟩⟩, ⟨⟨rfl, ⟨rfl, ⟨rfl, ⟨rfl, ⟨rfl, ⟨trivial, trivial⟩⟩⟩⟩⟩⟩, trivial⟩⟩⟩) rfl rfl (opv_ixo (f := eGChainChain) si34 (fun _ => rfl) rfl rfl rfl (by first | rfl | exact List.length_set.symm) rfl hu3) ?_
    refine ev (sees_all (md := [.arr 26 1 0 (b2.1.flatMap (eL eU8)), .arr 82 1 0 (b2.2.flatMap eGChainChain), .box [.ls 0 b2.1.length, .ls 1 b2.2.length, .i .i64 a2], .box a3, .box [.raw (.slice none 0 0), .raw (.slice none 0 0), .i .i64 0], .dead]) ⟨⟨rfl, ⟨rfl, ⟨rfl, ⟨rfl, ⟨rfl, ⟨trivial, trivial⟩⟩⟩⟩⟩⟩, ⟨⟨rfl, ⟨rfl, ⟨rfl, ⟨rfl, ⟨rfl, ⟨trivial, trivial⟩⟩⟩⟩⟩⟩, ⟨⟨rfl, ⟨rfl, ⟨rfl, ⟨rfl, ⟨rfl, ⟨trivial, trivial⟩⟩⟩⟩⟩⟩, trivial⟩⟩⟩) rfl rfl (opv_ldNo (f := eGChainChain) (sz := 1) 0 ti82 (fun _ => rfl) rfl rfl rfl rfl (idx_eq hu3).2 (Nat.le_of_ble_eq_true rfl) rfl) ?_
    refine ev (sees_all (md := [.arr 26 1 0 (b2.1.flatMap (eL eU8)), .arr 82 1 0 (b2.2.flatMap eGChainChain), .box [.ls 0 b2.1.length, .ls 1 b2.2.length, .i .i64 a2], .box a3, .box [.raw (.slice none 0 0), .raw (.slice none 0 0), .i .i64 0], .dead]) ⟨⟨rfl, ⟨rfl, ⟨rfl, ⟨rfl, ⟨rfl, ⟨trivial, trivial⟩⟩⟩⟩⟩⟩, ⟨⟨rfl, ⟨rfl, ⟨rfl, ⟨rfl, ⟨rfl, ⟨trivial, trivial⟩⟩⟩⟩⟩⟩, ⟨⟨rfl, ⟨rfl, ⟨rfl, ⟨rfl, ⟨rfl, ⟨trivial, trivial⟩⟩⟩⟩⟩⟩, trivial⟩⟩⟩) rfl rfl (opv_fieldAddr_lp fi36_2 rfl) ?_
    refine ev (sees_all (md := [.arr 26 1 0 (b2.1.flatMap (eL eU8)), .arr 82 1 0 (b2.2.flatMap eGChainChain), .box [.ls 0 b2.1.length, .ls 1 b2.2.length, .i .i64 a2], .box a3, .box [.raw (.slice none 0 0), .raw (.slice none 0 0), .i .i64 0], .dead]) ⟨⟨rfl, ⟨rfl, ⟨rfl, ⟨rfl, ⟨rfl, ⟨trivial, trivial⟩⟩⟩⟩⟩⟩, ⟨⟨rfl, ⟨rfl, ⟨rfl, ⟨rfl, ⟨rfl, ⟨trivial, trivial⟩⟩⟩⟩⟩⟩, ⟨⟨rfl, ⟨rfl, ⟨rfl, ⟨rfl, ⟨rfl, ⟨trivial, trivial⟩⟩⟩⟩⟩⟩, trivial⟩⟩⟩) rfl rfl (opv_load1 ti3 rfl (.lp _ _ _ rfl) rfl) ?_
    refine ev (sees_all (md := [.arr 26 1 0 (b2.1.flatMap (eL eU8)), .arr 82 1 0 (b2.2.flatMap eGChainChain), .box [.ls 0 b2.1.length, .ls 1 b2.2.length, .i .i64 a2], .box a3, .box [.raw (.slice none 0 0), .raw (.slice none 0 0), .i .i64 0], .dead]) ⟨⟨rfl, ⟨rfl, ⟨rfl, ⟨rfl, ⟨rfl, ⟨trivial, trivial⟩⟩⟩⟩⟩⟩, ⟨⟨rfl, ⟨rfl, ⟨rfl, ⟨rfl, ⟨rfl, ⟨trivial, trivial⟩⟩⟩⟩⟩⟩, ⟨⟨rfl, ⟨rfl, ⟨rfl, ⟨rfl, ⟨rfl, ⟨trivial, trivial⟩⟩⟩⟩⟩⟩, trivial⟩⟩⟩) rfl rfl (opv_fieldAddr_lp fi67_1 rfl) ?_
    refine ev (sees_all (md := [.arr 26 1 0 (b2.1.flatMap (eL eU8)), .arr 82 1 0 (b2.2.flatMap eGChainChain), .box [.ls 0 b2.1.length, .ls 1 b2.2.length, .i .i64 a2], .box a3, .box [.raw (.slice none 0 0), .raw (.slice none 0 0), .i .i64 0], .dead]) ⟨⟨rfl, ⟨rfl, ⟨rfl, ⟨rfl, ⟨rfl, ⟨trivial, trivial⟩⟩⟩⟩⟩⟩, ⟨⟨rfl, ⟨rfl, ⟨rfl, ⟨rfl, ⟨rfl, ⟨trivial, trivial⟩⟩⟩⟩⟩⟩, ⟨⟨rfl, ⟨rfl, ⟨rfl, ⟨rfl, ⟨rfl, ⟨trivial, trivial⟩⟩⟩⟩⟩⟩, trivial⟩⟩⟩) rfl rfl (opv_load1 ti26 rfl (.lp _ _ _ rfl) rfl) ?_
    refine ev (sees_all (md := [.arr 26 1 0 (b2.1.flatMap (eL eU8)), .arr 82 1 0 (b2.2.flatMap eGChainChain), .box [.ls 0 b2.1.length, .ls 1 b2.2.length, .i .i64 a2], .box a3, .box [.raw (.slice none 0 0), .raw (.slice none 0 0), .i .i64 0], .dead]) ⟨⟨rfl, ⟨rfl, ⟨rfl, ⟨rfl, ⟨rfl, ⟨trivial, trivial⟩⟩⟩⟩⟩⟩, ⟨⟨rfl, ⟨rfl, ⟨rfl, ⟨rfl, ⟨rfl, ⟨trivial, trivial⟩⟩⟩⟩⟩⟩, ⟨⟨rfl, ⟨rfl, ⟨rfl, ⟨rfl, ⟨rfl, ⟨trivial, trivial⟩⟩⟩⟩⟩⟩, trivial⟩⟩⟩) rfl rfl (opv_fieldAddr_lp fi67_2 rfl) ?_
    refine ev (sees_all (md := [.arr 26 1 0 (b2.1.flatMap (eL eU8)), .arr 82 1 0 (b2.2.flatMap eGChainChain), .box [.ls 0 b2.1.length, .ls 1 b2.2.length, .i .i64 a2], .box a3, .box [.raw (.slice none 0 0), .raw (.slice none 0 0), .i .i64 0], .dead]) ⟨⟨rfl, ⟨rfl, ⟨rfl, ⟨rfl, ⟨rfl, ⟨trivial, trivial⟩⟩⟩⟩⟩⟩, ⟨⟨rfl, ⟨rfl, ⟨rfl, ⟨rfl, ⟨rfl, ⟨trivial, trivial⟩⟩⟩⟩⟩⟩, ⟨⟨rfl, ⟨rfl, ⟨rfl, ⟨rfl, ⟨rfl, ⟨trivial, trivial⟩⟩⟩⟩⟩⟩, trivial⟩⟩⟩) rfl rfl (opv_load1 ti4 rfl (.lp _ _ _ rfl) rfl) ?_
    refine ev (sees_all (md := [.arr 26 1 0 (b2.1.flatMap (eL eU8)), .arr 82 1 0 (b2.2.flatMap eGChainChain), .box [.ls 0 b2.1.length, .ls 1 b2.2.length, .i .i64 a2], .box a3, .box [.raw (.slice none 0 0), .raw (.slice none 0 0), .i .i64 0], .dead]) ⟨⟨rfl, ⟨rfl, ⟨rfl, ⟨rfl, ⟨rfl, ⟨trivial, trivial⟩⟩⟩⟩⟩⟩, ⟨⟨rfl, ⟨rfl, ⟨rfl, ⟨rfl, ⟨rfl, ⟨trivial, trivial⟩⟩⟩⟩⟩⟩, ⟨⟨rfl, ⟨rfl, ⟨rfl, ⟨rfl, ⟨rfl, ⟨trivial, trivial⟩⟩⟩⟩⟩⟩, trivial⟩⟩⟩) rfl rfl (opv_build zi85 pi85 (parts_cons rfl (parts_cons rfl (parts_cons rfl parts_nil))) (.cons _ _ _ _ _ _ _ rfl rfl (Nat.le_of_ble_eq_true rfl) (.cons _ _ _ _ _ _ _ rfl rfl (Nat.le_of_ble_eq_true rfl) (.cons _ _ _ _ _ _ _ rfl rfl (Nat.le_of_ble_eq_true rfl) (.nil _))))) ?_
    refine ed (sees_all (md := [.arr 26 1 0 (b2.1.flatMap (eL eU8)), .arr 82 1 0 (b2.2.flatMap eGChainChain), .box [.ls 0 b2.1.length, .ls 1 b2.2.length, .i .i64 a2], .box a3, .box [.raw (.slice none 0 0), .raw (.slice none 0 0), .i .i64 0], .dead]) ⟨⟨rfl, ⟨rfl, ⟨rfl, ⟨rfl, ⟨rfl, ⟨trivial, trivial⟩⟩⟩⟩⟩⟩, ⟨⟨rfl, ⟨rfl, ⟨rfl, ⟨rfl, ⟨rfl, ⟨trivial, trivial⟩⟩⟩⟩⟩⟩, ⟨⟨rfl, ⟨rfl, ⟨rfl, ⟨rfl, ⟨rfl, ⟨trivial, trivial⟩⟩⟩⟩⟩⟩, trivial⟩⟩⟩) rfl rfl (opD_call fn69 (opnds_cons rfl (opnds_cons rfl opnds_nil)) rfl (m69_chain_Push_c hv4)) ?_
    refine emv rfl rfl (fun _ => opv_mvt rfl) ?_
    refine ev (sees_all (md := [.arr 26 1 0 (b2.1.flatMap (eL eU8)), .arr 82 1 0 (b2.2.flatMap eGChainChain), .box [.ls 0 b2.1.length, .ls 1 b2.2.length, .i .i64 a2], .box a3, .box [.raw (.slice none 0 0), .raw (.slice none 0 0), .i .i64 0], .dead]) ⟨⟨rfl, ⟨rfl, ⟨rfl, ⟨rfl, ⟨rfl, ⟨trivial, trivial⟩⟩⟩⟩⟩⟩, ⟨⟨rfl, ⟨rfl, ⟨rfl, ⟨rfl, ⟨rfl, ⟨trivial, trivial⟩⟩⟩⟩⟩⟩, ⟨⟨rfl, ⟨rfl, ⟨rfl, ⟨rfl, ⟨rfl, ⟨trivial, trivial⟩⟩⟩⟩⟩⟩, trivial⟩⟩⟩) rfl rfl (opv_extract rfl rfl) ?_
    refine ev (sees_all (md := [.arr 26 1 0 (b2.1.flatMap (eL eU8)), .arr 82 1 0 (b2.2.flatMap eGChainChain), .box [.ls 0 b2.1.length, .ls 1 b2.2.length, .i .i64 a2], .box a3, .box [.raw (.slice none 0 0), .raw (.slice none 0 0), .i .i64 0], .dead]) ⟨⟨rfl, ⟨rfl, ⟨rfl, ⟨rfl, ⟨rfl, ⟨trivial, trivial⟩⟩⟩⟩⟩⟩, ⟨⟨rfl, ⟨rfl, ⟨rfl, ⟨rfl, ⟨rfl, ⟨trivial, trivial⟩⟩⟩⟩⟩⟩, ⟨⟨rfl, ⟨rfl, ⟨rfl, ⟨rfl, ⟨rfl, ⟨trivial, trivial⟩⟩⟩⟩⟩⟩, trivial⟩⟩⟩) rfl rfl (opv_extract rfl rfl) ?_
    refine ee (x := .s (.one (.lp 5 0))) 0 rfl rfl rfl rfl rfl (fun ζ => ?_) ?_
    · refine salloc_at 5 rfl zi82 rfl ?_
      exact eend
    refine ee0 1 rfl rfl rfl rfl (fun ζ => ?_) ?_
    · refine sstore sz82 rfl rfl rfl rfl (Nat.le_of_ble_eq_true rfl) ?_
      refine smem [.arr 26 1 0 (b2.1.flatMap (eL eU8)), .arr 82 1 0 (b2.2.flatMap eGChainChain), .box [.ls 0 b2.1.length, .ls 1 b2.2.length, .i .i64 a2], .box a3, .box [.raw (.slice none 0 0), .raw (.slice none 0 0), .i .i64 0], .box [.sl v4.1.L.length (v4.1.L.flatMap eGChainVer)]] rfl ?_
      exact eend
    refine ev (sees_at 2 rfl rfl) rfl rfl (opv_as rfl) ?_
    refine enil ?_
    refine then_normal ?_
    refine cseq ?_
    refine cseq ?_
    refine cregion ?_
    refine sv rfl (opv_mv rfl) ?_
    refine sv rfl (opv_ieql rfl rfl) ?_
    refine snil ?_
    refine ccond rfl (fun hc => ?_) (fun hc => ?_)
    · replace h := ite_t hc h
      clear hc
      refine cregion ?_
      refine sv rfl (opv_fieldAddr_lp fi36_1 rfl) ?_
      refine sv rfl (opv_load1 ti34 rfl (.lp _ _ _ rfl) rfl) ?_
      refine sv rfl (opv_mv rfl) ?_
      refine sv rfl (opv_loadN ti82 rfl (.lp _ _ _ rfl) (Nat.le_of_ble_eq_true rfl)) ?_
      obtain ⟨u5, hu5, h⟩ := bind_eq h
      refine sv rfl (opv_ixo (f := eGChainChain) si34 (fun _ => rfl) rfl rfl rfl rfl rfl hu5) ?_
      refine sseto (f := eGChainChain) (u' := v4.1) (sz := 1) 0 sz82 (fun _ => rfl) rfl rfl rfl rfl rfl rfl rfl (List.all_eq_true.1 rfl) (idx_eq hu5).2 (Nat.le_of_ble_eq_true rfl) rfl ?_
      refine stell 36 (y := .s (.one (.ls 1 b2.2.length))) (.s (.one (.ls 1 (b2.2.set v1.1.toNat v4.1).length))) rfl (congrArg (fun n => AV.s (.one (.ls 1 n))) List.length_set.symm) ?_
      refine stell 53 (y := .s (.one (.ls 1 b2.2.length))) (.s (.one (.ls 1 (b2.2.set v1.1.toNat v4.1).length))) rfl (congrArg (fun n => AV.s (.one (.ls 1 n))) List.length_set.symm) ?_
      refine smem [.arr 26 1 0 (b2.1.flatMap (eL eU8)), .arr 82 1 0 ((b2.2.set v1.1.toNat v4.1).flatMap eGChainChain), .box [.ls 0 b2.1.length, .ls 1 b2.2.length, .i .i64 a2], .box a3, .box [.raw (.slice none 0 0), .raw (.slice none 0 0), .i .i64 0], .box [.sl v4.1.L.length (v4.1.L.flatMap eGChainVer)]] rfl ?_
      refine smem [.arr 26 1 0 (b2.1.flatMap (eL eU8)), .arr 82 1 0 ((b2.2.set v1.1.toNat v4.1).flatMap eGChainChain), .box [.ls 0 b2.1.length, .ls 1 (b2.2.set v1.1.toNat v4.1).length, .i .i64 a2], .box a3, .box [.raw (.slice none 0 0), .raw (.slice none 0 0), .i .i64 0], .box [.sl v4.1.L.length (v4.1.L.flatMap eGChainVer)]] (by rw [List.length_set]) ?_
      refine snil ?_
      refine cseq ?_
      refine cregion ?_
      refine sv rfl (opv_loadN ti36 rfl (.lp _ _ _ rfl) (Nat.le_of_ble_eq_true rfl)) ?_
      refine sstore sz36 rfl rfl rfl rfl (Nat.le_of_ble_eq_true rfl) ?_
      refine smem [.arr 26 1 0 (b2.1.flatMap (eL eU8)), .arr 82 1 0 ((b2.2.set v1.1.toNat v4.1).flatMap eGChainChain), .box [.ls 0 b2.1.length, .ls 1 (b2.2.set v1.1.toNat v4.1).length, .i .i64 a2], .box a3, .box [.ls 0 b2.1.length, .ls 1 (b2.2.set v1.1.toNat v4.1).length, .i .i64 a2], .box [.sl v4.1.L.length (v4.1.L.flatMap eGChainVer)]] rfl ?_
      refine snil ?_
      refine cret ?_
      obtain rfl := Option.some.inj h
      exact ⟨Or.inr rfl, _, [0, 1], [.agg [.ls 0 b2.1.length, .ls 1 (b2.2.set v1.1.toNat v4.1).length, .i .i64 a2]], [.arr 26 1 0 (b2.1.flatMap (eL eU8)), .arr 82 1 0 ((b2.2.set v1.1.toNat v4.1).flatMap eGChainChain)], (resVs_cons (ResV.agg _ _ _ _ _ ti36 rfl (.lp _ _ _ rfl) (Nat.le_of_ble_eq_true rfl)) resVs_nil), rfl, rfl, ⟨by decide, rfl⟩, rfl, rfl, ⟨rfl, rfl⟩⟩
    · replace h := ite_f hc h
      clear hc
      refine cskip ?_
      refine then_normal ?_
      refine cseq ?_
      refine cregion ?_
      refine sv rfl (opv_loadN ti36 rfl (.lp _ _ _ rfl) (Nat.le_of_ble_eq_true rfl)) ?_
      refine sstore sz36 rfl rfl rfl rfl (Nat.le_of_ble_eq_true rfl) ?_
      refine smem [.arr 26 1 0 (b2.1.flatMap (eL eU8)), .arr 82 1 0 (b2.2.flatMap eGChainChain), .box [.ls 0 b2.1.length, .ls 1 b2.2.length, .i .i64 a2], .box a3, .box [.ls 0 b2.1.length, .ls 1 b2.2.length, .i .i64 a2], .box [.sl v4.1.L.length (v4.1.L.flatMap eGChainVer)]] rfl ?_
      refine snil ?_
      refine cret ?_
      obtain rfl := Option.some.inj h
      exact ⟨Or.inr rfl, _, [0, 1], [.agg [.ls 0 b2.1.length, .ls 1 b2.2.length, .i .i64 a2]], [.arr 26 1 0 (b2.1.flatMap (eL eU8)), .arr 82 1 0 (b2.2.flatMap eGChainChain)], (resVs_cons (ResV.agg _ _ _ _ _ ti36 rfl (.lp _ _ _ rfl) (Nat.le_of_ble_eq_true rfl)) resVs_nil), rfl, rfl, ⟨by decide, rfl⟩, rfl, rfl, ⟨rfl, rfl⟩⟩
  · skip
    refine ccond rfl (fun hc => ?_) (fun hc => ?_)
    · replace h := ite_t hc h
      clear hc
      refine cseq ?_
      refine cregion ?_
      refine sv rfl (opv_fieldAddr_lp fi36_0 rfl) ?_
      refine sv rfl (opv_load1 ti22 rfl (.lp _ _ _ rfl) rfl) ?_
      refine sv rfl (opv_mv rfl) ?_
      refine sv rfl (opv_fieldAddr_lp fi67_0 rfl) ?_
      refine sv rfl (opv_load1 ti26 rfl (.lp _ _ _ rfl) rfl) ?_
      refine sbuild1 rfl Try.underlying22 ei26 rfl rfl (List.all_eq_true.1 rfl) (by decide) ?_
      refine smem [.arr 26 1 0 (a0.flatMap (eL eU8)), .arr 82 1 0 (a1.flatMap eGChainChain), .box [.ls 0 a0.length, .ls 1 a1.length, .i .i64 a2], .box a3, .box [.raw (.slice none 0 0), .raw (.slice none 0 0), .i .i64 0], .arr 26 1 0 ([a3.Key].flatMap (eL eU8))] rfl ?_
      obtain ⟨v6, hv6, h⟩ := bind_eq h
      refine scallB (x' := .s (.one (.ls 0 v6.length))) (M' := [.arr 26 1 0 (v6.flatMap (eL eU8)), .arr 82 1 0 (a1.flatMap eGChainChain), .box [.ls 0 a0.length, .ls 1 a1.length, .i .i64 a2], .box a3, .box [.raw (.slice none 0 0), .raw (.slice none 0 0), .i .i64 0], .dead]) [0, 5] rfl fn67 (.func _) (opnds_cons rfl (opnds_cons rfl (opnds_cons rfl opnds_nil))) (m67_slices_Insert_c hv6) rfl rfl (by decide) rfl rfl rfl ?_
      refine sv rfl (opv_fieldAddr_lp fi36_0 rfl) ?_
      refine sstore sz22 rfl rfl rfl rfl (Nat.le_of_ble_eq_true rfl) ?_
      refine smem [.arr 26 1 0 (v6.flatMap (eL eU8)), .arr 82 1 0 (a1.flatMap eGChainChain), .box [.ls 0 v6.length, .ls 1 a1.length, .i .i64 a2], .box a3, .box [.raw (.slice none 0 0), .raw (.slice none 0 0), .i .i64 0], .dead] rfl ?_
      refine snil ?_
      refine cregion ?_
      refine sv rfl (opv_fieldAddr_lp fi36_1 rfl) ?_
      refine sv rfl (opv_load1 ti34 rfl (.lp _ _ _ rfl) rfl) ?_
      refine sv rfl (opv_mv rfl) ?_
      refine sv rfl (opv_build zi82 pi82 parts_nil (.nil _)) ?_
      refine spub 30 rfl (by (repeat' first | exact PubA.nil _ | apply PubA.cons | apply PubV.one | apply PubV.agg | exact PubL.nil | exact PubL.ls _ _ _ _ _ _ rfl (flat_len (f := (eL eU8)) (fun _ => rfl) _).symm | exact PubL.ls _ _ _ _ _ _ rfl (flat_len (f := eGChainChain) (fun _ => rfl) _).symm | exact PubL.id _ rfl | exact PubLs.nil _ | apply PubLs.cons)) ?_
      refine sbuild1 rfl Try.underlying34 ei82 rfl rfl (List.all_eq_true.1 rfl) (by decide) ?_
      refine smem [.arr 26 1 0 (v6.flatMap (eL eU8)), .arr 82 1 0 (a1.flatMap eGChainChain), .box [.ls 0 v6.length, .ls 1 a1.length, .i .i64 a2], .box a3, .box [.raw (.slice none 0 0), .raw (.slice none 0 0), .i .i64 0], .dead, .arr 82 1 0 ([(GChainChain.mk ([] : List GChainVer))].flatMap eGChainChain)] rfl ?_
      obtain ⟨v7, hv7, h⟩ := bind_eq h
      refine scallB (x' := .s (.one (.ls 1 v7.length))) (M' := [.arr 26 1 0 (v6.flatMap (eL eU8)), .arr 82 1 0 (v7.flatMap eGChainChain), .box [.ls 0 v6.length, .ls 1 a1.length, .i .i64 a2], .box a3, .box [.raw (.slice none 0 0), .raw (.slice none 0 0), .i .i64 0], .dead, .dead]) [1, 6] rfl fn68 (.func _) (opnds_cons rfl (opnds_cons rfl (opnds_cons rfl opnds_nil))) (m68_slices_Insert_c hv7) rfl rfl (by decide) rfl rfl rfl ?_
      refine sv rfl (opv_fieldAddr_lp fi36_1 rfl) ?_
      refine sstore sz34 rfl rfl rfl rfl (Nat.le_of_ble_eq_true rfl) ?_
      refine smem [.arr 26 1 0 (v6.flatMap (eL eU8)), .arr 82 1 0 (v7.flatMap eGChainChain), .box [.ls 0 v6.length, .ls 1 v7.length, .i .i64 a2], .box a3, .box [.raw (.slice none 0 0), .raw (.slice none 0 0), .i .i64 0], .dead, .dead] rfl ?_
      refine snil ?_
      exact ⟨(v6, v7), _, h, ⟨rfl, rfl, rfl, rfl, trivial⟩, rfl⟩
    · replace h := ite_f hc h
      clear hc
      refine cskip ?_
      refine then_normal ?_
      exact ⟨(a0, a1), _, h, ⟨rfl, rfl, rfl, rfl, trivial⟩, rfl⟩

def m16_store_Install_k5 (b5 : (List (List UInt8)) × (List GChainChain) × Int) : Option (GStoreStore × Int) :=
  if (decide (128 < (b5.1.length : Int))) then (some ((GStoreStore.mk ([] : List (List UInt8)) ([] : List GChainChain) 0), 8)) else (some ((GStoreStore.mk b5.1 b5.2.1 b5.2.2), 0))

def m16_store_Install_s6 (a2 : List GApiWrite) (s6 : Int × (List (List UInt8)) × (List GChainChain) × Int) : Option (LB (Int × (List (List UInt8)) × (List GChainChain) × Int) ((List (List UInt8)) × (List GChainChain) × Int)) :=
  if (decide (s6.1 < (a2.length : Int))) then ((idx a2 s6.1).bind fun u7 => (m45_store_lays s6.2.1 s6.2.2.1 s6.2.2.2 u7).bind fun v8 => some (.cont ((wI (s6.1 + 1)), v8.2.1, v8.2.2, v8.1))) else (some (.brk (s6.2.1, s6.2.2.1, s6.2.2.2)))

def m16_store_Install_k2 (a0 : GStoreStore) (a1 : Int) (a2 : List GApiWrite) (b2 : Unit) : Option (GStoreStore × Int) :=
  (m43_slices_Cloneo a0.Keys).bind fun v3 => (m44_slices_Cloneo a0.Chains).bind fun v4 => (iterB (m16_store_Install_s6 a2) fuel (0, v3, v4, a1)).bind fun e9 => m16_store_Install_k5 e9

def m16_store_Install_k1 (a0 : GStoreStore) (a1 : Int) (a2 : List GApiWrite) (b1 : Unit) : Option (GStoreStore × Int) :=
  if (decide (a1 ≤ a0.Ts)) then (some ((GStoreStore.mk ([] : List (List UInt8)) ([] : List GChainChain) 0), 7)) else (if (decide (1099511627776 < a1)) then (some ((GStoreStore.mk ([] : List (List UInt8)) ([] : List GChainChain) 0), 7)) else (m16_store_Install_k2 a0 a1 a2 ()))
def m16_store_Install (a0 : GStoreStore) (a1 : Int) (a2 : List GApiWrite) : Option (GStoreStore × Int) :=
  (m23_store_Sane (GStoreStore.mk a0.Keys a0.Chains a0.Ts)).bind fun v10 => if (!v10) then (some ((GStoreStore.mk ([] : List (List UInt8)) ([] : List GChainChain) 0), 1)) else ((m42_store_saneWrites a2).bind fun v11 => if (!v11) then (some ((GStoreStore.mk ([] : List (List UInt8)) ([] : List GChainChain) 0), 1)) else (m16_store_Install_k1 a0 a1 a2 ()))

set_option maxRecDepth 100000 in
theorem m16_store_Install_c {a0 : GStoreStore} {a1 : Int} {a2 : List GApiWrite} {r : GStoreStore × Int} (h : m16_store_Install a0 a1 a2 = some r) : CallsA Try.prog 16 [.agg a0, .one (.i .i64 a1), .one (.sl a2.length (a2.flatMap eGApiWrite))] (· = .tup [.agg r.1, .one (.i .i64 r.2)]) := by
  unfold m16_store_Install at h
  refine callsA_of Try.func16 rfl (nt := 53) rfl (Nat.le_of_ble_eq_true rfl) ?_
  intro w0 S0
  refine cseq ?_
  refine cregion ?_
  refine sbox rfl rfl ?_
  refine salloc rfl zi36 ?_
  refine sv rfl (opv_as rfl) ?_
  refine snil ?_
  refine cseq ?_
  refine cseq ?_
  refine cjoin3 (Unit) (fun b1 => [(1, .s (.one (.i .i64 a1))), (2, .s (.one (.sl a2.length (a2.flatMap eGApiWrite)))), (3, .s (.one (.lp 0 0))), (6, .s (.one (.lp 1 0)))]) (fun b1 => [.box a0, .box [.raw (.slice none 0 0), .raw (.slice none 0 0), .i .i64 0]]) (fun b1 => m16_store_Install_k1 a0 a1 a2 b1 = some r) (fun _ _ => inbL_of rfl) (fun _ _ => blkinb_of rfl) (fun _ _ => Nat.le_of_ble_eq_true rfl) (fun b1 h => ?_) ?_
  · unfold m16_store_Install_k1 at h
    refine cseq ?_
    refine cseq ?_
    refine cjoin3 (Unit) (fun b2 => [(1, .s (.one (.i .i64 a1))), (2, .s (.one (.sl a2.length (a2.flatMap eGApiWrite)))), (3, .s (.one (.lp 0 0))), (6, .s (.one (.lp 1 0)))]) (fun b2 => [.box a0, .box [.raw (.slice none 0 0), .raw (.slice none 0 0), .i .i64 0]]) (fun b2 => m16_store_Install_k2 a0 a1 a2 b2 = some r) (fun _ _ => inbL_of rfl) (fun _ _ => blkinb_of rfl) (fun _ _ => Nat.le_of_ble_eq_true rfl) (fun b2 h => ?_) ?_
    · unfold m16_store_Install_k2 at h
      refine cseq ?_
      refine chole ?_
      refine chole ?_
      refine chole ?_
      obtain ⟨v3, hv3, h⟩ := bind_eq h
      obtain ⟨v4, hv4, h⟩ := bind_eq h
      refine cdraw_m [2, 5, 8, 9] [0, 1, 3, 0, 8, 31, 0, 127, 0, 511] [([false, false, false, false], [.box a0, .box [.raw (.slice none 0 0), .raw (.slice none 0 0), .i .i64 0], .hole, .hole, .hole]), ([false, false, true, false], [.box a0, .box [.raw (.slice none 0 0), .raw (.slice none 0 0), .i .i64 0], .hole, .hole, .box [.raw (.slice none 0 0), .raw (.slice none 0 0), .i .i64 0]]), ([true, false, false, false], [.box a0, .box [.raw (.slice none 0 0), .raw (.slice none 0 0), .i .i64 0], .arr 26 1 0 (v3.flatMap (eL eU8)), .hole, .hole]), ([true, false, true, false], [.box a0, .box [.raw (.slice none 0 0), .raw (.slice none 0 0), .i .i64 0], .arr 26 1 0 (v3.flatMap (eL eU8)), .hole, .box [.raw (.slice none 0 0), .raw (.slice none 0 0), .i .i64 0]]), ([true, true, false, false], [.box a0, .box [.raw (.slice none 0 0), .raw (.slice none 0 0), .i .i64 0], .arr 26 1 0 (v3.flatMap (eL eU8)), .arr 82 1 0 (v4.flatMap eGChainChain), .hole]), ([true, true, true, false], [.box a0, .box [.raw (.slice none 0 0), .raw (.slice none 0 0), .i .i64 0], .arr 26 1 0 (v3.flatMap (eL eU8)), .arr 82 1 0 (v4.flatMap eGChainChain), .box [.raw (.slice none 0 0), .raw (.slice none 0 0), .i .i64 0]]), ([true, true, true, true], [.box a0, .box [.raw (.slice none 0 0), .raw (.slice none 0 0), .i .i64 0], .arr 26 1 0 (v3.flatMap (eL eU8)), .arr 82 1 0 (v4.flatMap eGChainChain), .box [.ls 2 v3.length, .ls 3 v4.length, .i .i64 a1]])] (by kernel_rfl) mixed (by kernel_rfl) (by decide) rfl (by kernel_rfl) rfl rfl ?_
      refine mevA rfl rfl (alle_t rfl (opv_fieldAddr_lp fi36_0 rfl) (alle_t rfl (opv_fieldAddr_lp fi36_0 rfl) (alle_f rfl (alle_f rfl (alle_f rfl (alle_f rfl (alle_f rfl alle_nil))))))) ?_
      refine mevA rfl rfl (alle_t rfl (opv_load1 ti22 rfl (.lp _ _ _ rfl) rfl) (alle_t rfl (opv_load1 ti22 rfl (.lp _ _ _ rfl) rfl) (alle_f rfl (alle_f rfl (alle_f rfl (alle_f rfl (alle_f rfl alle_nil))))))) ?_
      refine mee (x := .s (.one (.ls 2 v3.length))) 0 rfl rfl ?_ ?_
      · refine alle_t rfl ⟨_, rfl, fun ζ => ?_⟩ ?_
        · refine scallB_at (g := (eL eU8)) (ys := v3) 2 rfl fn43 (.func _) (opnds_cons rfl opnds_nil) (m43_slices_Cloneo_c hv3) rfl (fun _ => rfl) rfl rfl rfl rfl ?_
          exact eend
        refine alle_t rfl ⟨_, rfl, fun ζ => ?_⟩ ?_
        · refine scallB_at (g := (eL eU8)) (ys := v3) 2 rfl fn43 (.func _) (opnds_cons rfl opnds_nil) (m43_slices_Cloneo_c hv3) rfl (fun _ => rfl) rfl rfl rfl rfl ?_
          exact eend
        refine alle_f rfl ?_
        refine alle_f rfl ?_
        refine alle_f rfl ?_
        refine alle_f rfl ?_
        refine alle_f rfl ?_
        exact alle_nil
      refine mevA rfl rfl (alle_t rfl (opv_fieldAddr_lp fi36_1 rfl) (alle_t rfl (opv_fieldAddr_lp fi36_1 rfl) (alle_t rfl (opv_fieldAddr_lp fi36_1 rfl) (alle_t rfl (opv_fieldAddr_lp fi36_1 rfl) (alle_f rfl (alle_f rfl (alle_f rfl alle_nil))))))) ?_
      refine mevA rfl rfl (alle_t rfl (opv_load1 ti34 rfl (.lp _ _ _ rfl) rfl) (alle_t rfl (opv_load1 ti34 rfl (.lp _ _ _ rfl) rfl) (alle_t rfl (opv_load1 ti34 rfl (.lp _ _ _ rfl) rfl) (alle_t rfl (opv_load1 ti34 rfl (.lp _ _ _ rfl) rfl) (alle_f rfl (alle_f rfl (alle_f rfl alle_nil))))))) ?_
      refine mee (x := .s (.one (.ls 3 v4.length))) 1 rfl rfl ?_ ?_
      · refine alle_f rfl ?_
        refine alle_f rfl ?_
        refine alle_t rfl ⟨_, rfl, fun ζ => ?_⟩ ?_
        · refine scallB_at (g := eGChainChain) (ys := v4) 3 rfl fn44 (.func _) (opnds_cons rfl opnds_nil) (m44_slices_Cloneo_c hv4) rfl (fun _ => rfl) rfl rfl rfl rfl ?_
          exact eend
        refine alle_t rfl ⟨_, rfl, fun ζ => ?_⟩ ?_
        · refine scallB_at (g := eGChainChain) (ys := v4) 3 rfl fn44 (.func _) (opnds_cons rfl opnds_nil) (m44_slices_Cloneo_c hv4) rfl (fun _ => rfl) rfl rfl rfl rfl ?_
          exact eend
        refine alle_f rfl ?_
        refine alle_f rfl ?_
        refine alle_f rfl ?_
        exact alle_nil
      refine mem2 rfl rfl (fun _ => opv_mv rfl) ?_
      refine mevA rfl rfl (alle_f rfl (alle_f rfl (alle_f rfl (alle_f rfl (alle_t rfl (opv_build zi36 pi36 (parts_cons rfl (parts_cons rfl (parts_cons rfl parts_nil))) (.cons _ _ _ _ _ _ _ rfl rfl (Nat.le_of_ble_eq_true rfl) (.cons _ _ _ _ _ _ _ rfl rfl (Nat.le_of_ble_eq_true rfl) (.cons _ _ _ _ _ _ _ rfl rfl (Nat.le_of_ble_eq_true rfl) (.nil _))))) (alle_t rfl (opv_build zi36 pi36 (parts_cons rfl (parts_cons rfl (parts_cons rfl parts_nil))) (.cons _ _ _ _ _ _ _ rfl rfl (Nat.le_of_ble_eq_true rfl) (.cons _ _ _ _ _ _ _ rfl rfl (Nat.le_of_ble_eq_true rfl) (.cons _ _ _ _ _ _ _ rfl rfl (Nat.le_of_ble_eq_true rfl) (.nil _))))) (alle_f rfl alle_nil))))))) ?_
      refine mee (x := .s (.one (.lp 4 0))) 2 rfl rfl ?_ ?_
      · refine alle_t rfl ⟨_, rfl, fun ζ => ?_⟩ ?_
        · refine salloc_at 4 rfl zi36 rfl ?_
          exact eend
        refine alle_f rfl ?_
        refine alle_t rfl ⟨_, rfl, fun ζ => ?_⟩ ?_
        · refine salloc_at 4 rfl zi36 rfl ?_
          exact eend
        refine alle_f rfl ?_
        refine alle_t rfl ⟨_, rfl, fun ζ => ?_⟩ ?_
        · refine salloc_at 4 rfl zi36 rfl ?_
          exact eend
        refine alle_f rfl ?_
        refine alle_f rfl ?_
        exact alle_nil
      refine mee0 3 rfl ?_ ?_
      · refine alle_f rfl ?_
        refine alle_f rfl ?_
        refine alle_f rfl ?_
        refine alle_f rfl ?_
        refine alle_f rfl ?_
        refine alle_t rfl ⟨_, rfl, fun ζ => ?_⟩ ?_
        · refine sstore sz36 rfl rfl rfl rfl (Nat.le_of_ble_eq_true rfl) ?_
          refine smem [.box a0, .box [.raw (.slice none 0 0), .raw (.slice none 0 0), .i .i64 0], .arr 26 1 0 (v3.flatMap (eL eU8)), .arr 82 1 0 (v4.flatMap eGChainChain), .box [.ls 2 v3.length, .ls 3 v4.length, .i .i64 a1]] rfl ?_
          exact eend
        refine alle_f rfl ?_
        exact alle_nil
      refine mnil2 ?_
      refine then_normal ?_
      refine cseq ?_
      refine cseq ?_
      refine cregion ?_
      refine sv rfl (opv_mv rfl) ?_
      refine sv rfl (opv_len_sl si29 rfl) ?_
      refine sv rfl (opv_mv rfl) ?_
      refine snil ?_
      refine cjoin ((List (List UInt8)) × (List GChainChain) × Int) (fun b5 => [(6, .s (.one (.lp 1 0))), (8, .s (.one (.lp 4 0)))]) (fun b5 => [.box a0, .box [.raw (.slice none 0 0), .raw (.slice none 0 0), .i .i64 0], .arr 26 1 0 (b5.1.flatMap (eL eU8)), .arr 82 1 0 (b5.2.1.flatMap eGChainChain), .box [.ls 2 b5.1.length, .ls 3 b5.2.1.length, .i .i64 b5.2.2]]) (fun b5 => m16_store_Install_k5 b5 = some r) (fun _ _ => inbL_of rfl) (fun _ _ => blkinb_of rfl) (fun _ _ => Nat.le_of_ble_eq_true rfl) (fun b5 h => ?_) ?_
      · unfold m16_store_Install_k5 at h
        refine cseq ?_
        refine cseq ?_
        refine cregion ?_
        refine sv rfl (opv_fieldAddr_lp fi36_0 rfl) ?_
        refine sv rfl (opv_load1 ti22 rfl (.lp _ _ _ rfl) rfl) ?_
        refine sv rfl (opv_len_ls si22 rfl rfl (flat_len (f := (eL eU8)) (fun _ => rfl) _).symm) ?_
        refine sv rfl (opv_gtr rfl rfl) ?_
        refine snil ?_
        refine ccond rfl (fun hc => ?_) (fun hc => ?_)
        · replace h := ite_t hc h
          clear hc
          refine cseq ?_
          refine cregion ?_
          refine sv rfl (opv_build zi36 pi36 parts_nil (.nil _)) ?_
          refine sstore sz36 rfl rfl rfl rfl (Nat.le_of_ble_eq_true rfl) ?_
          refine smem [.box a0, .box [.raw (.slice none 0 0), .raw (.slice none 0 0), .i .i64 0], .arr 26 1 0 (b5.1.flatMap (eL eU8)), .arr 82 1 0 (b5.2.1.flatMap eGChainChain), .box [.ls 2 b5.1.length, .ls 3 b5.2.1.length, .i .i64 b5.2.2]] rfl ?_
          refine sv rfl (opv_as rfl) ?_
          refine snil ?_
          refine cret ?_
          refine then_ret ?_
          obtain rfl := Option.some.inj h
          refine ⟨Or.inr rfl, _, _, _, (resVs_cons (ResV.agg _ _ _ _ _ ti36 rfl (.lp _ _ _ rfl) (Nat.le_of_ble_eq_true rfl)) (resVs_cons (ResV.tmp _ _ rfl) resVs_nil)), (pubC rfl), ?_⟩
          rfl
        · replace h := ite_f hc h
          clear hc
          refine cskip ?_
          refine then_normal ?_
          refine cseq ?_
          refine cregion ?_
          refine sv rfl (opv_loadN ti36 rfl (.lp _ _ _ rfl) (Nat.le_of_ble_eq_true rfl)) ?_
          refine sstore sz36 rfl rfl rfl rfl (Nat.le_of_ble_eq_true rfl) ?_
          refine smem [.box a0, .box [.ls 2 b5.1.length, .ls 3 b5.2.1.length, .i .i64 b5.2.2], .arr 26 1 0 (b5.1.flatMap (eL eU8)), .arr 82 1 0 (b5.2.1.flatMap eGChainChain), .box [.ls 2 b5.1.length, .ls 3 b5.2.1.length, .i .i64 b5.2.2]] rfl ?_
          refine sv rfl (opv_as rfl) ?_
          refine snil ?_
          refine cret ?_
          obtain rfl := Option.some.inj h
          refine ⟨Or.inr rfl, _, _, _, (resVs_cons (ResV.agg _ _ _ _ _ ti36 rfl (.lp _ _ _ rfl) (Nat.le_of_ble_eq_true rfl)) (resVs_cons (ResV.tmp _ _ rfl) resVs_nil)), (by (repeat' first | exact PubA.nil _ | apply PubA.cons | apply PubV.one | apply PubV.agg | exact PubL.nil | exact PubL.ls _ _ _ _ _ _ rfl (flat_len (f := (eL eU8)) (fun _ => rfl) _).symm | exact PubL.ls _ _ _ _ _ _ rfl (flat_len (f := eGChainChain) (fun _ => rfl) _).symm | exact PubL.id _ rfl | exact PubLs.nil _ | apply PubLs.cons)), ?_⟩
          rfl
      · skip
        refine cblock ?_
        obtain ⟨x6, hx6, ho6⟩ := bind_eq h
        refine awc_loop (G := Nat × (Int × (List (List UInt8)) × (List GChainChain) × Int)) (fun g => [(6, .s (.one (.lp 1 0))), (8, .s (.one (.lp 4 0))), (37, .s (.one (.sl a2.length (a2.flatMap eGApiWrite)))), (38, .s (.one (.i .i64 (a2.length : Int)))), (39, .s (.one (.i .i64 g.2.1)))]) (fun g => [.box a0, .box [.raw (.slice none 0 0), .raw (.slice none 0 0), .i .i64 0], .arr 26 1 0 (g.2.2.1.flatMap (eL eU8)), .arr 82 1 0 (g.2.2.2.1.flatMap eGChainChain), .box [.ls 2 g.2.2.1.length, .ls 3 g.2.2.2.1.length, .i .i64 g.2.2.2.2]]) (fun g => iterB (m16_store_Install_s6 a2) g.1 g.2 = some x6) (fun g => g.1) (fuel, (0, v3, v4, a1)) hx6 ⟨rfl, rfl, rfl, rfl, rfl, trivial⟩ [] rfl (fun _ _ => inbL_of rfl) (fun _ _ => blkinb_of rfl) (fun _ _ => Nat.le_of_ble_eq_true rfl) ?_
        clear hx6 h
        rintro ⟨n6, s6⟩ h
        obtain ⟨n6, y6, rfl, h, hk6⟩ := iterB_eq h
        unfold m16_store_Install_s6 at h
        refine cseq ?_
        refine cregion ?_
        refine sv rfl (opv_lss rfl rfl) ?_
        refine snil ?_
        refine cseq ?_
        refine ccond rfl (fun hc => ?_) (fun hc => ?_)
        · replace h := ite_t hc h
          clear hc
          refine cskip ?_
          refine then_normal ?_
          refine cseq ?_
          refine cblock ?_
          refine cseq ?_
          refine cregion ?_
          obtain ⟨u7, hu7, h⟩ := bind_eq h
          refine sv rfl (opv_ix (f := eGApiWrite) si29 (fun _ => rfl) rfl rfl rfl rfl hu7) ?_
          refine sv rfl (opv_loadNe (ys := [.sl u7.Key.length (u7.Key.flatMap eU8), .sl u7.Val.length (u7.Val.flatMap eU8), .b u7.Del]) ti67 rfl (.cp _) rfl rfl) ?_
          refine salloc rfl zi67 ?_
          refine sstore sz67 rfl rfl rfl rfl (Nat.le_of_ble_eq_true rfl) ?_
          refine smem [.box a0, .box [.raw (.slice none 0 0), .raw (.slice none 0 0), .i .i64 0], .arr 26 1 0 (s6.2.1.flatMap (eL eU8)), .arr 82 1 0 (s6.2.2.1.flatMap eGChainChain), .box [.ls 2 s6.2.1.length, .ls 3 s6.2.2.1.length, .i .i64 s6.2.2.2], .box u7] rfl ?_
          refine snil ?_
          refine cregion ?_
          refine sv rfl (opv_loadN ti36 rfl (.lp _ _ _ rfl) (Nat.le_of_ble_eq_true rfl)) ?_
          refine sv rfl (opv_loadN ti67 rfl (.lp _ _ _ rfl) (Nat.le_of_ble_eq_true rfl)) ?_
          obtain ⟨v8, hv8, h⟩ := bind_eq h
          refine scallB (x' := .s (.agg [.ls 2 v8.2.1.length, .ls 3 v8.2.2.length, .i .i64 v8.1])) (M' := [.box a0, .box [.raw (.slice none 0 0), .raw (.slice none 0 0), .i .i64 0], .arr 26 1 0 (v8.2.1.flatMap (eL eU8)), .arr 82 1 0 (v8.2.2.flatMap eGChainChain), .box [.ls 2 s6.2.1.length, .ls 3 s6.2.2.1.length, .i .i64 s6.2.2.2], .box u7]) [2, 3] rfl fn45 (.func _) (opnds_cons rfl (opnds_cons rfl opnds_nil)) (m45_store_lays_c hv8) rfl rfl (by decide) rfl rfl rfl ?_
          refine sstore sz36 rfl rfl rfl rfl (Nat.le_of_ble_eq_true rfl) ?_
          refine smem [.box a0, .box [.raw (.slice none 0 0), .raw (.slice none 0 0), .i .i64 0], .arr 26 1 0 (v8.2.1.flatMap (eL eU8)), .arr 82 1 0 (v8.2.2.flatMap eGChainChain), .box [.ls 2 v8.2.1.length, .ls 3 v8.2.2.length, .i .i64 v8.1], .box u7] rfl ?_
          refine snil0 ?_
          refine block_normal ?_
          refine then_normal ?_
          refine cregion ?_
          refine sv rfl (opv_add rfl rfl) ?_
          refine sv rfl (opv_mv rfl) ?_
          refine snil ?_
          obtain rfl := Option.some.inj h
          exact ⟨(n6, ((wI (s6.1 + 1)), v8.2.1, v8.2.2, v8.1)), _, hk6, ⟨rfl, rfl, rfl, rfl, rfl, trivial⟩, rfl, Nat.lt_succ_self _⟩
        · replace h := ite_f hc h
          clear hc
          refine cexit ?_
          refine then_exit ?_
          refine then_exit ?_
          refine block_hit ?_
          refine then_normal ?_
          obtain rfl := Option.some.inj h
          obtain rfl : _ = x6 := hk6
          exact ⟨(s6.2.1, s6.2.2.1, s6.2.2.2), _, ho6, ⟨rfl, rfl, trivial⟩, rfl⟩
    · skip
      refine cregion ?_
      refine sv rfl (opv_mv rfl) ?_
      refine sv rfl (opv_fieldAddr_lp fi36_2 rfl) ?_
      refine sv rfl (opv_load1 ti3 rfl (.lp _ _ _ rfl) rfl) ?_
      refine sv rfl (opv_leq rfl rfl) ?_
      refine sv rfl (opv_mv rfl) ?_
      refine ssplit 24 rfl (fun hc => ?_) (fun hc => ?_)
      · replace h := ite_t hc h
        clear hc
        refine soff rfl rfl rfl rfl ?_
        refine soff rfl rfl rfl rfl ?_
        refine sv rfl (opv_pick_t rfl rfl) ?_
        refine snil ?_
        refine ccond rfl (fun _ => ?_) (fun hx => Bool.noConfusion hx)
        refine cseq ?_
        refine cregion ?_
        refine sv rfl (opv_build zi36 pi36 parts_nil (.nil _)) ?_
        refine sstore sz36 rfl rfl rfl rfl (Nat.le_of_ble_eq_true rfl) ?_
        refine smem [.box a0, .box [.raw (.slice none 0 0), .raw (.slice none 0 0), .i .i64 0]] rfl ?_
        refine sv rfl (opv_as rfl) ?_
        refine snil ?_
        refine cret ?_
        refine then_ret ?_
        obtain rfl := Option.some.inj h
        refine ⟨Or.inr rfl, _, _, _, (resVs_cons (ResV.agg _ _ _ _ _ ti36 rfl (.lp _ _ _ rfl) (Nat.le_of_ble_eq_true rfl)) (resVs_cons (ResV.tmp _ _ rfl) resVs_nil)), (pubC rfl), ?_⟩
        rfl
      · replace h := ite_f hc h
        clear hc
        refine son rfl rfl rfl ?_
        refine sv rfl (opv_mv rfl) ?_
        refine son rfl rfl rfl ?_
        refine sv rfl (opv_gtr rfl rfl) ?_
        refine sv rfl (opv_pick_f rfl rfl) ?_
        refine snil ?_
        refine ccond rfl (fun hc => ?_) (fun hc => ?_)
        · replace h := ite_t hc h
          clear hc
          refine cseq ?_
          refine cregion ?_
          refine sv rfl (opv_build zi36 pi36 parts_nil (.nil _)) ?_
          refine sstore sz36 rfl rfl rfl rfl (Nat.le_of_ble_eq_true rfl) ?_
          refine smem [.box a0, .box [.raw (.slice none 0 0), .raw (.slice none 0 0), .i .i64 0]] rfl ?_
          refine sv rfl (opv_as rfl) ?_
          refine snil ?_
          refine cret ?_
          refine then_ret ?_
          obtain rfl := Option.some.inj h
          refine ⟨Or.inr rfl, _, _, _, (resVs_cons (ResV.agg _ _ _ _ _ ti36 rfl (.lp _ _ _ rfl) (Nat.le_of_ble_eq_true rfl)) (resVs_cons (ResV.tmp _ _ rfl) resVs_nil)), (pubC rfl), ?_⟩
          rfl
        · replace h := ite_f hc h
          clear hc
          refine cskip ?_
          refine then_normal ?_
          exact ⟨(), _, h, ⟨rfl, rfl, rfl, rfl, trivial⟩, rfl⟩
  · skip
    refine cregion ?_
    refine sv rfl (opv_loadN ti36 rfl (.lp _ _ _ rfl) (Nat.le_of_ble_eq_true rfl)) ?_
    obtain ⟨v10, hv10, h⟩ := bind_eq h
    refine scall1 rfl fn23 (opnds_cons rfl opnds_nil) (pubA_id rfl) (m23_store_Sane_c hv10) ?_
    refine sv rfl (opv_not rfl) ?_
    refine sv rfl (opv_mv rfl) ?_
    refine ssplit 14 rfl (fun hc => ?_) (fun hc => ?_)
    · replace h := ite_t hc h
      clear hc
      refine soff rfl rfl rfl rfl ?_
      refine soff rfl rfl rfl rfl ?_
      refine soff rfl rfl rfl rfl ?_
      refine sv rfl (opv_pick_t rfl rfl) ?_
      refine snil ?_
      refine ccond rfl (fun _ => ?_) (fun hx => Bool.noConfusion hx)
      refine cseq ?_
      refine cregion ?_
      refine sv rfl (opv_build zi36 pi36 parts_nil (.nil _)) ?_
      refine sstore sz36 rfl rfl rfl rfl (Nat.le_of_ble_eq_true rfl) ?_
      refine smem [.box a0, .box [.raw (.slice none 0 0), .raw (.slice none 0 0), .i .i64 0]] rfl ?_
      refine sv rfl (opv_as rfl) ?_
      refine snil ?_
      refine cret ?_
      refine then_ret ?_
      obtain rfl := Option.some.inj h
      refine ⟨Or.inr rfl, _, _, _, (resVs_cons (ResV.agg _ _ _ _ _ ti36 rfl (.lp _ _ _ rfl) (Nat.le_of_ble_eq_true rfl)) (resVs_cons (ResV.tmp _ _ rfl) resVs_nil)), (pubC rfl), ?_⟩
      rfl
    · replace h := ite_f hc h
      clear hc
      refine son rfl rfl rfl ?_
      refine sv rfl (opv_mv rfl) ?_
      refine son rfl rfl rfl ?_
      obtain ⟨v11, hv11, h⟩ := bind_eq h
      refine scall1 rfl fn42 (opnds_cons rfl opnds_nil) (pubA_id rfl) (m42_store_saneWrites_c hv11) ?_
      refine son rfl rfl rfl ?_
      refine sv rfl (opv_not rfl) ?_
      refine sv rfl (opv_pick_f rfl rfl) ?_
      refine snil ?_
      refine ccond rfl (fun hc => ?_) (fun hc => ?_)
      · replace h := ite_t hc h
        clear hc
        refine cseq ?_
        refine cregion ?_
        refine sv rfl (opv_build zi36 pi36 parts_nil (.nil _)) ?_
        refine sstore sz36 rfl rfl rfl rfl (Nat.le_of_ble_eq_true rfl) ?_
        refine smem [.box a0, .box [.raw (.slice none 0 0), .raw (.slice none 0 0), .i .i64 0]] rfl ?_
        refine sv rfl (opv_as rfl) ?_
        refine snil ?_
        refine cret ?_
        refine then_ret ?_
        obtain rfl := Option.some.inj h
        refine ⟨Or.inr rfl, _, _, _, (resVs_cons (ResV.agg _ _ _ _ _ ti36 rfl (.lp _ _ _ rfl) (Nat.le_of_ble_eq_true rfl)) (resVs_cons (ResV.tmp _ _ rfl) resVs_nil)), (pubC rfl), ?_⟩
        rfl
      · replace h := ite_f hc h
        clear hc
        refine cskip ?_
        refine then_normal ?_
        exact ⟨(), _, h, ⟨rfl, rfl, rfl, rfl, trivial⟩, rfl⟩

def m61_slices_IndexFuncs1_k1 (b1 : Unit) : Option Int :=
  some (-1)

def m61_slices_IndexFuncs1_s2 (a0 : List (List UInt8)) (a1 : List UInt8) (s2 : Int) : Option (LR (Int) (Unit) (Int)) :=
  if (decide (s2 < (a0.length : Int))) then ((idx a0 s2).bind fun u3 => (m62_keys_key_reacheds a1 u3).bind fun v4 => if v4 then (some (.ret s2)) else (some (.cont (wI (s2 + 1))))) else (some (.brk ()))
def m61_slices_IndexFuncs1 (a0 : List (List UInt8)) (a1 : List UInt8) : Option Int :=
  (iter (m61_slices_IndexFuncs1_s2 a0 a1) fuel 0).bind fun x => match x with | .inl r => some r | .inr e5 => m61_slices_IndexFuncs1_k1 e5

set_option maxRecDepth 100000 in
theorem m61_slices_IndexFuncs1_c {a0 : List (List UInt8)} {a1 : List UInt8} {r : Int} (h : m61_slices_IndexFuncs1 a0 a1 = some r) : CallsA Try.prog 61 [.one (.sl a0.length (a0.flatMap (eL eU8))), .one (.fn 62 [.sl a1.length (a1.flatMap eU8)] [])] (· = .s (.one (.i .i64 r))) := by
  unfold m61_slices_IndexFuncs1 at h
  refine callsA_of Try.func61 rfl (nt := 19) rfl (Nat.le_of_ble_eq_true rfl) ?_
  intro w0 S0
  refine cseq ?_
  refine cregion ?_
  refine sv rfl (opv_as rfl) ?_
  refine snil ?_
  refine cseq ?_
  refine cseq ?_
  refine cregion ?_
  refine sv rfl (opv_mv rfl) ?_
  refine sv rfl (opv_len_sl si22 rfl) ?_
  refine sv rfl (opv_mv rfl) ?_
  refine snil ?_
  refine cjoin (Unit) (fun b1 => []) (fun b1 => []) (fun b1 => m61_slices_IndexFuncs1_k1 b1 = some r) (fun _ _ => inbL_of rfl) (fun _ _ => blkinb_of rfl) (fun _ _ => Nat.le_of_ble_eq_true rfl) (fun b1 h => ?_) ?_
  · unfold m61_slices_IndexFuncs1_k1 at h
    refine cseq ?_
    refine cregion ?_
    refine sv rfl (opv_as rfl) ?_
    refine snil ?_
    refine cret ?_
    obtain rfl := Option.some.inj h
    refine ⟨Or.inr rfl, _, _, _, (resVs_cons (ResV.tmp _ _ rfl) resVs_nil), (pubA_id rfl), ?_⟩
    rfl
  · skip
    refine cblock ?_
    obtain ⟨x2, hx2, ho2⟩ := bind_eq h
    refine awc_loop (G := Nat × (Int)) (fun g => [(0, .s (.one (.sl a0.length (a0.flatMap (eL eU8))))), (1, .s (.one (.fn 62 [.sl a1.length (a1.flatMap eU8)] []))), (7, .s (.one (.i .i64 (a0.length : Int)))), (8, .s (.one (.i .i64 g.2)))]) (fun g => []) (fun g => iter (m61_slices_IndexFuncs1_s2 a0 a1) g.1 g.2 = some x2) (fun g => g.1) (fuel, 0) hx2 ⟨rfl, rfl, rfl, rfl, trivial⟩ [] rfl (fun _ _ => inbL_of rfl) (fun _ _ => blkinb_of rfl) (fun _ _ => Nat.le_of_ble_eq_true rfl) ?_
    clear hx2 h
    rintro ⟨n2, s2⟩ h
    obtain ⟨n2, y2, rfl, h, hk2⟩ := iter_eq h
    unfold m61_slices_IndexFuncs1_s2 at h
    refine cseq ?_
    refine cregion ?_
    refine sv rfl (opv_lss rfl rfl) ?_
    refine snil ?_
    refine cseq ?_
    refine ccond rfl (fun hc => ?_) (fun hc => ?_)
    · replace h := ite_t hc h
      clear hc
      refine cskip ?_
      refine then_normal ?_
      refine cseq ?_
      refine cblock ?_
      refine cseq ?_
      refine cregion ?_
      refine sv rfl (opv_mv rfl) ?_
      refine sv rfl (opv_as rfl) ?_
      refine snil ?_
      refine cseq ?_
      refine cregion ?_
      refine sv rfl (opv_mv rfl) ?_
      refine sv rfl (opv_mv rfl) ?_
      refine sv rfl (opv_mv rfl) ?_
      obtain ⟨u3, hu3, h⟩ := bind_eq h
      refine sv rfl (opv_ix (f := (eL eU8)) si22 (fun _ => rfl) rfl rfl rfl rfl hu3) ?_
      refine sv rfl (opv_load1 ti26 rfl (.cp _) rfl) ?_
      obtain ⟨v4, hv4, h⟩ := bind_eq h
      refine sd rfl (opD_callC fn62 (.fn _ _ _ _ rfl) (opnds_cons rfl opnds_nil) rfl (m62_keys_key_reacheds_c hv4)) ?_
      refine snil ?_
      refine ccond rfl (fun hc => ?_) (fun hc => ?_)
      · replace h := ite_t hc h
        clear hc
        refine cseq ?_
        refine cregion ?_
        refine sv rfl (opv_mv rfl) ?_
        refine sv rfl (opv_as rfl) ?_
        refine snil ?_
        refine cret ?_
        refine block_ret ?_
        refine then_ret ?_
        refine then_ret ?_
        refine block_ret ?_
        refine then_ret ?_
        obtain rfl := Option.some.inj h
        obtain rfl : Sum.inl _ = x2 := hk2
        replace ho2 : some _ = some _ := ho2
        obtain rfl := Option.some.inj ho2
        refine ⟨Or.inr rfl, _, _, _, (resVs_cons (ResV.tmp _ _ rfl) resVs_nil), (pubA_id rfl), ?_⟩
        rfl
      · replace h := ite_f hc h
        clear hc
        refine cskip ?_
        refine block_normal ?_
        refine then_normal ?_
        refine cregion ?_
        refine sv rfl (opv_add rfl rfl) ?_
        refine sv rfl (opv_mv rfl) ?_
        refine snil ?_
        obtain rfl := Option.some.inj h
        exact ⟨(n2, (wI (s2 + 1))), _, hk2, ⟨rfl, rfl, rfl, rfl, trivial⟩, rfl, Nat.lt_succ_self _⟩
    · replace h := ite_f hc h
      clear hc
      refine cexit ?_
      refine then_exit ?_
      refine then_exit ?_
      refine block_hit ?_
      refine then_normal ?_
      obtain rfl := Option.some.inj h
      obtain rfl : _ = x2 := hk2
      exact ⟨(), _, ho2, trivial, rfl⟩

def m38_keys_Find (a0 : List (List UInt8)) (a1 : List UInt8) : Option (Int × Bool) :=
  (m61_slices_IndexFuncs1 a0 a1).bind fun v1 => if (decide (v1 < 0)) then (some ((a0.length : Int), false)) else ((idx a0 v1).bind fun u2 => (m63_bytes_Equal u2 a1).bind fun v3 => some (v1, v3))

set_option maxRecDepth 100000 in
theorem m38_keys_Find_c {a0 : List (List UInt8)} {a1 : List UInt8} {r : Int × Bool} (h : m38_keys_Find a0 a1 = some r) : CallsA Try.prog 38 [.one (.sl a0.length (a0.flatMap (eL eU8))), .one (.sl a1.length (a1.flatMap eU8))] (· = .tup [.one (.i .i64 r.1), .one (.b r.2)]) := by
  unfold m38_keys_Find at h
  refine callsA_of Try.func38 rfl (nt := 22) rfl (Nat.le_of_ble_eq_true rfl) ?_
  intro w0 S0
  refine cseq ?_
  refine cregion ?_
  refine sv rfl (opv_as rfl) ?_
  refine sv rfl (opv_as rfl) ?_
  refine snil ?_
  refine cseq ?_
  refine cregion ?_
  refine sv rfl (opv_mv rfl) ?_
  refine sv rfl (opv_mv rfl) ?_
  refine sv rfl (opv_makeFunc (opnds1_cons rfl rfl opnds1_nil) opnds1_nil) ?_
  obtain ⟨v1, hv1, h⟩ := bind_eq h
  refine sd rfl (opD_callC fn61 (.func _) (opnds_cons rfl (opnds_cons rfl opnds_nil)) rfl (m61_slices_IndexFuncs1_c hv1)) ?_
  refine sv rfl (opv_as rfl) ?_
  refine snil ?_
  refine cseq ?_
  refine cseq ?_
  refine cregion ?_
  refine sv rfl (opv_mv rfl) ?_
  refine sv rfl (opv_lss rfl rfl) ?_
  refine snil ?_
  refine ccond rfl (fun hc => ?_) (fun hc => ?_)
  · replace h := ite_t hc h
    clear hc
    refine cseq ?_
    refine cregion ?_
    refine sv rfl (opv_mv rfl) ?_
    refine sv rfl (opv_len_sl si22 rfl) ?_
    refine sv rfl (opv_as rfl) ?_
    refine sv rfl (opv_as rfl) ?_
    refine snil ?_
    refine cret ?_
    refine then_ret ?_
    obtain rfl := Option.some.inj h
    refine ⟨Or.inr rfl, _, _, _, (resVs_cons (ResV.tmp _ _ rfl) (resVs_cons (ResV.tmp _ _ rfl) resVs_nil)), (pubA_id rfl), ?_⟩
    rfl
  · replace h := ite_f hc h
    clear hc
    refine cskip ?_
    refine then_normal ?_
    refine cseq ?_
    refine cregion ?_
    refine sv rfl (opv_mv rfl) ?_
    refine sv rfl (opv_mv rfl) ?_
    refine sv rfl (opv_mv rfl) ?_
    obtain ⟨u2, hu2, h⟩ := bind_eq h
    refine sv rfl (opv_ix (f := (eL eU8)) si22 (fun _ => rfl) rfl rfl rfl rfl hu2) ?_
    refine sv rfl (opv_load1 ti26 rfl (.cp _) rfl) ?_
    refine sv rfl (opv_mv rfl) ?_
    obtain ⟨v3, hv3, h⟩ := bind_eq h
    refine scall1 rfl fn63 (opnds_cons rfl (opnds_cons rfl opnds_nil)) (pubA_id rfl) (m63_bytes_Equal_c hv3) ?_
    refine sv rfl (opv_as rfl) ?_
    refine sv rfl (opv_as rfl) ?_
    refine snil ?_
    refine cret ?_
    obtain rfl := Option.some.inj h
    refine ⟨Or.inr rfl, _, _, _, (resVs_cons (ResV.tmp _ _ rfl) (resVs_cons (ResV.tmp _ _ rfl) resVs_nil)), (pubA_id rfl), ?_⟩
    rfl

def m76_chain_seen_r1 (a1 : Int) (s1 : Int) (x1 : Int × GChainVer) : Option ((Int) ⊕ (Nat × (Int))) :=
  if (decide (x1.2.Ts ≤ a1)) then (some (.inr (0, x1.1))) else (some (.inl s1))

def m76_chain_seen_k2 (s2 : Int) : Option Int :=
  some (-1)

def m76_chain_seen_k3 (s3 : Int) : Option Int :=
  some s3
def m76_chain_seen (a0 : GChainChain) (a1 : Int) : Option Int :=
  (it85 a0).bind fun L1 => (rangeL (m76_chain_seen_r1 a1) L1 0).bind fun e => rangeK m76_chain_seen_k2 m76_chain_seen_k3 (fun _ _ => none) e

set_option maxRecDepth 100000 in
theorem m76_chain_seen_c {a0 : GChainChain} {a1 : Int} {r : Int} (h : m76_chain_seen a0 a1 = some r) : CallsA Try.prog 76 [.agg [.sl a0.L.length (a0.L.flatMap eGChainVer)], .one (.i .i64 a1)] (· = .s (.one (.i .i64 r))) := by
  unfold m76_chain_seen at h
  refine callsA_ofI Try.func76 rfl (nt := 16) rfl (Nat.le_of_ble_eq_true rfl) ?_
  intro w0 S0
  refine iseq ?_
  refine iregion rfl (fun w0 S0 X0 m0 H0 => ?_)
  refine sboxc rfl rfl rfl ?_
  refine sboxc rfl rfl rfl ?_
  refine salloc rfl zi3 ?_
  refine snil ?_
  refine iseq ?_
  refine iseq ?_
  refine iregion rfl (fun w0 S0 X0 m0 H0 => ?_)
  refine sv rfl (opv_loadNe (ys := [.sl a0.L.length (a0.L.flatMap eGChainVer)]) ti82 rfl (.cp _) rfl rfl) ?_
  refine scall1 rfl fn74 (opnds_cons rfl opnds_nil) (pubA_id rfl) m74_chain_backward_c ?_
  refine snil ?_
  refine iblock ?_
  obtain ⟨L1, hL1, h⟩ := bind_eq h
  obtain ⟨e1, he1, h⟩ := bind_eq h
  refine irangeL (m76_chain_seen_r1 a1) L1 (fun x1 => .one (.i .i64 x1.1)) (fun x1 => .agg x1.2) (fun s1 => [.box [.i .i64 s1]]) 0 he1 rfl fn85 rfl (it85_c hL1) rfl rfl rfl (fun _ => rfl) (fun _ => blkinb_of rfl) ?_ ?_ ?_ ?_
  · clear h
    intro x1 s1 y1 l h w0 S0 X0 H0
    unfold m76_chain_seen_r1 at h
    refine iseq ?_
    refine iregion rfl (fun w0 S0 X0 m0 H0 => ?_)
    refine sv rfl (opv_as rfl) ?_
    refine snil ?_
    refine iregion rfl (fun w0 S0 X0 m0 H0 => ?_)
    refine salloc rfl zi85 ?_
    refine sstore sz85 rfl rfl rfl rfl (Nat.le_of_ble_eq_true rfl) ?_
    refine smem [.box [.i .i64 s1], .box x1.2] rfl ?_
    refine snil ?_
    refine fun w0 S0 X0 H0 => ?_
    refine iblock ?_
    refine iseq ?_
    refine iregion rfl (fun w0 S0 X0 m0 H0 => ?_)
    refine sv rfl (opv_fieldAddr_lp fi85_0 rfl) ?_
    refine sv rfl (opv_load1 ti3 rfl (.lp _ _ _ rfl) rfl) ?_
    refine sv rfl (opv_load1 ti3 rfl (.cp _) rfl) ?_
    refine sv rfl (opv_leq rfl rfl) ?_
    refine snil ?_
    refine icond rfl (fun hc => ?_) (fun hc => ?_)
    · replace h := ite_t hc h
      clear hc
      refine iseq ?_
      refine iregion rfl (fun w0 S0 X0 m0 H0 => ?_)
      refine sv rfl (opv_mv rfl) ?_
      refine sstore sz3 rfl rfl rfl rfl (Nat.le_of_ble_eq_true rfl) ?_
      refine smem [.box [.i .i64 x1.1], .box x1.2] rfl ?_
      refine snil ?_
      refine iret ?_
      refine block_ret ?_
      obtain rfl := Option.some.inj h
      exact ⟨x1.1, _, rfl, rfl⟩
    · replace h := ite_f hc h
      clear hc
      refine iskip ?_
      refine block_normal ?_
      obtain rfl := Option.some.inj h
      exact ⟨s1, _, rfl, rfl⟩
  · intro s2 hs
    obtain rfl := hs
    replace h : m76_chain_seen_k2 s2 = some r := h
    unfold m76_chain_seen_k2 at h
    refine block_normal ?_
    refine then_normal ?_
    refine iseq ?_
    refine iregion rfl (fun w0 S0 X0 m0 H0 => ?_)
    refine sstore sz3 rfl rfl rfl rfl (Nat.le_of_ble_eq_true rfl) ?_
    refine smem [.box [.i .i64 (-1)]] rfl ?_
    refine snil ?_
    refine iret ?_
    obtain rfl := Option.some.inj h
    refine ⟨Or.inr rfl, _, _, _, (resVs_cons (ResV.one _ _ _ _ _ ti3 rfl (.lp _ _ _ rfl) rfl) resVs_nil), (pubA_id rfl), ?_⟩
    rfl
  · intro s3 hs
    obtain rfl := hs
    replace h : m76_chain_seen_k3 s3 = some r := h
    unfold m76_chain_seen_k3 at h
    refine block_ret ?_
    refine then_ret ?_
    obtain rfl := Option.some.inj h
    refine ⟨Or.inr rfl, _, _, _, (resVs_cons (ResV.one _ _ _ _ _ ti3 rfl (.lp _ _ _ rfl) rfl) resVs_nil), (pubA_id rfl), ?_⟩
    rfl
  · intro id s hs
    obtain rfl := hs
    replace h : none = some r := h
    cases h

def m64_chain_At (a0 : GChainChain) (a1 : Int) : Option (GChainVer × Bool) :=
  (m76_chain_seen a0 a1).bind fun v1 => if (decide (v1 < 0)) then (some ((GChainVer.mk 0 ([] : List UInt8) false), false)) else ((idx a0.L v1).bind fun u2 => some (u2, true))

set_option maxRecDepth 100000 in
theorem m64_chain_At_c {a0 : GChainChain} {a1 : Int} {r : GChainVer × Bool} (h : m64_chain_At a0 a1 = some r) : CallsA Try.prog 64 [.agg [.sl a0.L.length (a0.L.flatMap eGChainVer)], .one (.i .i64 a1)] (· = .tup [.agg r.1, .one (.b r.2)]) := by
  unfold m64_chain_At at h
  refine callsA_of Try.func64 rfl (nt := 18) rfl (Nat.le_of_ble_eq_true rfl) ?_
  intro w0 S0
  refine cseq ?_
  refine cregion ?_
  refine sbox rfl rfl ?_
  refine salloc rfl zi85 ?_
  refine sv rfl (opv_as rfl) ?_
  refine snil ?_
  refine cseq ?_
  refine cregion ?_
  refine sv rfl (opv_loadN ti82 rfl (.lp _ _ _ rfl) (Nat.le_of_ble_eq_true rfl)) ?_
  refine sv rfl (opv_mv rfl) ?_
  obtain ⟨v1, hv1, h⟩ := bind_eq h
  refine scall1 rfl fn76 (opnds_cons rfl (opnds_cons rfl opnds_nil)) (pubA_id rfl) (m76_chain_seen_c hv1) ?_
  refine sv rfl (opv_as rfl) ?_
  refine snil ?_
  refine cseq ?_
  refine cseq ?_
  refine cregion ?_
  refine sv rfl (opv_mv rfl) ?_
  refine sv rfl (opv_lss rfl rfl) ?_
  refine snil ?_
  refine ccond rfl (fun hc => ?_) (fun hc => ?_)
  · replace h := ite_t hc h
    clear hc
    refine cseq ?_
    refine cregion ?_
    refine sv rfl (opv_build zi85 pi85 parts_nil (.nil _)) ?_
    refine sstore sz85 rfl rfl rfl rfl (Nat.le_of_ble_eq_true rfl) ?_
    refine smem [.box [.sl a0.L.length (a0.L.flatMap eGChainVer)], .box [.i .i64 0, .raw (.slice none 0 0), .b false]] rfl ?_
    refine sv rfl (opv_as rfl) ?_
    refine snil ?_
    refine cret ?_
    refine then_ret ?_
    obtain rfl := Option.some.inj h
    refine ⟨Or.inr rfl, _, _, _, (resVs_cons (ResV.agg _ _ _ _ _ ti85 rfl (.lp _ _ _ rfl) (Nat.le_of_ble_eq_true rfl)) (resVs_cons (ResV.tmp _ _ rfl) resVs_nil)), (pubC rfl), ?_⟩
    rfl
  · replace h := ite_f hc h
    clear hc
    refine cskip ?_
    refine then_normal ?_
    refine cseq ?_
    refine cregion ?_
    refine sv rfl (opv_fieldAddr_lp fi82_0 rfl) ?_
    refine sv rfl (opv_load1 ti80 rfl (.lp _ _ _ rfl) rfl) ?_
    refine sv rfl (opv_mv rfl) ?_
    obtain ⟨u2, hu2, h⟩ := bind_eq h
    refine sv rfl (opv_ix (f := eGChainVer) si80 (fun _ => rfl) rfl rfl rfl rfl hu2) ?_
    refine sv rfl (opv_loadNe (ys := [.i .i64 u2.Ts, .sl u2.Val.length (u2.Val.flatMap eU8), .b u2.Del]) ti85 rfl (.cp _) rfl rfl) ?_
    refine sstore sz85 rfl rfl rfl rfl (Nat.le_of_ble_eq_true rfl) ?_
    refine smem [.box [.sl a0.L.length (a0.L.flatMap eGChainVer)], .box u2] rfl ?_
    refine sv rfl (opv_as rfl) ?_
    refine snil ?_
    refine cret ?_
    obtain rfl := Option.some.inj h
    refine ⟨Or.inr rfl, _, _, _, (resVs_cons (ResV.agg _ _ _ _ _ ti85 rfl (.lp _ _ _ rfl) (Nat.le_of_ble_eq_true rfl)) (resVs_cons (ResV.tmp _ _ rfl) resVs_nil)), (pubA_id rfl), ?_⟩
    rfl

def m39_chain_Value_k2 (v1 : GChainVer × Bool) (b2 : Unit) : Option ((List UInt8) × Bool) :=
  some (v1.1.Val, true)
def m39_chain_Value (a0 : GChainChain) (a1 : Int) : Option ((List UInt8) × Bool) :=
  (m64_chain_At a0 a1).bind fun v1 => if (!v1.2) then (some (([] : List UInt8), false)) else (if v1.1.Del then (some (([] : List UInt8), false)) else (m39_chain_Value_k2 v1 ()))

set_option maxRecDepth 100000 in
theorem m39_chain_Value_c {a0 : GChainChain} {a1 : Int} {r : (List UInt8) × Bool} (h : m39_chain_Value a0 a1 = some r) : CallsA Try.prog 39 [.agg [.sl a0.L.length (a0.L.flatMap eGChainVer)], .one (.i .i64 a1)] (· = .tup [.one (.sl r.1.length (r.1.flatMap eU8)), .one (.b r.2)]) := by
  unfold m39_chain_Value at h
  refine callsA_of Try.func39 rfl (nt := 22) rfl (Nat.le_of_ble_eq_true rfl) ?_
  intro w0 S0
  refine cseq ?_
  refine cregion ?_
  refine sbox rfl rfl ?_
  refine sv rfl (opv_as rfl) ?_
  refine sv rfl (opv_as rfl) ?_
  refine snil ?_
  refine cseq ?_
  refine cregion ?_
  refine sv rfl (opv_loadN ti82 rfl (.lp _ _ _ rfl) (Nat.le_of_ble_eq_true rfl)) ?_
  refine sv rfl (opv_mv rfl) ?_
  obtain ⟨v1, hv1, h⟩ := bind_eq h
  refine scall1 rfl fn64 (opnds_cons rfl (opnds_cons rfl opnds_nil)) (pubA_id rfl) (m64_chain_At_c hv1) ?_
  refine sv rfl (opv_mvt rfl) ?_
  refine sv rfl (opv_extract rfl rfl) ?_
  refine sv rfl (opv_extract rfl rfl) ?_
  refine salloc rfl zi85 ?_
  refine sstore sz85 rfl rfl rfl rfl (Nat.le_of_ble_eq_true rfl) ?_
  refine smem [.box [.sl a0.L.length (a0.L.flatMap eGChainVer)], .box v1.1] rfl ?_
  refine sv rfl (opv_as rfl) ?_
  refine snil ?_
  refine cseq ?_
  refine cseq ?_
  refine cjoin3 (Unit) (fun b2 => [(6, .s (.one (.lp 1 0)))]) (fun b2 => [.box [.sl a0.L.length (a0.L.flatMap eGChainVer)], .box v1.1]) (fun b2 => m39_chain_Value_k2 v1 b2 = some r) (fun _ _ => inbL_of rfl) (fun _ _ => blkinb_of rfl) (fun _ _ => Nat.le_of_ble_eq_true rfl) (fun b2 h => ?_) ?_
  · unfold m39_chain_Value_k2 at h
    refine cseq ?_
    refine cregion ?_
    refine sv rfl (opv_fieldAddr_lp fi85_1 rfl) ?_
    refine sv rfl (opv_load1 ti26 rfl (.lp _ _ _ rfl) rfl) ?_
    refine sv rfl (opv_as rfl) ?_
    refine sv rfl (opv_as rfl) ?_
    refine snil ?_
    refine cret ?_
    obtain rfl := Option.some.inj h
    refine ⟨Or.inr rfl, _, _, _, (resVs_cons (ResV.tmp _ _ rfl) (resVs_cons (ResV.tmp _ _ rfl) resVs_nil)), (pubA_id rfl), ?_⟩
    rfl
  · skip
    refine cregion ?_
    refine sv rfl (opv_mv rfl) ?_
    refine sv rfl (opv_not rfl) ?_
    refine sv rfl (opv_mv rfl) ?_
    refine ssplit 16 rfl (fun hc => ?_) (fun hc => ?_)
    · replace h := ite_t hc h
      clear hc
      refine soff rfl rfl rfl rfl ?_
      refine soff rfl rfl rfl rfl ?_
      refine sv rfl (opv_pick_t rfl rfl) ?_
      refine snil ?_
      refine ccond rfl (fun _ => ?_) (fun hx => Bool.noConfusion hx)
      refine cseq ?_
      refine cregion ?_
      refine sv rfl (opv_as rfl) ?_
      refine sv rfl (opv_as rfl) ?_
      refine snil ?_
      refine cret ?_
      refine then_ret ?_
      obtain rfl := Option.some.inj h
      refine ⟨Or.inr rfl, _, _, _, (resVs_cons (ResV.tmp _ _ rfl) (resVs_cons (ResV.tmp _ _ rfl) resVs_nil)), (pubC rfl), ?_⟩
      rfl
    · replace h := ite_f hc h
      clear hc
      refine son rfl rfl rfl ?_
      refine sv rfl (opv_fieldAddr_lp fi85_2 rfl) ?_
      refine son rfl rfl rfl ?_
      refine sv rfl (opv_load1 ti4 rfl (.lp _ _ _ rfl) rfl) ?_
      refine sv rfl (opv_pick_f rfl rfl) ?_
      refine snil ?_
      refine ccond rfl (fun hc => ?_) (fun hc => ?_)
      · replace h := ite_t hc h
        clear hc
        refine cseq ?_
        refine cregion ?_
        refine sv rfl (opv_as rfl) ?_
        refine sv rfl (opv_as rfl) ?_
        refine snil ?_
        refine cret ?_
        refine then_ret ?_
        obtain rfl := Option.some.inj h
        refine ⟨Or.inr rfl, _, _, _, (resVs_cons (ResV.tmp _ _ rfl) (resVs_cons (ResV.tmp _ _ rfl) resVs_nil)), (pubC rfl), ?_⟩
        rfl
      · replace h := ite_f hc h
        clear hc
        refine cskip ?_
        refine then_normal ?_
        exact ⟨(), _, h, ⟨rfl, trivial⟩, rfl⟩

def m14_store_Get_k2 (a0 : GStoreStore) (a2 : Int) (v1 : Int × Bool) (b2 : Unit) : Option ((List UInt8) × Bool) :=
  (idx a0.Chains v1.1).bind fun u3 => (m39_chain_Value u3 a2).bind fun v4 => some (v4.1, v4.2)
def m14_store_Get (a0 : GStoreStore) (a1 : List UInt8) (a2 : Int) : Option ((List UInt8) × Bool) :=
  (m38_keys_Find a0.Keys a1).bind fun v1 => if (!v1.2) then (some (([] : List UInt8), false)) else ((m23_store_Sane (GStoreStore.mk a0.Keys a0.Chains a0.Ts)).bind fun v5 => if (!v5) then (some (([] : List UInt8), false)) else (m14_store_Get_k2 a0 a2 v1 ()))

set_option maxRecDepth 100000 in
theorem m14_store_Get_c {a0 : GStoreStore} {a1 : List UInt8} {a2 : Int} {r : (List UInt8) × Bool} (h : m14_store_Get a0 a1 a2 = some r) : CallsA Try.prog 14 [.agg a0, .one (.sl a1.length (a1.flatMap eU8)), .one (.i .i64 a2)] (· = .tup [.one (.sl r.1.length (r.1.flatMap eU8)), .one (.b r.2)]) := by
  unfold m14_store_Get at h
  refine callsA_of Try.func14 rfl (nt := 33) rfl (Nat.le_of_ble_eq_true rfl) ?_
  intro w0 S0
  refine cseq ?_
  refine cregion ?_
  refine sbox rfl rfl ?_
  refine sv rfl (opv_as rfl) ?_
  refine sv rfl (opv_as rfl) ?_
  refine snil ?_
  refine cseq ?_
  refine cregion ?_
  refine sv rfl (opv_fieldAddr_lp fi36_0 rfl) ?_
  refine sv rfl (opv_load1 ti22 rfl (.lp _ _ _ rfl) rfl) ?_
  refine sv rfl (opv_mv rfl) ?_
  obtain ⟨v1, hv1, h⟩ := bind_eq h
  refine scall1 rfl fn38 (opnds_cons rfl (opnds_cons rfl opnds_nil)) (pubA_id rfl) (m38_keys_Find_c hv1) ?_
  refine sv rfl (opv_mvt rfl) ?_
  refine sv rfl (opv_extract rfl rfl) ?_
  refine sv rfl (opv_extract rfl rfl) ?_
  refine sv rfl (opv_as rfl) ?_
  refine sv rfl (opv_as rfl) ?_
  refine snil ?_
  refine cseq ?_
  refine cseq ?_
  refine cjoin3 (Unit) (fun b2 => [(2, .s (.one (.i .i64 a2))), (3, .s (.one (.lp 0 0))), (8, .s (.one (.i .i64 v1.1)))]) (fun b2 => [.box a0]) (fun b2 => m14_store_Get_k2 a0 a2 v1 b2 = some r) (fun _ _ => inbL_of rfl) (fun _ _ => blkinb_of rfl) (fun _ _ => Nat.le_of_ble_eq_true rfl) (fun b2 h => ?_) ?_
  · unfold m14_store_Get_k2 at h
    refine cseq ?_
    refine cregion ?_
    refine sv rfl (opv_fieldAddr_lp fi36_1 rfl) ?_
    refine sv rfl (opv_load1 ti34 rfl (.lp _ _ _ rfl) rfl) ?_
    refine sv rfl (opv_mv rfl) ?_
    obtain ⟨u3, hu3, h⟩ := bind_eq h
    refine sv rfl (opv_ix (f := eGChainChain) si34 (fun _ => rfl) rfl rfl rfl rfl hu3) ?_
    refine sv rfl (opv_loadNe (ys := [.sl u3.L.length (u3.L.flatMap eGChainVer)]) ti82 rfl (.cp _) rfl rfl) ?_
    refine sv rfl (opv_mv rfl) ?_
    obtain ⟨v4, hv4, h⟩ := bind_eq h
    refine scall1 rfl fn39 (opnds_cons rfl (opnds_cons rfl opnds_nil)) (pubA_id rfl) (m39_chain_Value_c hv4) ?_
    refine sv rfl (opv_extract rfl rfl) ?_
    refine sv rfl (opv_extract rfl rfl) ?_
    refine sv rfl (opv_as rfl) ?_
    refine sv rfl (opv_as rfl) ?_
    refine snil ?_
    refine cret ?_
    obtain rfl := Option.some.inj h
    refine ⟨Or.inr rfl, _, _, _, (resVs_cons (ResV.tmp _ _ rfl) (resVs_cons (ResV.tmp _ _ rfl) resVs_nil)), (pubA_id rfl), ?_⟩
    rfl
  · skip
    refine cregion ?_
    refine sv rfl (opv_mv rfl) ?_
    refine sv rfl (opv_not rfl) ?_
    refine sv rfl (opv_mv rfl) ?_
    refine ssplit 19 rfl (fun hc => ?_) (fun hc => ?_)
    · replace h := ite_t hc h
      clear hc
      refine soff rfl rfl rfl rfl ?_
      refine soff rfl rfl rfl rfl ?_
      refine soff rfl rfl rfl rfl ?_
      refine sv rfl (opv_pick_t rfl rfl) ?_
      refine snil ?_
      refine ccond rfl (fun _ => ?_) (fun hx => Bool.noConfusion hx)
      refine cseq ?_
      refine cregion ?_
      refine sv rfl (opv_as rfl) ?_
      refine sv rfl (opv_as rfl) ?_
      refine snil ?_
      refine cret ?_
      refine then_ret ?_
      obtain rfl := Option.some.inj h
      refine ⟨Or.inr rfl, _, _, _, (resVs_cons (ResV.tmp _ _ rfl) (resVs_cons (ResV.tmp _ _ rfl) resVs_nil)), (pubC rfl), ?_⟩
      rfl
    · replace h := ite_f hc h
      clear hc
      refine son rfl rfl rfl ?_
      refine sv rfl (opv_loadN ti36 rfl (.lp _ _ _ rfl) (Nat.le_of_ble_eq_true rfl)) ?_
      refine son rfl rfl rfl ?_
      obtain ⟨v5, hv5, h⟩ := bind_eq h
      refine scall1 rfl fn23 (opnds_cons rfl opnds_nil) (pubA_id rfl) (m23_store_Sane_c hv5) ?_
      refine son rfl rfl rfl ?_
      refine sv rfl (opv_not rfl) ?_
      refine sv rfl (opv_pick_f rfl rfl) ?_
      refine snil ?_
      refine ccond rfl (fun hc => ?_) (fun hc => ?_)
      · replace h := ite_t hc h
        clear hc
        refine cseq ?_
        refine cregion ?_
        refine sv rfl (opv_as rfl) ?_
        refine sv rfl (opv_as rfl) ?_
        refine snil ?_
        refine cret ?_
        refine then_ret ?_
        obtain rfl := Option.some.inj h
        refine ⟨Or.inr rfl, _, _, _, (resVs_cons (ResV.tmp _ _ rfl) (resVs_cons (ResV.tmp _ _ rfl) resVs_nil)), (pubC rfl), ?_⟩
        rfl
      · replace h := ite_f hc h
        clear hc
        refine cskip ?_
        refine then_normal ?_
        exact ⟨(), _, h, ⟨rfl, rfl, rfl, trivial⟩, rfl⟩

def m50_keys_Has (a0 : GApiRange) (a1 : List UInt8) : Option Bool :=
  (m71_keys_Cmp a1 a0.Lo).bind fun v1 => if (decide (0 ≤ v1)) then (if a0.Open then (some true) else ((m71_keys_Cmp a1 a0.Hi).bind fun v2 => some (decide (v2 < 0)))) else (some false)

set_option maxRecDepth 100000 in
theorem m50_keys_Has_c {a0 : GApiRange} {a1 : List UInt8} {r : Bool} (h : m50_keys_Has a0 a1 = some r) : CallsA Try.prog 50 [.agg a0, .one (.sl a1.length (a1.flatMap eU8))] (· = .s (.one (.b r))) := by
  unfold m50_keys_Has at h
  refine callsA_of Try.func50 rfl (nt := 21) rfl (Nat.le_of_ble_eq_true rfl) ?_
  intro w0 S0
  refine cseq ?_
  refine cregion ?_
  refine sbox rfl rfl ?_
  refine sv rfl (opv_as rfl) ?_
  refine snil ?_
  refine cseq ?_
  refine cregion ?_
  refine sv rfl (opv_mv rfl) ?_
  refine sv rfl (opv_fieldAddr_lp fi28_0 rfl) ?_
  refine sv rfl (opv_load1 ti26 rfl (.lp _ _ _ rfl) rfl) ?_
  obtain ⟨v1, hv1, h⟩ := bind_eq h
  refine scall1 rfl fn71 (opnds_cons rfl (opnds_cons rfl opnds_nil)) (pubA_id rfl) (m71_keys_Cmp_c hv1) ?_
  refine sv rfl (opv_geq rfl rfl) ?_
  refine sv rfl (opv_mv rfl) ?_
  refine ssplit 10 rfl (fun hc => ?_) (fun hc => ?_)
  · replace h := ite_t hc h
    clear hc
    refine son rfl rfl rfl ?_
    refine sv rfl (opv_fieldAddr_lp fi28_2 rfl) ?_
    refine son rfl rfl rfl ?_
    refine sv rfl (opv_load1 ti4 rfl (.lp _ _ _ rfl) rfl) ?_
    refine son rfl rfl rfl ?_
    refine sv rfl (opv_mv rfl) ?_
    refine ssplit 13 rfl (fun hc => ?_) (fun hc => ?_)
    · replace h := ite_t hc h
      clear hc
      refine soff rfl rfl rfl rfl ?_
      refine soff rfl rfl rfl rfl ?_
      refine soff rfl rfl rfl rfl ?_
      refine soff rfl rfl rfl rfl ?_
      refine soff rfl rfl rfl rfl ?_
      refine son rfl rfl rfl ?_
      refine sv rfl (opv_pick_t rfl rfl) ?_
      refine sv rfl (opv_pick_t rfl rfl) ?_
      refine sv rfl (opv_as rfl) ?_
      refine snil ?_
      refine cret ?_
      obtain rfl := Option.some.inj h
      refine ⟨Or.inr rfl, _, _, _, (resVs_cons (ResV.tmp _ _ rfl) resVs_nil), (pubA_id rfl), ?_⟩
      rfl
    · replace h := ite_f hc h
      clear hc
      refine son rfl rfl rfl ?_
      refine sv rfl (opv_mv rfl) ?_
      refine son rfl rfl rfl ?_
      refine sv rfl (opv_fieldAddr_lp fi28_1 rfl) ?_
      refine son rfl rfl rfl ?_
      refine sv rfl (opv_load1 ti26 rfl (.lp _ _ _ rfl) rfl) ?_
      refine son rfl rfl rfl ?_
      obtain ⟨v2, hv2, h⟩ := bind_eq h
      refine scall1 rfl fn71 (opnds_cons rfl (opnds_cons rfl opnds_nil)) (pubA_id rfl) (m71_keys_Cmp_c hv2) ?_
      refine son rfl rfl rfl ?_
      refine sv rfl (opv_lss rfl rfl) ?_
      refine son rfl rfl rfl ?_
      refine sv rfl (opv_pick_f rfl rfl) ?_
      refine sv rfl (opv_pick_t rfl rfl) ?_
      refine sv rfl (opv_as rfl) ?_
      refine snil ?_
      refine cret ?_
      obtain rfl := Option.some.inj h
      refine ⟨Or.inr rfl, _, _, _, (resVs_cons (ResV.tmp _ _ rfl) resVs_nil), (pubA_id rfl), ?_⟩
      rfl
  · replace h := ite_f hc h
    clear hc
    refine soff rfl rfl rfl rfl ?_
    refine soff rfl rfl rfl rfl ?_
    refine soff rfl rfl rfl rfl ?_
    refine soffu rfl rfl rfl ?_
    refine soffu rfl rfl rfl ?_
    refine soffu rfl rfl rfl ?_
    refine soffu rfl rfl rfl ?_
    refine soffu rfl rfl rfl ?_
    refine soff rfl rfl rfl rfl ?_
    refine sv rfl (opv_pick_f rfl rfl) ?_
    refine sv rfl (opv_as rfl) ?_
    refine snil ?_
    refine cret ?_
    obtain rfl := Option.some.inj h
    refine ⟨Or.inr rfl, _, _, _, (resVs_cons (ResV.tmp _ _ rfl) resVs_nil), (pubA_id rfl), ?_⟩
    rfl

def m21_store_Scan_k2 (b2 : (List GApiKV)) : Option (List GApiKV) :=
  some b2

def m21_store_Scan_s3 (a0 : GStoreStore) (a1 : GApiRange) (a2 : Int) (a3 : Int) (s3 : Int × (List GApiKV)) : Option (LB (Int × (List GApiKV)) ((List GApiKV))) :=
  if (decide (s3.1 < (a0.Keys.length : Int))) then ((idx a0.Keys s3.1).bind fun u4 => if (decide (a3 ≤ (s3.2.length : Int))) then (some (.brk s3.2)) else ((m50_keys_Has (GApiRange.mk a1.Lo a1.Hi a1.Open) u4).bind fun v5 => if (!v5) then (some (.cont ((wI (s3.1 + 1)), s3.2))) else ((idx a0.Chains s3.1).bind fun u6 => (m39_chain_Value u6 a2).bind fun v7 => if v7.2 then (if (s3.2.length + [(GApiKV.mk u4 v7.1)].length) * 48 ≤ 140737488355328 then (some (.cont ((wI (s3.1 + 1)), (s3.2 ++ [(GApiKV.mk u4 v7.1)])))) else none) else (some (.cont ((wI (s3.1 + 1)), s3.2)))))) else (some (.brk s3.2))
end Go.Proofs.Ytbojepclnfnmcaa.Abs
