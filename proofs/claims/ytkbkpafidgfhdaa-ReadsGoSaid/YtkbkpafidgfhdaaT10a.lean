/-
  t
-/
import Derived.Test.YtkbkpafidgfhdaaAbsC
import Derived.Test.YtkbkpafidgfhdaaProg
namespace Go.Proofs.Ytkbkpafidgfhdaa.Abs
open Go.RowKit Go.Proofs
structure GApiRange where
  Lo : List UInt8
  Hi : List UInt8
  Open : Bool
def eGApiRange (x : GApiRange) : List Lf := [.sl x.Lo.length (x.Lo.flatMap eU8), .sl x.Hi.length (x.Hi.flatMap eU8), .b x.Open]

structure GR10Read where
  Tx : Int
  Rng : GApiRange
def eGR10Read (x : GR10Read) : List Lf := [.i .i64 x.Tx, .sl x.Rng.Lo.length (x.Rng.Lo.flatMap eU8), .sl x.Rng.Hi.length (x.Rng.Hi.flatMap eU8), .b x.Rng.Open]

structure GR10Table where
  L : List GR10Read
def eGR10Table (x : GR10Table) : List Lf := [.sl x.L.length (x.L.flatMap eGR10Read)]

structure GReadsRead where
  Tx : Int
  Rng : GApiRange
def eGReadsRead (x : GReadsRead) : List Lf := [.i .i64 x.Tx, .sl x.Rng.Lo.length (x.Rng.Lo.flatMap eU8), .sl x.Rng.Hi.length (x.Rng.Hi.flatMap eU8), .b x.Rng.Open]

structure GReadsTable where
  L : List GReadsRead
def eGReadsTable (x : GReadsTable) : List Lf := [.sl x.L.length (x.L.flatMap eGReadsRead)]

structure GReadsKnown where
  tx_ : Int
  lo_ : List UInt8
  hi_ : List UInt8
  open_ : Bool
def eGReadsKnown (x : GReadsKnown) : List Lf := [.i .i64 x.tx_, .s ⟨x.lo_.toArray⟩, .s ⟨x.hi_.toArray⟩, .b x.open_]

instance : Coe GApiRange (List Lf) := ⟨eGApiRange⟩
instance : Coe GR10Read (List Lf) := ⟨eGR10Read⟩
instance : Coe GR10Table (List Lf) := ⟨eGR10Table⟩
instance : Coe GReadsRead (List Lf) := ⟨eGReadsRead⟩
instance : Coe GReadsTable (List Lf) := ⟨eGReadsTable⟩
instance : Coe GReadsKnown (List Lf) := ⟨eGReadsKnown⟩
theorem zi34 : ZI Try.prog 34 ([.raw (.slice none 0 0)]) := zi_of (by kernel_rfl)
theorem pi34 : PI Try.prog 34 [(0, 1)] := pi_of Try.underlying34 (by kernel_rfl) (by kernel_rfl)
theorem ei5 : EI Try.prog 5 1 1 [.i .u8 0] := ei_of (by kernel_rfl) (by decide)
theorem zi27 : ZI Try.prog 27 ([.raw (.slice none 0 0), .raw (.slice none 0 0), .b false]) := zi_of (by kernel_rfl)
theorem pi27 : PI Try.prog 27 [(0, 1), (1, 1), (2, 1)] := pi_of Try.underlying27 (by kernel_rfl) (by kernel_rfl)
theorem ti27 : TI Try.prog 27 true 3 := ⟨⟨_, Try.underlying27, rfl⟩, by kernel_rfl⟩
theorem zi63 : ZI Try.prog 63 ([.i .i64 0, .raw (.slice none 0 0), .raw (.slice none 0 0), .b false]) := zi_of (by kernel_rfl)
theorem pi63 : PI Try.prog 63 [(0, 1), (1, 3)] := pi_of Try.underlying63 (by kernel_rfl) (by kernel_rfl)
theorem sz63 : (Try.prog.info? 63).map (·.size) = some 4 := by kernel_rfl
theorem ti34 : TI Try.prog 34 true 1 := ⟨⟨_, Try.underlying34, rfl⟩, by kernel_rfl⟩
theorem fi34_0 : FI Try.prog 34 0 0 := ⟨⟨_, _, 1, Try.underlying34, rfl, rfl, by kernel_rfl, by decide⟩⟩
theorem ti32 : TI Try.prog 32 false 1 := ⟨⟨_, Try.underlying32, rfl⟩, by kernel_rfl⟩
theorem si32 : SI Try.prog 32 63 4 := ⟨Try.underlying32, by kernel_rfl, by decide⟩
theorem ti63 : TI Try.prog 63 true 4 := ⟨⟨_, Try.underlying63, rfl⟩, by kernel_rfl⟩
theorem fi63_0 : FI Try.prog 63 0 0 := ⟨⟨_, _, 1, Try.underlying63, rfl, rfl, by kernel_rfl, by decide⟩⟩
theorem ti3 : TI Try.prog 3 false 1 := ⟨⟨_, Try.underlying3, rfl⟩, by kernel_rfl⟩
theorem fi63_1 : FI Try.prog 63 1 1 := ⟨⟨_, _, 3, Try.underlying63, rfl, rfl, by kernel_rfl, by decide⟩⟩
theorem fi27_0 : FI Try.prog 27 0 0 := ⟨⟨_, _, 1, Try.underlying27, rfl, rfl, by kernel_rfl, by decide⟩⟩
theorem ti25 : TI Try.prog 25 false 1 := ⟨⟨_, Try.underlying25, rfl⟩, by kernel_rfl⟩
theorem si25 : SI Try.prog 25 5 1 := ⟨Try.underlying25, by kernel_rfl, by decide⟩
theorem fi27_1 : FI Try.prog 27 1 1 := ⟨⟨_, _, 1, Try.underlying27, rfl, rfl, by kernel_rfl, by decide⟩⟩
theorem fi27_2 : FI Try.prog 27 2 2 := ⟨⟨_, _, 1, Try.underlying27, rfl, rfl, by kernel_rfl, by decide⟩⟩
theorem ti4 : TI Try.prog 4 false 1 := ⟨⟨_, Try.underlying4, rfl⟩, by kernel_rfl⟩
theorem fn45 : FnI Try.prog 45 := ⟨⟨_, Try.func45, by kernel_rfl, by kernel_rfl⟩⟩
theorem ti5 : TI Try.prog 5 false 1 := ⟨⟨_, Try.underlying5, rfl⟩, by kernel_rfl⟩
theorem xi68 : XI Try.prog 68 Extern.BytealgCompare.compare := ⟨⟨Try.f68, Try.func68, by kernel_rfl, by kernel_rfl, by kernel_rfl, by kernel_rfl⟩⟩
theorem fn55 : FnI Try.prog 55 := ⟨⟨_, Try.func55, by kernel_rfl, by kernel_rfl⟩⟩
theorem fn50 : FnI Try.prog 50 := ⟨⟨_, Try.func50, by kernel_rfl, by kernel_rfl⟩⟩
theorem fn46 : FnI Try.prog 46 := ⟨⟨_, Try.func46, by kernel_rfl, by kernel_rfl⟩⟩
theorem fn32 : FnI Try.prog 32 := ⟨⟨_, Try.func32, by kernel_rfl, by kernel_rfl⟩⟩
theorem mixed : Try.prog.follows .mixedOrders = true := by kernel_rfl
instance : DecidableEq GReadsKnown := fun a b => decidable_of_iff (a.tx_ = b.tx_ ∧ a.lo_ = b.lo_ ∧ a.hi_ = b.hi_ ∧ a.open_ = b.open_) (by cases a; cases b; simp)
theorem ke69 : KeyE GReadsKnown Try.prog 69 eGReadsKnown [0, 2, 2, 1] := ⟨⟨by kernel_rfl, by kernel_rfl, by kernel_rfl, by kernel_rfl⟩, fun _ => rfl, by decide, fun a b => by cases a; cases b; simp [eGReadsKnown, eqLs, eqLf, keyS, beqD]⟩
theorem zi69 : ZI Try.prog 69 ([.i .i64 0, .s ByteArray.empty, .s ByteArray.empty, .b false]) := zi_of (by kernel_rfl)
theorem pi69 : PI Try.prog 69 [(0, 1), (1, 1), (2, 1), (3, 1)] := pi_of Try.underlying69 (by kernel_rfl) (by kernel_rfl)
theorem sz69 : (Try.prog.info? 69).map (·.size) = some 4 := by kernel_rfl
theorem ti69 : TI Try.prog 69 true 4 := ⟨⟨_, Try.underlying69, rfl⟩, by kernel_rfl⟩
theorem fn34 : FnI Try.prog 34 := ⟨⟨_, Try.func34, by kernel_rfl, by kernel_rfl⟩⟩
theorem fn33 : FnI Try.prog 33 := ⟨⟨_, Try.func33, by kernel_rfl, by kernel_rfl⟩⟩
theorem fn16 : FnI Try.prog 16 := ⟨⟨_, Try.func16, by kernel_rfl, by kernel_rfl⟩⟩
theorem sz34 : (Try.prog.info? 34).map (·.size) = some 1 := by kernel_rfl
theorem zv3 : (Try.prog.info? 3).bind (·.zero) = some (.int .i64 0) := by kernel_rfl
theorem ei63 : EI Try.prog 63 4 64 [.i .i64 0, .raw (.slice none 0 0), .raw (.slice none 0 0), .b false] := ei_of (by kernel_rfl) (by decide)
theorem ei32 : EI Try.prog 32 1 24 [.raw (.slice none 0 0)] := ei_of (by kernel_rfl) (by decide)
theorem si79 : SI Try.prog 79 32 1 := ⟨Try.underlying79, by kernel_rfl, by decide⟩
theorem fn47 : FnI Try.prog 47 := ⟨⟨_, Try.func47, by kernel_rfl, by kernel_rfl⟩⟩
theorem ni32 : NI Try.prog 32 := ⟨.inl ⟨_, Try.underlying32⟩⟩
theorem fn35 : FnI Try.prog 35 := ⟨⟨_, Try.func35, by kernel_rfl, by kernel_rfl⟩⟩
theorem fn12 : FnI Try.prog 12 := ⟨⟨_, Try.func12, by kernel_rfl, by kernel_rfl⟩⟩
theorem fn38 : FnI Try.prog 38 := ⟨⟨_, Try.func38, by kernel_rfl, by kernel_rfl⟩⟩
theorem ei3 : EI Try.prog 3 1 8 [.i .i64 0] := ei_of (by kernel_rfl) (by decide)
theorem ni28 : NI Try.prog 28 := ⟨.inl ⟨_, Try.underlying28⟩⟩
theorem fn39 : FnI Try.prog 39 := ⟨⟨_, Try.func39, by kernel_rfl, by kernel_rfl⟩⟩
theorem si28 : SI Try.prog 28 3 1 := ⟨Try.underlying28, by kernel_rfl, by decide⟩
theorem fn40 : FnI Try.prog 40 := ⟨⟨_, Try.func40, by kernel_rfl, by kernel_rfl⟩⟩
theorem fn19 : FnI Try.prog 19 := ⟨⟨_, Try.func19, by kernel_rfl, by kernel_rfl⟩⟩
theorem fn8 : FnI Try.prog 8 := ⟨⟨_, Try.func8, by kernel_rfl, by kernel_rfl⟩⟩
theorem ti24 : TI Try.prog 24 true 1 := ⟨⟨_, Try.underlying24, rfl⟩, by kernel_rfl⟩
theorem fi24_0 : FI Try.prog 24 0 0 := ⟨⟨_, _, 1, Try.underlying24, rfl, rfl, by kernel_rfl, by decide⟩⟩
theorem ti22 : TI Try.prog 22 false 1 := ⟨⟨_, Try.underlying22, rfl⟩, by kernel_rfl⟩
theorem si22 : SI Try.prog 22 56 4 := ⟨Try.underlying22, by kernel_rfl, by decide⟩
theorem fi56_1 : FI Try.prog 56 1 1 := ⟨⟨_, _, 3, Try.underlying56, rfl, rfl, by kernel_rfl, by decide⟩⟩
theorem fn10 : FnI Try.prog 10 := ⟨⟨_, Try.func10, by kernel_rfl, by kernel_rfl⟩⟩
theorem fn9 : FnI Try.prog 9 := ⟨⟨_, Try.func9, by kernel_rfl, by kernel_rfl⟩⟩
theorem fi56_0 : FI Try.prog 56 0 0 := ⟨⟨_, _, 1, Try.underlying56, rfl, rfl, by kernel_rfl, by decide⟩⟩
theorem sz32 : (Try.prog.info? 32).map (·.size) = some 1 := by kernel_rfl
theorem fn11 : FnI Try.prog 11 := ⟨⟨_, Try.func11, by kernel_rfl, by kernel_rfl⟩⟩
theorem zi24 : ZI Try.prog 24 ([.raw (.slice none 0 0)]) := zi_of (by kernel_rfl)
theorem zi56 : ZI Try.prog 56 ([.i .i64 0, .raw (.slice none 0 0), .raw (.slice none 0 0), .b false]) := zi_of (by kernel_rfl)
theorem pi56 : PI Try.prog 56 [(0, 1), (1, 3)] := pi_of Try.underlying56 (by kernel_rfl) (by kernel_rfl)
theorem sz56 : (Try.prog.info? 56).map (·.size) = some 4 := by kernel_rfl
theorem ti56 : TI Try.prog 56 true 4 := ⟨⟨_, Try.underlying56, rfl⟩, by kernel_rfl⟩
theorem fn48 : FnI Try.prog 48 := ⟨⟨_, Try.func48, by kernel_rfl, by kernel_rfl⟩⟩
theorem fn44 : FnI Try.prog 44 := ⟨⟨_, Try.func44, by kernel_rfl, by kernel_rfl⟩⟩
theorem fn49 : FnI Try.prog 49 := ⟨⟨_, Try.func49, by kernel_rfl, by kernel_rfl⟩⟩
theorem fn36 : FnI Try.prog 36 := ⟨⟨_, Try.func36, by kernel_rfl, by kernel_rfl⟩⟩
theorem fn43 : FnI Try.prog 43 := ⟨⟨_, Try.func43, by kernel_rfl, by kernel_rfl⟩⟩
theorem fn37 : FnI Try.prog 37 := ⟨⟨_, Try.func37, by kernel_rfl, by kernel_rfl⟩⟩
theorem fn17 : FnI Try.prog 17 := ⟨⟨_, Try.func17, by kernel_rfl, by kernel_rfl⟩⟩
theorem pi24 : PI Try.prog 24 [(0, 1)] := pi_of Try.underlying24 (by kernel_rfl) (by kernel_rfl)
theorem sz24 : (Try.prog.info? 24).map (·.size) = some 1 := by kernel_rfl
theorem ei56 : EI Try.prog 56 4 64 [.i .i64 0, .raw (.slice none 0 0), .raw (.slice none 0 0), .b false] := ei_of (by kernel_rfl) (by decide)
theorem ni22 : NI Try.prog 22 := ⟨.inl ⟨_, Try.underlying22⟩⟩
theorem fn13 : FnI Try.prog 13 := ⟨⟨_, Try.func13, by kernel_rfl, by kernel_rfl⟩⟩
theorem sz22 : (Try.prog.info? 22).map (·.size) = some 1 := by kernel_rfl
theorem fn15 : FnI Try.prog 15 := ⟨⟨_, Try.func15, by kernel_rfl, by kernel_rfl⟩⟩
theorem fn14 : FnI Try.prog 14 := ⟨⟨_, Try.func14, by kernel_rfl, by kernel_rfl⟩⟩
theorem fn29 : FnI Try.prog 29 := ⟨⟨_, Try.func29, by kernel_rfl, by kernel_rfl⟩⟩
theorem fn30 : FnI Try.prog 30 := ⟨⟨_, Try.func30, by kernel_rfl, by kernel_rfl⟩⟩
theorem fn20 : FnI Try.prog 20 := ⟨⟨_, Try.func20, by kernel_rfl, by kernel_rfl⟩⟩
theorem fn18 : FnI Try.prog 18 := ⟨⟨_, Try.func18, by kernel_rfl, by kernel_rfl⟩⟩
theorem fn67 : FnI Try.prog 67 := ⟨⟨_, Try.func67, by kernel_rfl, by kernel_rfl⟩⟩
theorem fn53 : FnI Try.prog 53 := ⟨⟨_, Try.func53, by kernel_rfl, by kernel_rfl⟩⟩
theorem fn41 : FnI Try.prog 41 := ⟨⟨_, Try.func41, by kernel_rfl, by kernel_rfl⟩⟩
theorem fn21 : FnI Try.prog 21 := ⟨⟨_, Try.func21, by kernel_rfl, by kernel_rfl⟩⟩
theorem fn54 : FnI Try.prog 54 := ⟨⟨_, Try.func54, by kernel_rfl, by kernel_rfl⟩⟩
theorem fn42 : FnI Try.prog 42 := ⟨⟨_, Try.func42, by kernel_rfl, by kernel_rfl⟩⟩
theorem fn22 : FnI Try.prog 22 := ⟨⟨_, Try.func22, by kernel_rfl, by kernel_rfl⟩⟩
theorem fn23 : FnI Try.prog 23 := ⟨⟨_, Try.func23, by kernel_rfl, by kernel_rfl⟩⟩
theorem fn24 : FnI Try.prog 24 := ⟨⟨_, Try.func24, by kernel_rfl, by kernel_rfl⟩⟩
theorem ft34_0 : FT Try.prog 34 0 0 32 := ⟨⟨_, _, Try.underlying34, rfl, rfl, rfl⟩⟩
theorem ei27 : EI Try.prog 27 3 56 [.raw (.slice none 0 0), .raw (.slice none 0 0), .b false] := ei_of (by kernel_rfl) (by decide)
theorem ni50 : NI Try.prog 50 := ⟨.inl ⟨_, Try.underlying50⟩⟩
theorem fn26 : FnI Try.prog 26 := ⟨⟨_, Try.func26, by kernel_rfl, by kernel_rfl⟩⟩
theorem fn27 : FnI Try.prog 27 := ⟨⟨_, Try.func27, by kernel_rfl, by kernel_rfl⟩⟩
theorem si50 : SI Try.prog 50 27 3 := ⟨Try.underlying50, by kernel_rfl, by decide⟩
theorem fn25 : FnI Try.prog 25 := ⟨⟨_, Try.func25, by kernel_rfl, by kernel_rfl⟩⟩
theorem fn28 : FnI Try.prog 28 := ⟨⟨_, Try.func28, by kernel_rfl, by kernel_rfl⟩⟩
theorem ni25 : NI Try.prog 25 := ⟨.inl ⟨_, Try.underlying25⟩⟩
theorem sz27 : (Try.prog.info? 27).map (·.size) = some 3 := by kernel_rfl
theorem fn31 : FnI Try.prog 31 := ⟨⟨_, Try.func31, by kernel_rfl, by kernel_rfl⟩⟩
theorem fn74 : FnI Try.prog 74 := ⟨⟨_, Try.func74, by kernel_rfl, by kernel_rfl⟩⟩

def m45_keys_SaneRange (a0 : GApiRange) : Option Bool :=
  if (decide ((a0.Lo.length : Int) ≤ 17)) then (if (decide ((a0.Hi.length : Int) ≤ 17)) then (if a0.Open then (some (!(decide (0 < (a0.Hi.length : Int))))) else (some true)) else (some false)) else (some false)

set_option maxRecDepth 100000 in
theorem m45_keys_SaneRange_c {a0 : GApiRange} {r : Bool} (h : m45_keys_SaneRange a0 = some r) : CallsA Try.prog 45 [.agg a0] (· = .s (.one (.b r))) := by
  unfold m45_keys_SaneRange at h
  refine callsA_of Try.func45 rfl (nt := 24) rfl (Nat.le_of_ble_eq_true rfl) ?_
  intro w0 S0
  refine cseq ?_
  refine cregion ?_
  refine sbox rfl rfl ?_
  refine sv rfl (opv_as rfl) ?_
  refine snil ?_
  refine cseq ?_
  refine cregion ?_
  refine sv rfl (opv_fieldAddr_lp fi27_0 rfl) ?_
  refine sv rfl (opv_load1 ti25 rfl (.lp _ _ _ rfl) rfl) ?_
  refine sv rfl (opv_len_sl si25 rfl) ?_
  refine sv rfl (opv_leq rfl rfl) ?_
  refine sv rfl (opv_mv rfl) ?_
  refine ssplit 7 rfl (fun hc => ?_) (fun hc => ?_)
  · replace h := ite_t hc h
    clear hc
    refine son rfl rfl rfl ?_
    refine sv rfl (opv_fieldAddr_lp fi27_1 rfl) ?_
    refine son rfl rfl rfl ?_
    refine sv rfl (opv_load1 ti25 rfl (.lp _ _ _ rfl) rfl) ?_
    refine son rfl rfl rfl ?_
    refine sv rfl (opv_len_sl si25 rfl) ?_
    refine son rfl rfl rfl ?_
    refine sv rfl (opv_leq rfl rfl) ?_
    refine sv rfl (opv_pick_t rfl rfl) ?_
    refine sv rfl (opv_mv rfl) ?_
    refine ssplit 13 rfl (fun hc => ?_) (fun hc => ?_)
    · replace h := ite_t hc h
      clear hc
      refine son rfl rfl rfl ?_
      refine sv rfl (opv_fieldAddr_lp fi27_2 rfl) ?_
      refine son rfl rfl rfl ?_
      refine sv rfl (opv_load1 ti4 rfl (.lp _ _ _ rfl) rfl) ?_
      refine son rfl rfl rfl ?_
      refine sv rfl (opv_mv rfl) ?_
      refine ssplit 16 rfl (fun hc => ?_) (fun hc => ?_)
      · replace h := ite_t hc h
        clear hc
        refine son rfl rfl rfl ?_
        refine sv rfl (opv_fieldAddr_lp fi27_1 rfl) ?_
        refine son rfl rfl rfl ?_
        refine sv rfl (opv_load1 ti25 rfl (.lp _ _ _ rfl) rfl) ?_
        refine son rfl rfl rfl ?_
        refine sv rfl (opv_len_sl si25 rfl) ?_
        refine son rfl rfl rfl ?_
        refine sv rfl (opv_gtr rfl rfl) ?_
        refine son rfl rfl rfl ?_
        refine sv rfl (opv_pick_t rfl rfl) ?_
        refine son rfl rfl rfl ?_
        refine sv rfl (opv_not rfl) ?_
        refine sv rfl (opv_pick_t rfl rfl) ?_
        refine sv rfl (opv_as rfl) ?_
        refine snil ?_
        refine cret ?_
        obtain rfl := Option.some.inj h
        refine ⟨Or.inr rfl, _, _, _, (resVs_cons (ResV.tmp _ _ rfl) resVs_nil), (pubA_id rfl), ?_⟩
        rfl
      · replace h := ite_f hc h
        clear hc
        refine soff rfl rfl rfl rfl ?_
        refine soff rfl rfl rfl rfl ?_
        refine soff rfl rfl rfl rfl ?_
        refine soff rfl rfl rfl rfl ?_
        refine son rfl rfl rfl ?_
        refine sv rfl (opv_pick_f rfl rfl) ?_
        refine son rfl rfl rfl ?_
        refine sv rfl (opv_not rfl) ?_
        refine sv rfl (opv_pick_t rfl rfl) ?_
        refine sv rfl (opv_as rfl) ?_
        refine snil ?_
        refine cret ?_
        obtain rfl := Option.some.inj h
        refine ⟨Or.inr rfl, _, _, _, (resVs_cons (ResV.tmp _ _ rfl) resVs_nil), (pubA_id rfl), ?_⟩
        rfl
    · replace h := ite_f hc h
      clear hc
      refine soff rfl rfl rfl rfl ?_
      refine soff rfl rfl rfl rfl ?_
      refine soff rfl rfl rfl rfl ?_
      refine soffu rfl rfl rfl ?_
      refine soffu rfl rfl rfl ?_
      refine soffu rfl rfl rfl ?_
      refine soffu rfl rfl rfl ?_
      refine soff rfl rfl rfl rfl ?_
      refine soff rfl rfl rfl rfl ?_
      refine sv rfl (opv_pick_f rfl rfl) ?_
      refine sv rfl (opv_as rfl) ?_
      refine snil ?_
      refine cret ?_
      obtain rfl := Option.some.inj h
      refine ⟨Or.inr rfl, _, _, _, (resVs_cons (ResV.tmp _ _ rfl) resVs_nil), (pubA_id rfl), ?_⟩
      rfl
  · replace h := ite_f hc h
    clear hc
    refine soff rfl rfl rfl rfl ?_
    refine soff rfl rfl rfl rfl ?_
    refine soff rfl rfl rfl rfl ?_
    refine soff rfl rfl rfl rfl ?_
    refine sv rfl (opv_pick_f rfl rfl) ?_
    refine sv rfl (opv_mv rfl) ?_
    refine soff rfl rfl rfl rfl ?_
    refine soff rfl rfl rfl rfl ?_
    refine soff rfl rfl rfl rfl ?_
    refine soffu rfl rfl rfl ?_
    refine soffu rfl rfl rfl ?_
    refine soffu rfl rfl rfl ?_
    refine soffu rfl rfl rfl ?_
    refine soff rfl rfl rfl rfl ?_
    refine soff rfl rfl rfl rfl ?_
    refine sv rfl (opv_pick_f rfl rfl) ?_
    refine sv rfl (opv_as rfl) ?_
    refine snil ?_
    refine cret ?_
    obtain rfl := Option.some.inj h
    refine ⟨Or.inr rfl, _, _, _, (resVs_cons (ResV.tmp _ _ rfl) resVs_nil), (pubA_id rfl), ?_⟩
    rfl

def m55_bytes_Compare (a0 : List UInt8) (a1 : List UInt8) : Option Int :=
  some (cmpL a0 a1)

set_option maxRecDepth 100000 in
theorem m55_bytes_Compare_c {a0 : List UInt8} {a1 : List UInt8} {r : Int} (h : m55_bytes_Compare a0 a1 = some r) : CallsA Try.prog 55 [.one (.sl a0.length (a0.flatMap eU8)), .one (.sl a1.length (a1.flatMap eU8))] (· = .s (.one (.i .i64 r))) := by
  unfold m55_bytes_Compare at h
  refine callsA_of Try.func55 rfl (nt := 8) rfl (Nat.le_of_ble_eq_true rfl) ?_
  intro w0 S0
  refine cseq ?_
  refine cregion ?_
  refine sv rfl (opv_as rfl) ?_
  refine snil ?_
  refine cseq ?_
  refine cregion ?_
  refine sv rfl (opv_mv rfl) ?_
  refine sv rfl (opv_mv rfl) ?_
  refine sv rfl (opv_cmp' (a := a0) (b := a1) xi68 rfl rfl rfl rfl rfl rfl) ?_
  refine sv rfl (opv_as rfl) ?_
  refine snil ?_
  refine cret ?_
  obtain rfl := Option.some.inj h
  refine ⟨Or.inr rfl, _, _, _, (resVs_cons (ResV.tmp _ _ rfl) resVs_nil), (pubA_id rfl), ?_⟩
  rfl

def m50_keys_Cmp (a0 : List UInt8) (a1 : List UInt8) : Option Int :=
  (m55_bytes_Compare a0 a1).bind fun v1 => some v1

set_option maxRecDepth 100000 in
theorem m50_keys_Cmp_c {a0 : List UInt8} {a1 : List UInt8} {r : Int} (h : m50_keys_Cmp a0 a1 = some r) : CallsA Try.prog 50 [.one (.sl a0.length (a0.flatMap eU8)), .one (.sl a1.length (a1.flatMap eU8))] (· = .s (.one (.i .i64 r))) := by
  unfold m50_keys_Cmp at h
  refine callsA_of Try.func50 rfl (nt := 8) rfl (Nat.le_of_ble_eq_true rfl) ?_
  intro w0 S0
  refine cseq ?_
  refine cregion ?_
  refine sv rfl (opv_as rfl) ?_
  refine snil ?_
  refine cseq ?_
  refine cregion ?_
  refine sv rfl (opv_mv rfl) ?_
  refine sv rfl (opv_mv rfl) ?_
  obtain ⟨v1, hv1, h⟩ := bind_eq h
  refine scall1 rfl fn55 (opnds_cons rfl (opnds_cons rfl opnds_nil)) (pubA_id rfl) (m55_bytes_Compare_c hv1) ?_
  refine sv rfl (opv_as rfl) ?_
  refine snil ?_
  refine cret ?_
  obtain rfl := Option.some.inj h
  refine ⟨Or.inr rfl, _, _, _, (resVs_cons (ResV.tmp _ _ rfl) resVs_nil), (pubA_id rfl), ?_⟩
  rfl

def m46_keys_Empty_k1 (a0 : GApiRange) (b1 : Bool) : Option Bool :=
  if b1 then (some true) else ((m50_keys_Cmp a0.Hi a0.Lo).bind fun v2 => some (decide (v2 ≤ 0)))
def m46_keys_Empty (a0 : GApiRange) : Option Bool :=
  if a0.Open then (some false) else (if (decide ((a0.Lo.length : Int) = 0)) then (if (decide ((a0.Hi.length : Int) = 1)) then ((idx a0.Hi 0).bind fun u3 => m46_keys_Empty_k1 a0 (decide ((u3.toBitVec.toNat : Int) = (0 : Int)))) else (m46_keys_Empty_k1 a0 false)) else (m46_keys_Empty_k1 a0 false))

set_option maxRecDepth 100000 in
theorem m46_keys_Empty_c {a0 : GApiRange} {r : Bool} (h : m46_keys_Empty a0 = some r) : CallsA Try.prog 46 [.agg a0] (· = .s (.one (.b r))) := by
  unfold m46_keys_Empty at h
  refine callsA_of Try.func46 rfl (nt := 32) rfl (Nat.le_of_ble_eq_true rfl) ?_
  intro w0 S0
  refine cseq ?_
  refine cregion ?_
  refine sbox rfl rfl ?_
  refine sv rfl (opv_as rfl) ?_
  refine snil ?_
  refine cseq ?_
  refine cseq ?_
  refine cregion ?_
  refine sv rfl (opv_fieldAddr_lp fi27_2 rfl) ?_
  refine sv rfl (opv_load1 ti4 rfl (.lp _ _ _ rfl) rfl) ?_
  refine snil ?_
  refine ccond rfl (fun hc => ?_) (fun hc => ?_)
  · replace h := ite_t hc h
    clear hc
    refine cseq ?_
    refine cregion ?_
    refine sv rfl (opv_as rfl) ?_
    refine snil ?_
    refine cret ?_
    refine then_ret ?_
    obtain rfl := Option.some.inj h
    refine ⟨Or.inr rfl, _, _, _, (resVs_cons (ResV.tmp _ _ rfl) resVs_nil), (pubA_id rfl), ?_⟩
    rfl
  · replace h := ite_f hc h
    clear hc
    refine cskip ?_
    refine then_normal ?_
    refine cseq ?_
    refine cjoin (Bool) (fun b1 => [(1, .s (.one (.lp 0 0))), (3, .s (.one (.b b1)))]) (fun b1 => [.box a0]) (fun b1 => m46_keys_Empty_k1 a0 b1 = some r) (fun _ _ => inbL_of rfl) (fun _ _ => blkinb_of rfl) (fun _ _ => Nat.le_of_ble_eq_true rfl) (fun b1 h => ?_) ?_
    · unfold m46_keys_Empty_k1 at h
      refine cseq ?_
      refine cregion ?_
      refine sv rfl (opv_mv rfl) ?_
      refine sv rfl (opv_mv rfl) ?_
      refine ssplit 24 rfl (fun hc => ?_) (fun hc => ?_)
      · replace h := ite_t hc h
        clear hc
        refine soff rfl rfl rfl rfl ?_
        refine soff rfl rfl rfl rfl ?_
        refine soff rfl rfl rfl rfl ?_
        refine soff rfl rfl rfl rfl ?_
        refine soff rfl rfl rfl rfl ?_
        refine soff rfl rfl rfl rfl ?_
        refine sv rfl (opv_pick_t rfl rfl) ?_
        refine sv rfl (opv_as rfl) ?_
        refine snil ?_
        refine cret ?_
        obtain rfl := Option.some.inj h
        refine ⟨Or.inr rfl, _, _, _, (resVs_cons (ResV.tmp _ _ rfl) resVs_nil), (pubA_id rfl), ?_⟩
        rfl
      · replace h := ite_f hc h
        clear hc
        refine son rfl rfl rfl ?_
        refine sv rfl (opv_fieldAddr_lp fi27_1 rfl) ?_
        refine son rfl rfl rfl ?_
        refine sv rfl (opv_load1 ti25 rfl (.lp _ _ _ rfl) rfl) ?_
        refine son rfl rfl rfl ?_
        refine sv rfl (opv_fieldAddr_lp fi27_0 rfl) ?_
        refine son rfl rfl rfl ?_
        refine sv rfl (opv_load1 ti25 rfl (.lp _ _ _ rfl) rfl) ?_
        refine son rfl rfl rfl ?_
        obtain ⟨v2, hv2, h⟩ := bind_eq h
        refine scall1 rfl fn50 (opnds_cons rfl (opnds_cons rfl opnds_nil)) (pubA_id rfl) (m50_keys_Cmp_c hv2) ?_
        refine son rfl rfl rfl ?_
        refine sv rfl (opv_leq rfl rfl) ?_
        refine sv rfl (opv_pick_f rfl rfl) ?_
        refine sv rfl (opv_as rfl) ?_
        refine snil ?_
        refine cret ?_
        obtain rfl := Option.some.inj h
        refine ⟨Or.inr rfl, _, _, _, (resVs_cons (ResV.tmp _ _ rfl) resVs_nil), (pubA_id rfl), ?_⟩
        rfl
    · skip
      refine cregion ?_
      refine sv rfl (opv_fieldAddr_lp fi27_0 rfl) ?_
      refine sv rfl (opv_load1 ti25 rfl (.lp _ _ _ rfl) rfl) ?_
      refine sv rfl (opv_len_sl si25 rfl) ?_
      refine sv rfl (opv_ieql rfl rfl) ?_
      refine sv rfl (opv_mv rfl) ?_
      refine ssplit 10 rfl (fun hc => ?_) (fun hc => ?_)
      · replace h := ite_t hc h
        clear hc
        refine son rfl rfl rfl ?_
        refine sv rfl (opv_fieldAddr_lp fi27_1 rfl) ?_
        refine son rfl rfl rfl ?_
        refine sv rfl (opv_load1 ti25 rfl (.lp _ _ _ rfl) rfl) ?_
        refine son rfl rfl rfl ?_
        refine sv rfl (opv_len_sl si25 rfl) ?_
        refine son rfl rfl rfl ?_
        refine sv rfl (opv_ieql rfl rfl) ?_
        refine sv rfl (opv_pick_t rfl rfl) ?_
        refine sv rfl (opv_mv rfl) ?_
        refine ssplit 16 rfl (fun hc => ?_) (fun hc => ?_)
        · replace h := ite_t hc h
          clear hc
          refine son rfl rfl rfl ?_
          refine sv rfl (opv_fieldAddr_lp fi27_1 rfl) ?_
          refine son rfl rfl rfl ?_
          refine sv rfl (opv_load1 ti25 rfl (.lp _ _ _ rfl) rfl) ?_
          refine son rfl rfl rfl ?_
          obtain ⟨u3, hu3, h⟩ := bind_eq h
          refine sv rfl (opv_ix (f := eU8) si25 (fun _ => rfl) rfl rfl rfl rfl hu3) ?_
          refine son rfl rfl rfl ?_
          refine sv rfl (opv_load1 ti5 rfl (.cp _) rfl) ?_
          refine son rfl rfl rfl ?_
          refine sv rfl (opv_ieql rfl rfl) ?_
          refine sv rfl (opv_pick_t rfl rfl) ?_
          refine sv rfl (opv_as rfl) ?_
          refine snil ?_
          exact ⟨(decide ((u3.toBitVec.toNat : Int) = (0 : Int))), _, h, ⟨rfl, rfl, trivial⟩, rfl⟩
        · replace h := ite_f hc h
          clear hc
          refine soff rfl rfl rfl rfl ?_
          refine soff rfl rfl rfl rfl ?_
          refine soff rfl rfl rfl rfl ?_
          refine soff rfl rfl rfl rfl ?_
          refine soff rfl rfl rfl rfl ?_
          refine sv rfl (opv_pick_f rfl rfl) ?_
          refine sv rfl (opv_as rfl) ?_
          refine snil ?_
          exact ⟨false, _, h, ⟨rfl, rfl, trivial⟩, rfl⟩
      · replace h := ite_f hc h
        clear hc
        refine soff rfl rfl rfl rfl ?_
        refine soff rfl rfl rfl rfl ?_
        refine soff rfl rfl rfl rfl ?_
        refine soff rfl rfl rfl rfl ?_
        refine sv rfl (opv_pick_f rfl rfl) ?_
        refine sv rfl (opv_mv rfl) ?_
        refine soff rfl rfl rfl rfl ?_
        refine soff rfl rfl rfl rfl ?_
        refine soff rfl rfl rfl rfl ?_
        refine soff rfl rfl rfl rfl ?_
        refine soff rfl rfl rfl rfl ?_
        refine sv rfl (opv_pick_f rfl rfl) ?_
        refine sv rfl (opv_as rfl) ?_
        refine snil ?_
        exact ⟨false, _, h, ⟨rfl, rfl, trivial⟩, rfl⟩

def m32_reads_saneRead (a0 : GReadsRead) : Option Bool :=
  if (decide (0 ≤ a0.Tx)) then ((m45_keys_SaneRange (GApiRange.mk a0.Rng.Lo a0.Rng.Hi a0.Rng.Open)).bind fun v1 => if v1 then ((m46_keys_Empty (GApiRange.mk a0.Rng.Lo a0.Rng.Hi a0.Rng.Open)).bind fun v2 => some (!v2)) else (some false)) else (some false)

set_option maxRecDepth 100000 in
theorem m32_reads_saneRead_c {a0 : GReadsRead} {r : Bool} (h : m32_reads_saneRead a0 = some r) : CallsA Try.prog 32 [.agg a0] (· = .s (.one (.b r))) := by
  unfold m32_reads_saneRead at h
  refine callsA_of Try.func32 rfl (nt := 17) rfl (Nat.le_of_ble_eq_true rfl) ?_
  intro w0 S0
  refine cseq ?_
  refine cregion ?_
  refine sbox rfl rfl ?_
  refine sv rfl (opv_as rfl) ?_
  refine snil ?_
  refine cseq ?_
  refine cregion ?_
  refine sv rfl (opv_fieldAddr_lp fi63_0 rfl) ?_
  refine sv rfl (opv_load1 ti3 rfl (.lp _ _ _ rfl) rfl) ?_
  refine sv rfl (opv_geq rfl rfl) ?_
  refine sv rfl (opv_mv rfl) ?_
  refine ssplit 6 rfl (fun hc => ?_) (fun hc => ?_)
  · replace h := ite_t hc h
    clear hc
    refine son rfl rfl rfl ?_
    refine sv rfl (opv_fieldAddr_lp fi63_1 rfl) ?_
    refine son rfl rfl rfl ?_
    refine sv rfl (opv_loadN ti27 rfl (.lp _ _ _ rfl) (Nat.le_of_ble_eq_true rfl)) ?_
    refine son rfl rfl rfl ?_
    obtain ⟨v1, hv1, h⟩ := bind_eq h
    refine scall1 rfl fn45 (opnds_cons rfl opnds_nil) (pubA_id rfl) (m45_keys_SaneRange_c hv1) ?_
    refine sv rfl (opv_pick_t rfl rfl) ?_
    refine sv rfl (opv_mv rfl) ?_
    refine ssplit 11 rfl (fun hc => ?_) (fun hc => ?_)
    · replace h := ite_t hc h
      clear hc
      refine son rfl rfl rfl ?_
      refine sv rfl (opv_fieldAddr_lp fi63_1 rfl) ?_
      refine son rfl rfl rfl ?_
      refine sv rfl (opv_loadN ti27 rfl (.lp _ _ _ rfl) (Nat.le_of_ble_eq_true rfl)) ?_
      refine son rfl rfl rfl ?_
      obtain ⟨v2, hv2, h⟩ := bind_eq h
      refine scall1 rfl fn46 (opnds_cons rfl opnds_nil) (pubA_id rfl) (m46_keys_Empty_c hv2) ?_
      refine son rfl rfl rfl ?_
      refine sv rfl (opv_not rfl) ?_
      refine sv rfl (opv_pick_t rfl rfl) ?_
      refine sv rfl (opv_as rfl) ?_
      refine snil ?_
      refine cret ?_
      obtain rfl := Option.some.inj h
      refine ⟨Or.inr rfl, _, _, _, (resVs_cons (ResV.tmp _ _ rfl) resVs_nil), (pubA_id rfl), ?_⟩
      rfl
    · replace h := ite_f hc h
      clear hc
      refine soff rfl rfl rfl rfl ?_
      refine soff rfl rfl rfl rfl ?_
      refine soff rfl rfl rfl rfl ?_
      refine soff rfl rfl rfl rfl ?_
      refine sv rfl (opv_pick_f rfl rfl) ?_
      refine sv rfl (opv_as rfl) ?_
      refine snil ?_
      refine cret ?_
      obtain rfl := Option.some.inj h
      refine ⟨Or.inr rfl, _, _, _, (resVs_cons (ResV.tmp _ _ rfl) resVs_nil), (pubA_id rfl), ?_⟩
      rfl
  · replace h := ite_f hc h
    clear hc
    refine soff rfl rfl rfl rfl ?_
    refine soff rfl rfl rfl rfl ?_
    refine soff rfl rfl rfl rfl ?_
    refine sv rfl (opv_pick_f rfl rfl) ?_
    refine sv rfl (opv_mv rfl) ?_
    refine soff rfl rfl rfl rfl ?_
    refine soff rfl rfl rfl rfl ?_
    refine soff rfl rfl rfl rfl ?_
    refine soff rfl rfl rfl rfl ?_
    refine sv rfl (opv_pick_f rfl rfl) ?_
    refine sv rfl (opv_as rfl) ?_
    refine snil ?_
    refine cret ?_
    obtain rfl := Option.some.inj h
    refine ⟨Or.inr rfl, _, _, _, (resVs_cons (ResV.tmp _ _ rfl) resVs_nil), (pubA_id rfl), ?_⟩
    rfl

def m34_reads_knownOf (a0 : GReadsRead) : Option GReadsKnown :=
  some (GReadsKnown.mk a0.Tx a0.Rng.Lo a0.Rng.Hi a0.Rng.Open)

set_option maxRecDepth 100000 in
theorem m34_reads_knownOf_c {a0 : GReadsRead} {r : GReadsKnown} (h : m34_reads_knownOf a0 = some r) : CallsA Try.prog 34 [.agg a0] (· = .s (.agg r)) := by
  unfold m34_reads_knownOf at h
  refine callsA_of Try.func34 rfl (nt := 17) rfl (Nat.le_of_ble_eq_true rfl) ?_
  intro w0 S0
  refine cseq ?_
  refine cregion ?_
  refine sbox rfl rfl ?_
  refine salloc rfl zi69 ?_
  refine snil ?_
  refine cseq ?_
  refine cregion ?_
  refine sv rfl (opv_fieldAddr_lp fi63_0 rfl) ?_
  refine sv rfl (opv_load1 ti3 rfl (.lp _ _ _ rfl) rfl) ?_
  refine sv rfl (opv_fieldAddr_lp fi63_1 rfl) ?_
  refine sv rfl (opv_fieldAddr_lp fi27_0 rfl) ?_
  refine sv rfl (opv_load1 ti25 rfl (.lp _ _ _ rfl) rfl) ?_
  refine sv rfl (opv_bs (l := a0.Rng.Lo) Try.underlying25 Try.underlying5 Try.underlying9 rfl rfl rfl) ?_
  refine sv rfl (opv_fieldAddr_lp fi63_1 rfl) ?_
  refine sv rfl (opv_fieldAddr_lp fi27_1 rfl) ?_
  refine sv rfl (opv_load1 ti25 rfl (.lp _ _ _ rfl) rfl) ?_
  refine sv rfl (opv_bs (l := a0.Rng.Hi) Try.underlying25 Try.underlying5 Try.underlying9 rfl rfl rfl) ?_
  refine sv rfl (opv_fieldAddr_lp fi63_1 rfl) ?_
  refine sv rfl (opv_fieldAddr_lp fi27_2 rfl) ?_
  refine sv rfl (opv_load1 ti4 rfl (.lp _ _ _ rfl) rfl) ?_
  refine sv rfl (opv_build zi69 pi69 (parts_cons rfl (parts_cons rfl (parts_cons rfl (parts_cons rfl parts_nil)))) (.cons _ _ _ _ _ _ _ rfl rfl (Nat.le_of_ble_eq_true rfl) (.cons _ _ _ _ _ _ _ rfl rfl (Nat.le_of_ble_eq_true rfl) (.cons _ _ _ _ _ _ _ rfl rfl (Nat.le_of_ble_eq_true rfl) (.cons _ _ _ _ _ _ _ rfl rfl (Nat.le_of_ble_eq_true rfl) (.nil _)))))) ?_
  refine sstore sz69 rfl rfl rfl rfl (Nat.le_of_ble_eq_true rfl) ?_
  refine smem [.box a0, .box [.i .i64 a0.Tx, .s ⟨a0.Rng.Lo.toArray⟩, .s ⟨a0.Rng.Hi.toArray⟩, .b a0.Rng.Open]] rfl ?_
  refine snil ?_
  refine cret ?_
  obtain rfl := Option.some.inj h
  refine ⟨Or.inr rfl, _, _, _, (resVs_cons (ResV.agg _ _ _ _ _ ti69 rfl (.lp _ _ _ rfl) (Nat.le_of_ble_eq_true rfl)) resVs_nil), (pubA_id rfl), ?_⟩
  rfl

def m33_reads_indexs_k1 (b1 : (List (GReadsKnown × Int))) : Option (List (GReadsKnown × Int)) :=
  some b1

def m33_reads_indexs_s2 (a0 : List GReadsRead) (s2 : Int × (List (GReadsKnown × Int))) : Option (LB (Int × (List (GReadsKnown × Int))) ((List (GReadsKnown × Int)))) :=
  if (decide (s2.1 < (a0.length : Int))) then ((idx a0 s2.1).bind fun u3 => (m34_reads_knownOf (GReadsRead.mk u3.Tx (GApiRange.mk u3.Rng.Lo u3.Rng.Hi u3.Rng.Open))).bind fun v4 => some (.cont ((wI (s2.1 + 1)), (ixPut s2.2 v4 s2.1)))) else (some (.brk s2.2))
def m33_reads_indexs (a0 : List GReadsRead) : Option (List (GReadsKnown × Int)) :=
  (iterB (m33_reads_indexs_s2 a0) fuel (0, ([] : List (GReadsKnown × Int)))).bind fun e5 => m33_reads_indexs_k1 e5

set_option maxRecDepth 100000 in
theorem m33_reads_indexs_c {a0 : List GReadsRead} {r : (List (GReadsKnown × Int))} (h : m33_reads_indexs a0 = some r) : CallsB Try.prog 33 [] [.one (.sl a0.length (a0.flatMap eGReadsRead))] (fun y m' => y = .s (.one (.mp 0 0)) ∧ m' = [ixBlk eGReadsKnown r]) := by
  unfold m33_reads_indexs at h
  refine callsB_of Try.func33 rfl (nt := 20) rfl (Nat.le_of_ble_eq_true rfl) ?_
  intro w0 S0 X0 H0
  refine cseq ?_
  refine cregion ?_
  refine sv rfl (opv_as rfl) ?_
  refine snil ?_
  refine cseq ?_
  refine cregion ?_
  refine smaketab eGReadsKnown rfl ?_
  refine sv rfl (opv_as rfl) ?_
  refine snil ?_
  refine cseq ?_
  refine cseq ?_
  refine cregion ?_
  refine sv rfl (opv_mv rfl) ?_
  refine sv rfl (opv_len_sl si32 rfl) ?_
  refine sv rfl (opv_mv rfl) ?_
  refine snil ?_
  refine cjoin ((List (GReadsKnown × Int))) (fun b1 => [(3, .s (.one (.mp 0 0)))]) (fun b1 => [ixBlk eGReadsKnown b1]) (fun b1 => m33_reads_indexs_k1 b1 = some r) (fun _ _ => inbL_of rfl) (fun _ _ => blkinb_of rfl) (fun _ _ => Nat.le_of_ble_eq_true rfl) (fun b1 h => ?_) ?_
  · unfold m33_reads_indexs_k1 at h
    refine cseq ?_
    refine cregion ?_
    refine sv rfl (opv_mv rfl) ?_
    refine sv rfl (opv_as rfl) ?_
    refine snil ?_
    refine cret ?_
    obtain rfl := Option.some.inj h
    exact ⟨Or.inr rfl, _, [0], [.one (.mp 0 0)], [ixBlk eGReadsKnown b1], (resVs_cons (ResV.tmp _ _ rfl) resVs_nil), rfl, rfl, ⟨by decide, rfl⟩, rfl, rfl, ⟨rfl, rfl⟩⟩
  · skip
    refine cblock ?_
    obtain ⟨x2, hx2, ho2⟩ := bind_eq h
    refine awc_loop (G := Nat × (Int × (List (GReadsKnown × Int)))) (fun g => [(3, .s (.one (.mp 0 0))), (7, .s (.one (.sl a0.length (a0.flatMap eGReadsRead)))), (8, .s (.one (.i .i64 (a0.length : Int)))), (9, .s (.one (.i .i64 g.2.1)))]) (fun g => [ixBlk eGReadsKnown g.2.2]) (fun g => iterB (m33_reads_indexs_s2 a0) g.1 g.2 = some x2) (fun g => g.1) (fuel, (0, ([] : List (GReadsKnown × Int)))) hx2 ⟨rfl, rfl, rfl, rfl, trivial⟩ [] rfl (fun _ _ => inbL_of rfl) (fun _ _ => blkinb_of rfl) (fun _ _ => Nat.le_of_ble_eq_true rfl) ?_
    clear hx2 h
    rintro ⟨n2, s2⟩ h
    obtain ⟨n2, y2, rfl, h, hk2⟩ := iterB_eq h
    unfold m33_reads_indexs_s2 at h
    refine cseq ?_
    refine cregion ?_
    refine sv rfl (opv_lss rfl rfl) ?_
    refine snil ?_
    refine cseq ?_
    refine ccond rfl (fun hc => ?_) (fun hc => ?_)
    · replace h := ite_t hc h
      clear hc
      refine cskip ?_
      refine then_normal ?_
      refine cseq ?_
      refine cblock ?_
      refine cseq ?_
      refine cregion ?_
      refine sv rfl (opv_mv rfl) ?_
      obtain ⟨u3, hu3, h⟩ := bind_eq h
      refine sv rfl (opv_ix (f := eGReadsRead) si32 (fun _ => rfl) rfl rfl rfl rfl hu3) ?_
      refine sv rfl (opv_loadNe (ys := [.i .i64 u3.Tx, .sl u3.Rng.Lo.length (u3.Rng.Lo.flatMap eU8), .sl u3.Rng.Hi.length (u3.Rng.Hi.flatMap eU8), .b u3.Rng.Open]) ti63 rfl (.cp _) rfl rfl) ?_
      refine salloc rfl zi63 ?_
      refine sv rfl (opv_as rfl) ?_
      refine sstore sz63 rfl rfl rfl rfl (Nat.le_of_ble_eq_true rfl) ?_
      refine smem [ixBlk eGReadsKnown s2.2, .box u3] rfl ?_
      refine snil ?_
      refine cregion ?_
      refine sv rfl (opv_mv rfl) ?_
      refine sv rfl (opv_loadN ti63 rfl (.lp _ _ _ rfl) (Nat.le_of_ble_eq_true rfl)) ?_
      obtain ⟨v4, hv4, h⟩ := bind_eq h
      refine scall1 rfl fn34 (opnds_cons rfl opnds_nil) (pubA_id rfl) (m34_reads_knownOf_c hv4) ?_
      refine sv rfl (opv_mv rfl) ?_
      refine stabput (M := s2.2) (k := v4) (i := s2.1) ke69 Try.underlying66 rfl rfl rfl rfl ?_
      refine smem [ixBlk eGReadsKnown (ixPut s2.2 v4 s2.1), .box u3] rfl ?_
      refine snil0 ?_
      refine block_normal ?_
      refine then_normal ?_
      refine cregion ?_
      refine sv rfl (opv_add rfl rfl) ?_
      refine sv rfl (opv_mv rfl) ?_
      refine snil ?_
      obtain rfl := Option.some.inj h
      exact ⟨(n2, ((wI (s2.1 + 1)), (ixPut s2.2 v4 s2.1))), _, hk2, ⟨rfl, rfl, rfl, rfl, trivial⟩, rfl, Nat.lt_succ_self _⟩
    · replace h := ite_f hc h
      clear hc
      refine cexit ?_
      refine then_exit ?_
      refine then_exit ?_
      refine block_hit ?_
      refine then_normal ?_
      obtain rfl := Option.some.inj h
      obtain rfl : _ = x2 := hk2
      exact ⟨s2.2, _, ho2, ⟨rfl, trivial⟩, rfl⟩

def m16_reads_Sane_k1 (a0 : GReadsTable) (b1 : Unit) : Option Bool :=
  if (decide ((a0.L.length : Int) ≤ 128)) then ((m33_reads_indexs a0.L).bind fun v3 => some (decide ((v3.length : Int) = (a0.L.length : Int)))) else (some false)

def m16_reads_Sane_s4 (a0 : GReadsTable) (s4 : Int) : Option (LR (Int) (Unit) (Bool)) :=
  if (decide (s4 < (a0.L.length : Int))) then ((idx a0.L s4).bind fun u5 => (m32_reads_saneRead (GReadsRead.mk u5.Tx (GApiRange.mk u5.Rng.Lo u5.Rng.Hi u5.Rng.Open))).bind fun v6 => if (!v6) then (some (.ret false)) else (some (.cont (wI (s4 + 1))))) else (some (.brk ()))
def m16_reads_Sane (a0 : GReadsTable) : Option Bool :=
  (iter (m16_reads_Sane_s4 a0) fuel 0).bind fun x => match x with | .inl r => some r | .inr e7 => m16_reads_Sane_k1 a0 e7

set_option maxRecDepth 100000 in
theorem m16_reads_Sane_c {a0 : GReadsTable} {r : Bool} (h : m16_reads_Sane a0 = some r) : CallsA Try.prog 16 [.agg [.sl a0.L.length (a0.L.flatMap eGReadsRead)]] (· = .s (.one (.b r))) := by
  unfold m16_reads_Sane at h
  refine callsA_of Try.func16 rfl (nt := 30) rfl (Nat.le_of_ble_eq_true rfl) ?_
  intro w0 S0
  refine cseq ?_
  refine cregion ?_
  refine sbox rfl rfl ?_
  refine sv rfl (opv_as rfl) ?_
  refine snil ?_
  refine cseq ?_
  refine cseq ?_
  refine cregion ?_
  refine sv rfl (opv_fieldAddr_lp fi34_0 rfl) ?_
  refine sv rfl (opv_load1 ti32 rfl (.lp _ _ _ rfl) rfl) ?_
  refine sv rfl (opv_len_sl si32 rfl) ?_
  refine sv rfl (opv_mv rfl) ?_
  refine snil ?_
  refine cjoin (Unit) (fun b1 => [(1, .s (.one (.lp 0 0)))]) (fun b1 => [.box [.sl a0.L.length (a0.L.flatMap eGReadsRead)]]) (fun b1 => m16_reads_Sane_k1 a0 b1 = some r) (fun _ _ => inbL_of rfl) (fun _ _ => blkinb_of rfl) (fun _ _ => Nat.le_of_ble_eq_true rfl) (fun b1 h => ?_) ?_
  · unfold m16_reads_Sane_k1 at h
    refine cseq ?_
    refine chole ?_
    rcases Bool.eq_false_or_eq_true (decide ((a0.L.length : Int) ≤ 128)) with hg2 | hg2
    · replace h := ite_t hg2 h
      obtain ⟨v3, hv3, h⟩ := bind_eq h
      refine cdraw_e [7] [0, 1, 3, 7, 15, 31, 63, 127, 255, 31, 543, 1567, 4095, 8191, 16383] [[.box [.sl a0.L.length (a0.L.flatMap eGReadsRead)], .hole], [.box [.sl a0.L.length (a0.L.flatMap eGReadsRead)], ixBlk eGReadsKnown v3]] (by kernel_rfl) mixed (by kernel_rfl) (by decide) rfl rfl rfl rfl ?_
      refine ev (sees_at 0 rfl rfl) rfl rfl (opv_fieldAddr_lp fi34_0 rfl) ?_
      refine ev (sees_at 0 rfl rfl) rfl rfl (opv_load1 ti32 rfl (.lp _ _ _ rfl) rfl) ?_
      refine ev (sees_at 0 rfl rfl) rfl rfl (opv_len_sl si32 rfl) ?_
      refine ev (sees_at 0 rfl rfl) rfl rfl (opv_leq rfl rfl) ?_
      refine ev (sees_at 0 rfl rfl) rfl rfl (opv_mv rfl) ?_
      refine esplit 20 rfl (fun _ => ?_) (fun hx => Bool.noConfusion (hg2.symm.trans hx))
      refine evg (sees_at 0 rfl rfl) rfl rfl rfl rfl (opv_fieldAddr_lp fi34_0 rfl) ?_
      refine evg (sees_at 0 rfl rfl) rfl rfl rfl rfl (opv_load1 ti32 rfl (.lp _ _ _ rfl) rfl) ?_
      refine eeg (x := .s (.one (.mp 0 1))) 0 rfl rfl rfl rfl rfl rfl rfl (fun ζ => ?_) ?_
      · refine scallT_at 1 rfl fn33 (.func _) (opnds_cons rfl opnds_nil) (m33_reads_indexs_c hv3) rfl rfl rfl ?_
        exact eend
      refine evg (sees_at 1 rfl rfl) rfl rfl rfl rfl (opv_tablen (e := eGReadsKnown) (M := v3) Try.underlying66 rfl rfl) ?_
      refine evg (sees_all (md := [.box [.sl a0.L.length (a0.L.flatMap eGReadsRead)], .dead]) ⟨⟨rfl, ⟨trivial, trivial⟩⟩, ⟨⟨rfl, ⟨trivial, trivial⟩⟩, trivial⟩⟩) rfl rfl rfl rfl (opv_fieldAddr_lp fi34_0 rfl) ?_
      refine evg (sees_all (md := [.box [.sl a0.L.length (a0.L.flatMap eGReadsRead)], .dead]) ⟨⟨rfl, ⟨trivial, trivial⟩⟩, ⟨⟨rfl, ⟨trivial, trivial⟩⟩, trivial⟩⟩) rfl rfl rfl rfl (opv_load1 ti32 rfl (.lp _ _ _ rfl) rfl) ?_
      refine evg (sees_all (md := [.box [.sl a0.L.length (a0.L.flatMap eGReadsRead)], .dead]) ⟨⟨rfl, ⟨trivial, trivial⟩⟩, ⟨⟨rfl, ⟨trivial, trivial⟩⟩, trivial⟩⟩) rfl rfl rfl rfl (opv_len_sl si32 rfl) ?_
      refine evg (sees_at 1 rfl rfl) rfl rfl rfl rfl (opv_ieql rfl rfl) ?_
      refine ev (sees_at 1 rfl rfl) rfl rfl (opv_pick_t rfl rfl) ?_
      refine ev (sees_at 1 rfl rfl) rfl rfl (opv_as rfl) ?_
      refine enil ?_
      refine then_normal ?_
      refine cret ?_
      obtain rfl := Option.some.inj h
      refine ⟨Or.inr rfl, _, _, _, (resVs_cons (ResV.tmp _ _ rfl) resVs_nil), (pubA_id rfl), ?_⟩
      rfl
    · replace h := ite_f hg2 h
      refine cdraw_e [] [0, 1, 3, 7, 15, 31, 63, 127, 255, 31, 543, 1567, 4095, 8191, 16383] [[.box [.sl a0.L.length (a0.L.flatMap eGReadsRead)], .hole]] (by kernel_rfl) mixed (by kernel_rfl) (by decide) rfl rfl rfl rfl ?_
      refine ev (sees_at 0 rfl rfl) rfl rfl (opv_fieldAddr_lp fi34_0 rfl) ?_
      refine ev (sees_at 0 rfl rfl) rfl rfl (opv_load1 ti32 rfl (.lp _ _ _ rfl) rfl) ?_
      refine ev (sees_at 0 rfl rfl) rfl rfl (opv_len_sl si32 rfl) ?_
      refine ev (sees_at 0 rfl rfl) rfl rfl (opv_leq rfl rfl) ?_
      refine ev (sees_at 0 rfl rfl) rfl rfl (opv_mv rfl) ?_
      refine esplit 20 rfl (fun hx => Bool.noConfusion (hg2.symm.trans hx)) (fun _ => ?_)
      refine eoffv rfl rfl rfl rfl rfl ?_
      refine eoffv rfl rfl rfl rfl rfl ?_
      refine eoffv rfl rfl rfl rfl rfl ?_
      refine eoffv rfl rfl rfl rfl rfl ?_
      refine eoffv rfl rfl rfl rfl rfl ?_
      refine eoffv rfl rfl rfl rfl rfl ?_
      refine eoffv rfl rfl rfl rfl rfl ?_
      refine eoffv rfl rfl rfl rfl rfl ?_
      refine ev (sees_at 0 rfl rfl) rfl rfl (opv_pick_f rfl rfl) ?_
      refine ev (sees_at 0 rfl rfl) rfl rfl (opv_as rfl) ?_
      refine enil ?_
      refine then_normal ?_
      refine cret ?_
      obtain rfl := Option.some.inj h
      refine ⟨Or.inr rfl, _, _, _, (resVs_cons (ResV.tmp _ _ rfl) resVs_nil), (pubA_id rfl), ?_⟩
      rfl
  · skip
    refine cblock ?_
    obtain ⟨x4, hx4, ho4⟩ := bind_eq h
    refine awc_loop (G := Nat × (Int)) (fun g => [(1, .s (.one (.lp 0 0))), (6, .s (.one (.sl a0.L.length (a0.L.flatMap eGReadsRead)))), (7, .s (.one (.i .i64 (a0.L.length : Int)))), (8, .s (.one (.i .i64 g.2)))]) (fun g => [.box [.sl a0.L.length (a0.L.flatMap eGReadsRead)]]) (fun g => iter (m16_reads_Sane_s4 a0) g.1 g.2 = some x4) (fun g => g.1) (fuel, 0) hx4 ⟨rfl, rfl, rfl, rfl, trivial⟩ [] rfl (fun _ _ => inbL_of rfl) (fun _ _ => blkinb_of rfl) (fun _ _ => Nat.le_of_ble_eq_true rfl) ?_
    clear hx4 h
    rintro ⟨n4, s4⟩ h
    obtain ⟨n4, y4, rfl, h, hk4⟩ := iter_eq h
    unfold m16_reads_Sane_s4 at h
    refine cseq ?_
    refine cregion ?_
    refine sv rfl (opv_lss rfl rfl) ?_
    refine snil ?_
    refine cseq ?_
    refine ccond rfl (fun hc => ?_) (fun hc => ?_)
    · replace h := ite_t hc h
      clear hc
      refine cskip ?_
      refine then_normal ?_
      refine cseq ?_
      refine cblock ?_
      refine cseq ?_
      refine cregion ?_
      obtain ⟨u5, hu5, h⟩ := bind_eq h
      refine sv rfl (opv_ix (f := eGReadsRead) si32 (fun _ => rfl) rfl rfl rfl rfl hu5) ?_
      refine sv rfl (opv_loadNe (ys := [.i .i64 u5.Tx, .sl u5.Rng.Lo.length (u5.Rng.Lo.flatMap eU8), .sl u5.Rng.Hi.length (u5.Rng.Hi.flatMap eU8), .b u5.Rng.Open]) ti63 rfl (.cp _) rfl rfl) ?_
      refine salloc rfl zi63 ?_
      refine sstore sz63 rfl rfl rfl rfl (Nat.le_of_ble_eq_true rfl) ?_
      refine smem [.box [.sl a0.L.length (a0.L.flatMap eGReadsRead)], .box u5] rfl ?_
      refine snil ?_
      refine cseq ?_
      refine cregion ?_
      refine sv rfl (opv_loadN ti63 rfl (.lp _ _ _ rfl) (Nat.le_of_ble_eq_true rfl)) ?_
      obtain ⟨v6, hv6, h⟩ := bind_eq h
      refine scall1 rfl fn32 (opnds_cons rfl opnds_nil) (pubA_id rfl) (m32_reads_saneRead_c hv6) ?_
      refine sv rfl (opv_not rfl) ?_
      refine snil ?_
      refine ccond rfl (fun hc => ?_) (fun hc => ?_)
      · replace h := ite_t hc h
        clear hc
        refine cseq ?_
        refine cregion ?_
        refine sv rfl (opv_as rfl) ?_
        refine snil ?_
        refine cret ?_
        refine block_ret ?_
        refine then_ret ?_
        refine then_ret ?_
        refine block_ret ?_
        refine then_ret ?_
        obtain rfl := Option.some.inj h
        obtain rfl : Sum.inl _ = x4 := hk4
        replace ho4 : some _ = some _ := ho4
        obtain rfl := Option.some.inj ho4
        refine ⟨Or.inr rfl, _, _, _, (resVs_cons (ResV.tmp _ _ rfl) resVs_nil), (pubA_id rfl), ?_⟩
        rfl
      · replace h := ite_f hc h
        clear hc
        refine cskip ?_
        refine block_normal ?_
        refine then_normal ?_
        refine cregion ?_
        refine sv rfl (opv_add rfl rfl) ?_
        refine sv rfl (opv_mv rfl) ?_
        refine snil ?_
        obtain rfl := Option.some.inj h
        exact ⟨(n4, (wI (s4 + 1))), _, hk4, ⟨rfl, rfl, rfl, rfl, trivial⟩, rfl, Nat.lt_succ_self _⟩
    · replace h := ite_f hc h
      clear hc
      refine cexit ?_
      refine then_exit ?_
      refine then_exit ?_
      refine block_hit ?_
      refine then_normal ?_
      obtain rfl := Option.some.inj h
      obtain rfl : _ = x4 := hk4
      exact ⟨(), _, ho4, ⟨rfl, trivial⟩, rfl⟩

def m47_slices_Growo_k1 (a0 : Int) (b1 : Unit) : Option (List GReadsRead) :=
  if (decide (0 < (wI (a0 - (wI (0 - 0)))))) then (if 0 < (wI (a0 - (wI (0 - 0)))) ∧ (wI (a0 - (wI (0 - 0)))) * ((64 : Nat) : Int) ≤ 281474976710656 then (if (0 : Int) ≤ 0 ∧ 0 ≤ ((List.replicate (wI (a0 - (wI (0 - 0)))).toNat (GReadsRead.mk 0 (GApiRange.mk ([] : List UInt8) ([] : List UInt8) false))).length : Int) then (some ((List.replicate (wI (a0 - (wI (0 - 0)))).toNat (GReadsRead.mk 0 (GApiRange.mk ([] : List UInt8) ([] : List UInt8) false))).take (0 : Int).toNat)) else none) else none) else (some ([] : List GReadsRead))
def m47_slices_Growo (a0 : Int) : Option (List GReadsRead) :=
  if (decide (a0 < 0)) then none else (m47_slices_Growo_k1 a0 ())

set_option maxRecDepth 100000 in
theorem m47_slices_Growo_c {a0 : Int} {r : (List GReadsRead)} (h : m47_slices_Growo a0 = some r) : CallsB Try.prog 47 [] [.one (.raw (.slice none 0 0)), .one (.i .i64 a0)] (fun y m' => y = .s (.one (.ls 0 r.length)) ∧ m' = [.arr 63 4 0 (r.flatMap eGReadsRead)]) := by
  unfold m47_slices_Growo at h
  refine callsB_of Try.func47 rfl (nt := 27) rfl (Nat.le_of_ble_eq_true rfl) ?_
  intro w0 S0 X0 H0
  refine cseq ?_
  refine cregion ?_
  refine sv rfl (opv_as rfl) ?_
  refine snil ?_
  refine cseq ?_
  refine cseq ?_
  refine cregion ?_
  refine sv rfl (opv_mv rfl) ?_
  refine sv rfl (opv_lss rfl rfl) ?_
  refine snil ?_
  refine cjoin (Unit) (fun b1 => [(0, .s (.one (.raw (.slice none 0 0)))), (1, .s (.one (.i .i64 a0)))]) (fun b1 => []) (fun b1 => m47_slices_Growo_k1 a0 b1 = some r) (fun _ _ => inbL_of rfl) (fun _ _ => blkinb_of rfl) (fun _ _ => Nat.le_of_ble_eq_true rfl) (fun b1 h => ?_) ?_
  · unfold m47_slices_Growo_k1 at h
    refine cseq ?_
    refine cseq ?_
    refine cregion ?_
    refine sv rfl (opv_mv rfl) ?_
    refine sv rfl (opv_mv rfl) ?_
    refine sv rfl (opv_cap_nil si32 rfl) ?_
    refine sv rfl (opv_mv rfl) ?_
    refine sv rfl (opv_len_nil si32 rfl) ?_
    refine sv rfl (opv_sub rfl rfl) ?_
    refine sv rfl (opv_sub rfl rfl) ?_
    refine sv rfl (opv_as rfl) ?_
    refine snil ?_
    refine cseq ?_
    refine cregion ?_
    refine sv rfl (opv_mv rfl) ?_
    refine sv rfl (opv_gtr rfl rfl) ?_
    refine snil ?_
    refine ccond rfl (fun hc => ?_) (fun hc => ?_)
    · replace h := ite_t hc h
      clear hc
      refine cregion ?_
      refine sv rfl (opv_mv rfl) ?_
      refine sv rfl (opv_mv rfl) ?_
      refine sv rfl (opv_cap_nil si32 rfl) ?_
      refine sv rfl (opv_slice_nil si32 rfl rfl) ?_
      refine sv rfl (opv_mv rfl) ?_
      obtain ⟨hm2, h⟩ := chk_eq h
      refine sappzc (f := eGReadsRead) (z := (GReadsRead.mk 0 (GApiRange.mk ([] : List UInt8) ([] : List UInt8) false))) rfl Try.underlying32 ei63 Try.underlying3 (fun _ => rfl) rfl rfl rfl hm2 (by decide) ?_
      refine sv rfl (opv_mv rfl) ?_
      refine sv rfl (opv_len_nil si32 rfl) ?_
      obtain ⟨hs3, h⟩ := chk_eq h
      refine strunc (f := eGReadsRead) rfl si32 (fun _ => rfl) rfl rfl rfl rfl rfl hs3 ?_
      refine sv rfl (opv_as rfl) ?_
      refine snil ?_
      refine cseq ?_
      refine cregion ?_
      refine sv rfl (opv_mv rfl) ?_
      refine sv rfl (opv_as rfl) ?_
      refine snil ?_
      refine cret ?_
      obtain rfl := Option.some.inj h
      exact ⟨Or.inr rfl, _, [1], [.one (.ls 0 ((List.replicate (wI (a0 - (wI (0 - 0)))).toNat (GReadsRead.mk 0 (GApiRange.mk ([] : List UInt8) ([] : List UInt8) false))).take (0 : Int).toNat).length)], [.arr 63 4 0 (((List.replicate (wI (a0 - (wI (0 - 0)))).toNat (GReadsRead.mk 0 (GApiRange.mk ([] : List UInt8) ([] : List UInt8) false))).take (0 : Int).toNat).flatMap eGReadsRead)], (resVs_cons (ResV.tmp _ _ rfl) resVs_nil), rfl, rfl, ⟨by decide, rfl⟩, rfl, rfl, ⟨rfl, rfl⟩⟩
    · replace h := ite_f hc h
      clear hc
      refine cskip ?_
      refine then_normal ?_
      refine cseq ?_
      refine cregion ?_
      refine sv rfl (opv_mv rfl) ?_
      refine sv rfl (opv_as rfl) ?_
      refine snil ?_
      refine sadopt_c 63 4 4 (by decide) rfl ?_
      refine cret ?_
      obtain rfl := Option.some.inj h
      exact ⟨Or.inr rfl, _, [0], [.one (.ls 0 ([] : List GReadsRead).length)], [.arr 63 4 0 (([] : List GReadsRead).flatMap eGReadsRead)], (resVs_cons (ResV.tmp _ _ rfl) resVs_nil), rfl, rfl, ⟨by decide, rfl⟩, rfl, rfl, ⟨rfl, rfl⟩⟩
  · skip
    refine ccond rfl (fun hc => ?_) (fun hc => ?_)
    · replace h := ite_t hc h
      clear hc
      cases h
    · replace h := ite_f hc h
      clear hc
      refine cskip ?_
      refine then_normal ?_
      exact ⟨(), _, h, ⟨rfl, rfl, trivial⟩, rfl⟩

def m35_slices_Concato_k3 (b3 : (List GReadsRead)) : Option (List GReadsRead) :=
  some b3

def m35_slices_Concato_s4 (a0 : List (List GReadsRead)) (s4 : Int × (List GReadsRead)) : Option (LB (Int × (List GReadsRead)) ((List GReadsRead))) :=
  if (decide (s4.1 < (a0.length : Int))) then ((idx a0 s4.1).bind fun u5 => if (s4.2.length + u5.length) * 64 ≤ 140737488355328 then (some (.cont ((wI (s4.1 + 1)), (s4.2 ++ u5)))) else none) else (some (.brk s4.2))

def m35_slices_Concato_k1 (a0 : List (List GReadsRead)) (b1 : Int) : Option (List GReadsRead) :=
  (m47_slices_Growo b1).bind fun v2 => (iterB (m35_slices_Concato_s4 a0) fuel (0, v2)).bind fun e7 => m35_slices_Concato_k3 e7

def m35_slices_Concato_s8 (a0 : List (List GReadsRead)) (s8 : Int × Int) : Option (LB (Int × Int) (Int)) :=
  if (decide (s8.2 < (a0.length : Int))) then ((idx a0 s8.2).bind fun u9 => if (decide ((wI (s8.1 + (u9.length : Int))) < 0)) then none else (some (.cont ((wI (s8.1 + (u9.length : Int))), (wI (s8.2 + 1)))))) else (some (.brk s8.1))
def m35_slices_Concato (a0 : List (List GReadsRead)) : Option (List GReadsRead) :=
  (iterB (m35_slices_Concato_s8 a0) fuel (0, 0)).bind fun e10 => m35_slices_Concato_k1 a0 e10

set_option maxRecDepth 100000 in
theorem m35_slices_Concato_c {a0 : List (List GReadsRead)} {r : (List GReadsRead)} (h : m35_slices_Concato a0 = some r) : CallsB Try.prog 35 [] [.one (.sl a0.length (a0.flatMap (eL eGReadsRead)))] (fun y m' => y = .s (.one (.ls 0 r.length)) ∧ m' = [.arr 63 4 0 (r.flatMap eGReadsRead)]) := by
  unfold m35_slices_Concato at h
  refine callsB_of Try.func35 rfl (nt := 36) rfl (Nat.le_of_ble_eq_true rfl) ?_
  intro w0 S0 X0 H0
  refine cseq ?_
  refine cregion ?_
  refine sv rfl (opv_as rfl) ?_
  refine snil ?_
  refine cseq ?_
  refine cregion ?_
  refine sv rfl (opv_as rfl) ?_
  refine snil ?_
  refine cseq ?_
  refine cseq ?_
  refine cregion ?_
  refine sv rfl (opv_mv rfl) ?_
  refine sv rfl (opv_len_sl si79 rfl) ?_
  refine sv rfl (opv_mv rfl) ?_
  refine snil ?_
  refine cjoin (Int) (fun b1 => [(0, .s (.one (.sl a0.length (a0.flatMap (eL eGReadsRead))))), (3, .s (.one (.i .i64 b1)))]) (fun b1 => []) (fun b1 => m35_slices_Concato_k1 a0 b1 = some r) (fun _ _ => inbL_of rfl) (fun _ _ => blkinb_of rfl) (fun _ _ => Nat.le_of_ble_eq_true rfl) (fun b1 h => ?_) ?_
  · unfold m35_slices_Concato_k1 at h
    refine cseq ?_
    refine cregion ?_
    refine sv rfl (opv_mv rfl) ?_
    obtain ⟨v2, hv2, h⟩ := bind_eq h
    refine scallB (x' := .s (.one (.ls 0 v2.length))) (M' := [.arr 63 4 0 (v2.flatMap eGReadsRead)]) [] rfl fn47 (.func _) (opnds_cons rfl (opnds_cons rfl opnds_nil)) (m47_slices_Growo_c hv2) rfl rfl (by decide) rfl rfl rfl ?_
    refine sv rfl (opv_as rfl) ?_
    refine snil ?_
    refine cseq ?_
    refine cseq ?_
    refine cregion ?_
    refine sv rfl (opv_mv rfl) ?_
    refine sv rfl (opv_len_sl si79 rfl) ?_
    refine sv rfl (opv_mv rfl) ?_
    refine snil ?_
    refine cjoin ((List GReadsRead)) (fun b3 => [(6, .s (.one (.ls 0 b3.length)))]) (fun b3 => [.arr 63 4 0 (b3.flatMap eGReadsRead)]) (fun b3 => m35_slices_Concato_k3 b3 = some r) (fun _ _ => inbL_of rfl) (fun _ _ => blkinb_of rfl) (fun _ _ => Nat.le_of_ble_eq_true rfl) (fun b3 h => ?_) ?_
    · unfold m35_slices_Concato_k3 at h
      refine cseq ?_
      refine cregion ?_
      refine sv rfl (opv_mv rfl) ?_
      refine sv rfl (opv_as rfl) ?_
      refine snil ?_
      refine cret ?_
      obtain rfl := Option.some.inj h
      exact ⟨Or.inr rfl, _, [0], [.one (.ls 0 b3.length)], [.arr 63 4 0 (b3.flatMap eGReadsRead)], (resVs_cons (ResV.tmp _ _ rfl) resVs_nil), rfl, rfl, ⟨by decide, rfl⟩, rfl, rfl, ⟨rfl, rfl⟩⟩
    · skip
      refine cblock ?_
      obtain ⟨x4, hx4, ho4⟩ := bind_eq h
      refine awc_loop (G := Nat × (Int × (List GReadsRead))) (fun g => [(6, .s (.one (.ls 0 g.2.2.length))), (25, .s (.one (.sl a0.length (a0.flatMap (eL eGReadsRead))))), (26, .s (.one (.i .i64 (a0.length : Int)))), (27, .s (.one (.i .i64 g.2.1)))]) (fun g => [.arr 63 4 0 (g.2.2.flatMap eGReadsRead)]) (fun g => iterB (m35_slices_Concato_s4 a0) g.1 g.2 = some x4) (fun g => g.1) (fuel, (0, v2)) hx4 ⟨rfl, rfl, rfl, rfl, trivial⟩ [] rfl (fun _ _ => inbL_of rfl) (fun _ _ => blkinb_of rfl) (fun _ _ => Nat.le_of_ble_eq_true rfl) ?_
      clear hx4 h
      rintro ⟨n4, s4⟩ h
      obtain ⟨n4, y4, rfl, h, hk4⟩ := iterB_eq h
      unfold m35_slices_Concato_s4 at h
      refine cseq ?_
      refine cregion ?_
      refine sv rfl (opv_lss rfl rfl) ?_
      refine snil ?_
      refine cseq ?_
      refine ccond rfl (fun hc => ?_) (fun hc => ?_)
      · replace h := ite_t hc h
        clear hc
        refine cskip ?_
        refine then_normal ?_
        refine cseq ?_
        refine cblock ?_
        refine cseq ?_
        refine cregion ?_
        obtain ⟨u5, hu5, h⟩ := bind_eq h
        refine sv rfl (opv_ix (f := (eL eGReadsRead)) si79 (fun _ => rfl) rfl rfl rfl rfl hu5) ?_
        refine sv rfl (opv_load1 ti32 rfl (.cp _) rfl) ?_
        refine sv rfl (opv_as rfl) ?_
        refine snil ?_
        refine cregion ?_
        refine sv rfl (opv_mv rfl) ?_
        refine sv rfl (opv_mv rfl) ?_
        obtain ⟨hb6, h⟩ := chk_eq h
        refine sapp (f := eGReadsRead) (xs := s4.2) (us := u5) rfl Try.underlying32 ei63 ni32 (fun _ => rfl) rfl rfl (.one _ _ _ _ (.id _ rfl)) rfl rfl rfl (.sl _ _ _ (flat_len (f := eGReadsRead) (fun _ => rfl) _)) rfl rfl hb6 (by decide) ?_
        refine sv rfl (opv_as rfl) ?_
        refine snil0 ?_
        refine block_normal ?_
        refine then_normal ?_
        refine cregion ?_
        refine sv rfl (opv_add rfl rfl) ?_
        refine sv rfl (opv_mv rfl) ?_
        refine snil ?_
        obtain rfl := Option.some.inj h
        exact ⟨(n4, ((wI (s4.1 + 1)), (s4.2 ++ u5))), _, hk4, ⟨rfl, rfl, rfl, rfl, trivial⟩, rfl, Nat.lt_succ_self _⟩
      · replace h := ite_f hc h
        clear hc
        refine cexit ?_
        refine then_exit ?_
        refine then_exit ?_
        refine block_hit ?_
        refine then_normal ?_
        obtain rfl := Option.some.inj h
        obtain rfl : _ = x4 := hk4
        exact ⟨s4.2, _, ho4, ⟨rfl, trivial⟩, rfl⟩
  · skip
    refine cblock ?_
    obtain ⟨x8, hx8, ho8⟩ := bind_eq h
    refine awc_loop (G := Nat × (Int × Int)) (fun g => [(0, .s (.one (.sl a0.length (a0.flatMap (eL eGReadsRead))))), (3, .s (.one (.i .i64 g.2.1))), (9, .s (.one (.sl a0.length (a0.flatMap (eL eGReadsRead))))), (10, .s (.one (.i .i64 (a0.length : Int)))), (11, .s (.one (.i .i64 g.2.2)))]) (fun g => []) (fun g => iterB (m35_slices_Concato_s8 a0) g.1 g.2 = some x8) (fun g => g.1) (fuel, (0, 0)) hx8 ⟨rfl, rfl, rfl, rfl, rfl, trivial⟩ [] rfl (fun _ _ => inbL_of rfl) (fun _ _ => blkinb_of rfl) (fun _ _ => Nat.le_of_ble_eq_true rfl) ?_
    clear hx8 h
    rintro ⟨n8, s8⟩ h
    obtain ⟨n8, y8, rfl, h, hk8⟩ := iterB_eq h
    unfold m35_slices_Concato_s8 at h
    refine cseq ?_
    refine cregion ?_
    refine sv rfl (opv_lss rfl rfl) ?_
    refine snil ?_
    refine cseq ?_
    refine ccond rfl (fun hc => ?_) (fun hc => ?_)
    · replace h := ite_t hc h
      clear hc
      refine cskip ?_
      refine then_normal ?_
      refine cseq ?_
      refine cblock ?_
      refine cseq ?_
      refine cregion ?_
      obtain ⟨u9, hu9, h⟩ := bind_eq h
      refine sv rfl (opv_ix (f := (eL eGReadsRead)) si79 (fun _ => rfl) rfl rfl rfl rfl hu9) ?_
      refine sv rfl (opv_load1 ti32 rfl (.cp _) rfl) ?_
      refine sv rfl (opv_as rfl) ?_
      refine snil ?_
      refine cseq ?_
      refine cregion ?_
      refine sv rfl (opv_mv rfl) ?_
      refine sv rfl (opv_mv rfl) ?_
      refine sv rfl (opv_len_sl si32 rfl) ?_
      refine sv rfl (opv_add rfl rfl) ?_
      refine sv rfl (opv_as rfl) ?_
      refine snil ?_
      refine cseq ?_
      refine cregion ?_
      refine sv rfl (opv_mv rfl) ?_
      refine sv rfl (opv_lss rfl rfl) ?_
      refine snil ?_
      refine ccond rfl (fun hc => ?_) (fun hc => ?_)
      · replace h := ite_t hc h
        clear hc
        cases h
      · replace h := ite_f hc h
        clear hc
        refine cskip ?_
        refine block_normal ?_
        refine then_normal ?_
        refine cregion ?_
        refine sv rfl (opv_add rfl rfl) ?_
        refine sv rfl (opv_mv rfl) ?_
        refine snil ?_
        obtain rfl := Option.some.inj h
        exact ⟨(n8, ((wI (s8.1 + (u9.length : Int))), (wI (s8.2 + 1)))), _, hk8, ⟨rfl, rfl, rfl, rfl, rfl, trivial⟩, rfl, Nat.lt_succ_self _⟩
    · replace h := ite_f hc h
      clear hc
      refine cexit ?_
      refine then_exit ?_
      refine then_exit ?_
      refine block_hit ?_
      refine then_normal ?_
      obtain rfl := Option.some.inj h
      obtain rfl : _ = x8 := hk8
      exact ⟨s8.1, _, ho8, ⟨rfl, rfl, trivial⟩, rfl⟩

def m12_reads_Add_k1 (a0 : GReadsTable) (a1 : Int) (a2 : GApiRange) (b1 : Unit) : Option (GReadsTable × Int) :=
  (m33_reads_indexs a0.L).bind fun v2 => (m34_reads_knownOf (GReadsRead.mk a1 a2)).bind fun v3 => if (ixHas v2 v3) then (some ((GReadsTable.mk a0.L), 0)) else (if (decide (128 ≤ (a0.L.length : Int))) then (some ((GReadsTable.mk ([] : List GReadsRead)), 8)) else ((m35_slices_Concato [a0.L, [(GReadsRead.mk a1 a2)]]).bind fun v4 => some ((GReadsTable.mk v4), 0)))
def m12_reads_Add (a0 : GReadsTable) (a1 : Int) (a2 : GApiRange) : Option (GReadsTable × Int) :=
  (m16_reads_Sane (GReadsTable.mk a0.L)).bind fun v5 => if (!v5) then (some ((GReadsTable.mk ([] : List GReadsRead)), 1)) else ((m32_reads_saneRead (GReadsRead.mk a1 a2)).bind fun v6 => if (!v6) then (some ((GReadsTable.mk ([] : List GReadsRead)), 1)) else (m12_reads_Add_k1 a0 a1 a2 ()))

set_option maxRecDepth 100000 in
theorem m12_reads_Add_c {a0 : GReadsTable} {a1 : Int} {a2 : GApiRange} {r : GReadsTable × Int} (h : m12_reads_Add a0 a1 a2 = some r) : CallsA Try.prog 12 [.agg [.sl a0.L.length (a0.L.flatMap eGReadsRead)], .one (.i .i64 a1), .agg a2] (· = .tup [.agg [.sl r.1.L.length (r.1.L.flatMap eGReadsRead)], .one (.i .i64 r.2)]) := by
  unfold m12_reads_Add at h
  refine callsA_of Try.func12 rfl (nt := 46) rfl (Nat.le_of_ble_eq_true rfl) ?_
  intro w0 S0
  refine cseq ?_
  refine cregion ?_
  refine sbox rfl rfl ?_
  refine sbox rfl rfl ?_
  refine salloc rfl zi34 ?_
  refine sv rfl (opv_as rfl) ?_
  refine snil ?_
  refine cseq ?_
  refine cregion ?_
  refine sv rfl (opv_mv rfl) ?_
  refine sv rfl (opv_loadN ti27 rfl (.lp _ _ _ rfl) (Nat.le_of_ble_eq_true rfl)) ?_
  refine sv rfl (opv_build zi63 pi63 (parts_cons rfl (parts_cons rfl parts_nil)) (.cons _ _ _ _ _ _ _ rfl rfl (Nat.le_of_ble_eq_true rfl) (.cons _ _ _ _ _ _ _ rfl rfl (Nat.le_of_ble_eq_true rfl) (.nil _)))) ?_
  refine salloc rfl zi63 ?_
  refine sstore sz63 rfl rfl rfl rfl (Nat.le_of_ble_eq_true rfl) ?_
  refine smem [.box [.sl a0.L.length (a0.L.flatMap eGReadsRead)], .box a2, .box [.raw (.slice none 0 0)], .box [.i .i64 a1, .sl a2.Lo.length (a2.Lo.flatMap eU8), .sl a2.Hi.length (a2.Hi.flatMap eU8), .b a2.Open]] rfl ?_
  refine snil ?_
  refine cseq ?_
  refine cseq ?_
  refine cjoin3 (Unit) (fun b1 => [(3, .s (.one (.lp 0 0))), (6, .s (.one (.lp 2 0))), (8, .s (.one (.lp 3 0)))]) (fun b1 => [.box [.sl a0.L.length (a0.L.flatMap eGReadsRead)], .box a2, .box [.raw (.slice none 0 0)], .box [.i .i64 a1, .sl a2.Lo.length (a2.Lo.flatMap eU8), .sl a2.Hi.length (a2.Hi.flatMap eU8), .b a2.Open]]) (fun b1 => m12_reads_Add_k1 a0 a1 a2 b1 = some r) (fun _ _ => inbL_of rfl) (fun _ _ => blkinb_of rfl) (fun _ _ => Nat.le_of_ble_eq_true rfl) (fun b1 h => ?_) ?_
  · unfold m12_reads_Add_k1 at h
    refine cseq ?_
    refine cseq ?_
    refine chole ?_
    obtain ⟨v2, hv2, h⟩ := bind_eq h
    obtain ⟨v3, hv3, h⟩ := bind_eq h
    refine cdraw_e [2] [0, 1, 3, 0, 15, 31, 63, 127, 127, 255, 1023] [[.box [.sl a0.L.length (a0.L.flatMap eGReadsRead)], .box a2, .box [.raw (.slice none 0 0)], .box [.i .i64 a1, .sl a2.Lo.length (a2.Lo.flatMap eU8), .sl a2.Hi.length (a2.Hi.flatMap eU8), .b a2.Open], .hole], [.box [.sl a0.L.length (a0.L.flatMap eGReadsRead)], .box a2, .box [.raw (.slice none 0 0)], .box [.i .i64 a1, .sl a2.Lo.length (a2.Lo.flatMap eU8), .sl a2.Hi.length (a2.Hi.flatMap eU8), .b a2.Open], ixBlk eGReadsKnown v2]] (by kernel_rfl) mixed (by kernel_rfl) (by decide) rfl rfl rfl rfl ?_
    refine ev (sees_at 0 rfl rfl) rfl rfl (opv_fieldAddr_lp fi34_0 rfl) ?_
    refine ev (sees_at 0 rfl rfl) rfl rfl (opv_load1 ti32 rfl (.lp _ _ _ rfl) rfl) ?_
    refine ee (x := .s (.one (.mp 0 4))) 0 rfl rfl rfl rfl rfl (fun ζ => ?_) ?_
    · refine scallT_at 4 rfl fn33 (.func _) (opnds_cons rfl opnds_nil) (m33_reads_indexs_c hv2) rfl rfl rfl ?_
      exact eend
    refine ev (sees_all (md := [.box [.sl a0.L.length (a0.L.flatMap eGReadsRead)], .box a2, .box [.raw (.slice none 0 0)], .box [.i .i64 a1, .sl a2.Lo.length (a2.Lo.flatMap eU8), .sl a2.Hi.length (a2.Hi.flatMap eU8), .b a2.Open], .dead]) ⟨⟨rfl, ⟨rfl, ⟨rfl, ⟨rfl, ⟨trivial, trivial⟩⟩⟩⟩⟩, ⟨⟨rfl, ⟨rfl, ⟨rfl, ⟨rfl, ⟨trivial, trivial⟩⟩⟩⟩⟩, trivial⟩⟩) rfl rfl (opv_loadN ti63 rfl (.lp _ _ _ rfl) (Nat.le_of_ble_eq_true rfl)) ?_
    refine ed (sees_at 1 rfl rfl) rfl rfl (opD_call fn34 (opnds_cons rfl opnds_nil) rfl (m34_reads_knownOf_c hv3)) ?_
    refine ev (sees_at 1 rfl rfl) rfl rfl (opv_tabget (M := v2) (k := v3) ke69 Try.underlying66 zv3 rfl rfl rfl) ?_
    refine ev (sees_at 1 rfl rfl) rfl rfl (opv_mvt rfl) ?_
    refine ev (sees_at 1 rfl rfl) rfl rfl (opv_extract rfl rfl) ?_
    refine ev (sees_at 1 rfl rfl) rfl rfl (opv_extract rfl rfl) ?_
    refine ev (sees_at 1 rfl rfl) rfl rfl (opv_as rfl) ?_
    refine ev (sees_at 1 rfl rfl) rfl rfl (opv_as rfl) ?_
    refine enil ?_
    refine then_normal ?_
    refine cseq ?_
    refine cregion ?_
    refine sv rfl (opv_mv rfl) ?_
    refine snil ?_
    refine ccond rfl (fun hc => ?_) (fun hc => ?_)
    · replace h := ite_t hc h
      clear hc
      refine cseq ?_
      refine cregion ?_
      refine sv rfl (opv_loadN ti34 rfl (.lp _ _ _ rfl) (Nat.le_of_ble_eq_true rfl)) ?_
      refine sstore sz34 rfl rfl rfl rfl (Nat.le_of_ble_eq_true rfl) ?_
      refine smem [.box [.sl a0.L.length (a0.L.flatMap eGReadsRead)], .box a2, .box [.sl a0.L.length (a0.L.flatMap eGReadsRead)], .box [.i .i64 a1, .sl a2.Lo.length (a2.Lo.flatMap eU8), .sl a2.Hi.length (a2.Hi.flatMap eU8), .b a2.Open], ixBlk eGReadsKnown v2] rfl ?_
      refine sv rfl (opv_as rfl) ?_
      refine snil ?_
      refine cret ?_
      refine then_ret ?_
      obtain rfl := Option.some.inj h
      refine ⟨Or.inr rfl, _, _, _, (resVs_cons (ResV.agg _ _ _ _ _ ti34 rfl (.lp _ _ _ rfl) (Nat.le_of_ble_eq_true rfl)) (resVs_cons (ResV.tmp _ _ rfl) resVs_nil)), (pubA_id rfl), ?_⟩
      rfl
    · replace h := ite_f hc h
      clear hc
      refine cskip ?_
      refine then_normal ?_
      refine cseq ?_
      refine cseq ?_
      refine cregion ?_
      refine sv rfl (opv_fieldAddr_lp fi34_0 rfl) ?_
      refine sv rfl (opv_load1 ti32 rfl (.lp _ _ _ rfl) rfl) ?_
      refine sv rfl (opv_len_sl si32 rfl) ?_
      refine sv rfl (opv_geq rfl rfl) ?_
      refine snil ?_
      refine ccond rfl (fun hc => ?_) (fun hc => ?_)
      · replace h := ite_t hc h
        clear hc
        refine cseq ?_
        refine cregion ?_
        refine sv rfl (opv_build zi34 pi34 parts_nil (.nil _)) ?_
        refine sstore sz34 rfl rfl rfl rfl (Nat.le_of_ble_eq_true rfl) ?_
        refine smem [.box [.sl a0.L.length (a0.L.flatMap eGReadsRead)], .box a2, .box [.raw (.slice none 0 0)], .box [.i .i64 a1, .sl a2.Lo.length (a2.Lo.flatMap eU8), .sl a2.Hi.length (a2.Hi.flatMap eU8), .b a2.Open], ixBlk eGReadsKnown v2] rfl ?_
        refine sv rfl (opv_as rfl) ?_
        refine snil ?_
        refine cret ?_
        refine then_ret ?_
        obtain rfl := Option.some.inj h
        refine ⟨Or.inr rfl, _, _, _, (resVs_cons (ResV.agg _ _ _ _ _ ti34 rfl (.lp _ _ _ rfl) (Nat.le_of_ble_eq_true rfl)) (resVs_cons (ResV.tmp _ _ rfl) resVs_nil)), (pubC rfl), ?_⟩
        rfl
      · replace h := ite_f hc h
        clear hc
        refine cskip ?_
        refine then_normal ?_
        refine cseq ?_
        refine cregion ?_
        refine sv rfl (opv_fieldAddr_lp fi34_0 rfl) ?_
        refine sv rfl (opv_load1 ti32 rfl (.lp _ _ _ rfl) rfl) ?_
        refine sv rfl (opv_loadN ti63 rfl (.lp _ _ _ rfl) (Nat.le_of_ble_eq_true rfl)) ?_
        refine sbuild1 rfl Try.underlying32 ei63 rfl rfl (List.all_eq_true.1 rfl) (by decide) ?_
        refine smem [.box [.sl a0.L.length (a0.L.flatMap eGReadsRead)], .box a2, .box [.raw (.slice none 0 0)], .box [.i .i64 a1, .sl a2.Lo.length (a2.Lo.flatMap eU8), .sl a2.Hi.length (a2.Hi.flatMap eU8), .b a2.Open], ixBlk eGReadsKnown v2, .arr 63 4 0 ([(GReadsRead.mk a1 a2)].flatMap eGReadsRead)] rfl ?_
        refine spub 42 rfl (by (repeat' first | exact PubA.nil _ | apply PubA.cons | apply PubV.one | apply PubV.agg | exact PubL.nil | exact PubL.ls _ _ _ _ _ _ rfl (flat_len (f := eGReadsRead) (fun _ => rfl) ([(GReadsRead.mk a1 a2)] : List GReadsRead)).symm | exact PubL.ls _ _ _ _ _ _ rfl (flat_len (f := eGReadsRead) (fun _ => rfl) _).symm | exact PubL.id _ rfl | exact PubLs.nil _ | apply PubLs.cons)) ?_
        refine sbuildN (out := ([a0.L, [(GReadsRead.mk a1 a2)]] : List (List GReadsRead)).flatMap (eL eGReadsRead)) rfl Try.underlying79 ei32 (parts_cons rfl (parts_cons rfl parts_nil)) (.cons _ _ _ _ _ _ _ rfl rfl (Nat.le_of_ble_eq_true rfl) (.cons _ _ _ _ _ _ _ rfl rfl (Nat.le_of_ble_eq_true rfl) (.nil _))) rfl (by decide) ?_
        refine spub 43 rfl (by (repeat' first | exact PubA.nil _ | apply PubA.cons | apply PubV.one | apply PubV.agg | exact PubL.nil | exact PubL.ls _ _ _ _ _ _ rfl (flat_len (f := (eL eGReadsRead)) (fun _ => rfl) ([a0.L, [(GReadsRead.mk a1 a2)]] : List (List GReadsRead))).symm | exact PubL.ls _ _ _ _ _ _ rfl (flat_len (f := (eL eGReadsRead)) (fun _ => rfl) _).symm | exact PubL.ls _ _ _ _ _ _ rfl (flat_len (f := eGReadsRead) (fun _ => rfl) _).symm | exact PubL.id _ rfl | exact PubLs.nil _ | apply PubLs.cons)) ?_
        obtain ⟨v4, hv4, h⟩ := bind_eq h
        refine scallB (x' := .s (.one (.ls 7 v4.length))) (M' := [.box [.sl a0.L.length (a0.L.flatMap eGReadsRead)], .box a2, .box [.raw (.slice none 0 0)], .box [.i .i64 a1, .sl a2.Lo.length (a2.Lo.flatMap eU8), .sl a2.Hi.length (a2.Hi.flatMap eU8), .b a2.Open], ixBlk eGReadsKnown v2, .arr 63 4 ([(GReadsRead.mk a1 a2)].flatMap eGReadsRead).length ([(GReadsRead.mk a1 a2)].flatMap eGReadsRead), .arr 32 1 ([a0.L, [(GReadsRead.mk a1 a2)]].flatMap (eL eGReadsRead)).length ([a0.L, [(GReadsRead.mk a1 a2)]].flatMap (eL eGReadsRead)), .arr 63 4 0 (v4.flatMap eGReadsRead)]) [] rfl fn35 (.func _) (opnds_cons rfl opnds_nil) (m35_slices_Concato_c hv4) rfl rfl (by decide) rfl rfl rfl ?_
        refine sv rfl (opv_build zi34 pi34 (parts_cons rfl parts_nil) (.cons _ _ _ _ _ _ _ rfl rfl (Nat.le_of_ble_eq_true rfl) (.nil _))) ?_
        refine sstore sz34 rfl rfl rfl rfl (Nat.le_of_ble_eq_true rfl) ?_
        refine smem [.box [.sl a0.L.length (a0.L.flatMap eGReadsRead)], .box a2, .box [.ls 7 v4.length], .box [.i .i64 a1, .sl a2.Lo.length (a2.Lo.flatMap eU8), .sl a2.Hi.length (a2.Hi.flatMap eU8), .b a2.Open], ixBlk eGReadsKnown v2, .arr 63 4 ([(GReadsRead.mk a1 a2)].flatMap eGReadsRead).length ([(GReadsRead.mk a1 a2)].flatMap eGReadsRead), .arr 32 1 ([a0.L, [(GReadsRead.mk a1 a2)]].flatMap (eL eGReadsRead)).length ([a0.L, [(GReadsRead.mk a1 a2)]].flatMap (eL eGReadsRead)), .arr 63 4 0 (v4.flatMap eGReadsRead)] rfl ?_
        refine sv rfl (opv_as rfl) ?_
        refine snil ?_
        refine cret ?_
        obtain rfl := Option.some.inj h
        refine ⟨Or.inr rfl, _, _, _, (resVs_cons (ResV.agg _ _ _ _ _ ti34 rfl (.lp _ _ _ rfl) (Nat.le_of_ble_eq_true rfl)) (resVs_cons (ResV.tmp _ _ rfl) resVs_nil)), (by (repeat' first | exact PubA.nil _ | apply PubA.cons | apply PubV.one | apply PubV.agg | exact PubL.nil | exact PubL.ls _ _ _ _ _ _ rfl (flat_len (f := (eL eGReadsRead)) (fun _ => rfl) _).symm | exact PubL.ls _ _ _ _ _ _ rfl (flat_len (f := eGReadsRead) (fun _ => rfl) _).symm | exact PubL.id _ rfl | exact PubLs.nil _ | apply PubLs.cons)), ?_⟩
        rfl
  · skip
    refine cregion ?_
    refine sv rfl (opv_loadN ti34 rfl (.lp _ _ _ rfl) (Nat.le_of_ble_eq_true rfl)) ?_
    obtain ⟨v5, hv5, h⟩ := bind_eq h
    refine scall1 rfl fn16 (opnds_cons rfl opnds_nil) (pubA_id rfl) (m16_reads_Sane_c hv5) ?_
    refine sv rfl (opv_not rfl) ?_
    refine sv rfl (opv_mv rfl) ?_
    refine ssplit 17 rfl (fun hc => ?_) (fun hc => ?_)
    · replace h := ite_t hc h
      clear hc
      refine soff rfl rfl rfl rfl ?_
      refine soff rfl rfl rfl rfl ?_
      refine soff rfl rfl rfl rfl ?_
      refine sv rfl (opv_pick_t rfl rfl) ?_
      refine snil ?_
      refine ccond rfl (fun _ => ?_) (fun hx => Bool.noConfusion hx)
      refine cseq ?_
      refine cregion ?_
      refine sv rfl (opv_build zi34 pi34 parts_nil (.nil _)) ?_
      refine sstore sz34 rfl rfl rfl rfl (Nat.le_of_ble_eq_true rfl) ?_
      refine smem [.box [.sl a0.L.length (a0.L.flatMap eGReadsRead)], .box a2, .box [.raw (.slice none 0 0)], .box [.i .i64 a1, .sl a2.Lo.length (a2.Lo.flatMap eU8), .sl a2.Hi.length (a2.Hi.flatMap eU8), .b a2.Open]] rfl ?_
      refine sv rfl (opv_as rfl) ?_
      refine snil ?_
      refine cret ?_
      refine then_ret ?_
      obtain rfl := Option.some.inj h
      refine ⟨Or.inr rfl, _, _, _, (resVs_cons (ResV.agg _ _ _ _ _ ti34 rfl (.lp _ _ _ rfl) (Nat.le_of_ble_eq_true rfl)) (resVs_cons (ResV.tmp _ _ rfl) resVs_nil)), (pubC rfl), ?_⟩
      rfl
    · replace h := ite_f hc h
      clear hc
      refine son rfl rfl rfl ?_
      refine sv rfl (opv_loadN ti63 rfl (.lp _ _ _ rfl) (Nat.le_of_ble_eq_true rfl)) ?_
      refine son rfl rfl rfl ?_
      obtain ⟨v6, hv6, h⟩ := bind_eq h
      refine scall1 rfl fn32 (opnds_cons rfl opnds_nil) (pubA_id rfl) (m32_reads_saneRead_c hv6) ?_
      refine son rfl rfl rfl ?_
      refine sv rfl (opv_not rfl) ?_
      refine sv rfl (opv_pick_f rfl rfl) ?_
      refine snil ?_
      refine ccond rfl (fun hc => ?_) (fun hc => ?_)
      · replace h := ite_t hc h
        clear hc
        refine cseq ?_
        refine cregion ?_
        refine sv rfl (opv_build zi34 pi34 parts_nil (.nil _)) ?_
        refine sstore sz34 rfl rfl rfl rfl (Nat.le_of_ble_eq_true rfl) ?_
        refine smem [.box [.sl a0.L.length (a0.L.flatMap eGReadsRead)], .box a2, .box [.raw (.slice none 0 0)], .box [.i .i64 a1, .sl a2.Lo.length (a2.Lo.flatMap eU8), .sl a2.Hi.length (a2.Hi.flatMap eU8), .b a2.Open]] rfl ?_
        refine sv rfl (opv_as rfl) ?_
        refine snil ?_
        refine cret ?_
        refine then_ret ?_
        obtain rfl := Option.some.inj h
        refine ⟨Or.inr rfl, _, _, _, (resVs_cons (ResV.agg _ _ _ _ _ ti34 rfl (.lp _ _ _ rfl) (Nat.le_of_ble_eq_true rfl)) (resVs_cons (ResV.tmp _ _ rfl) resVs_nil)), (pubC rfl), ?_⟩
        rfl
      · replace h := ite_f hc h
        clear hc
        refine cskip ?_
        refine then_normal ?_
        exact ⟨(), _, h, ⟨rfl, rfl, rfl, trivial⟩, rfl⟩

def m38_keys_Has (a0 : GApiRange) (a1 : List UInt8) : Option Bool :=
  (m50_keys_Cmp a1 a0.Lo).bind fun v1 => if (decide (0 ≤ v1)) then (if a0.Open then (some true) else ((m50_keys_Cmp a1 a0.Hi).bind fun v2 => some (decide (v2 < 0)))) else (some false)

set_option maxRecDepth 100000 in
theorem m38_keys_Has_c {a0 : GApiRange} {a1 : List UInt8} {r : Bool} (h : m38_keys_Has a0 a1 = some r) : CallsA Try.prog 38 [.agg a0, .one (.sl a1.length (a1.flatMap eU8))] (· = .s (.one (.b r))) := by
  unfold m38_keys_Has at h
  refine callsA_of Try.func38 rfl (nt := 21) rfl (Nat.le_of_ble_eq_true rfl) ?_
  intro w0 S0
  refine cseq ?_
  refine cregion ?_
  refine sbox rfl rfl ?_
  refine sv rfl (opv_as rfl) ?_
  refine snil ?_
  refine cseq ?_
  refine cregion ?_
  refine sv rfl (opv_mv rfl) ?_
  refine sv rfl (opv_fieldAddr_lp fi27_0 rfl) ?_
  refine sv rfl (opv_load1 ti25 rfl (.lp _ _ _ rfl) rfl) ?_
  obtain ⟨v1, hv1, h⟩ := bind_eq h
  refine scall1 rfl fn50 (opnds_cons rfl (opnds_cons rfl opnds_nil)) (pubA_id rfl) (m50_keys_Cmp_c hv1) ?_
  refine sv rfl (opv_geq rfl rfl) ?_
  refine sv rfl (opv_mv rfl) ?_
  refine ssplit 10 rfl (fun hc => ?_) (fun hc => ?_)
  · replace h := ite_t hc h
    clear hc
    refine son rfl rfl rfl ?_
    refine sv rfl (opv_fieldAddr_lp fi27_2 rfl) ?_
    refine son rfl rfl rfl ?_
    refine sv rfl (opv_load1 ti4 rfl (.lp _ _ _ rfl) rfl) ?_
    refine son rfl rfl rfl ?_
    refine sv rfl (opv_mv rfl) ?_
    refine ssplit 13 rfl (fun hc => ?_) (fun hc => ?_)
    · replace h := ite_t hc h
      clear hc
      refine soff rfl rfl rfl rfl ?_
      refine soff rfl rfl rfl rfl ?_
      refine soff rfl rfl rfl rfl ?_
      refine soff rfl rfl rfl rfl ?_
      refine soff rfl rfl rfl rfl ?_
      refine son rfl rfl rfl ?_
      refine sv rfl (opv_pick_t rfl rfl) ?_
      refine sv rfl (opv_pick_t rfl rfl) ?_
      refine sv rfl (opv_as rfl) ?_
      refine snil ?_
      refine cret ?_
      obtain rfl := Option.some.inj h
      refine ⟨Or.inr rfl, _, _, _, (resVs_cons (ResV.tmp _ _ rfl) resVs_nil), (pubA_id rfl), ?_⟩
      rfl
    · replace h := ite_f hc h
      clear hc
      refine son rfl rfl rfl ?_
      refine sv rfl (opv_mv rfl) ?_
      refine son rfl rfl rfl ?_
      refine sv rfl (opv_fieldAddr_lp fi27_1 rfl) ?_
      refine son rfl rfl rfl ?_
      refine sv rfl (opv_load1 ti25 rfl (.lp _ _ _ rfl) rfl) ?_
      refine son rfl rfl rfl ?_
      obtain ⟨v2, hv2, h⟩ := bind_eq h
      refine scall1 rfl fn50 (opnds_cons rfl (opnds_cons rfl opnds_nil)) (pubA_id rfl) (m50_keys_Cmp_c hv2) ?_
      refine son rfl rfl rfl ?_
      refine sv rfl (opv_lss rfl rfl) ?_
      refine son rfl rfl rfl ?_
      refine sv rfl (opv_pick_f rfl rfl) ?_
      refine sv rfl (opv_pick_t rfl rfl) ?_
      refine sv rfl (opv_as rfl) ?_
      refine snil ?_
      refine cret ?_
      obtain rfl := Option.some.inj h
      refine ⟨Or.inr rfl, _, _, _, (resVs_cons (ResV.tmp _ _ rfl) resVs_nil), (pubA_id rfl), ?_⟩
      rfl
  · replace h := ite_f hc h
    clear hc
    refine soff rfl rfl rfl rfl ?_
    refine soff rfl rfl rfl rfl ?_
    refine soff rfl rfl rfl rfl ?_
    refine soffu rfl rfl rfl ?_
    refine soffu rfl rfl rfl ?_
    refine soffu rfl rfl rfl ?_
    refine soffu rfl rfl rfl ?_
    refine soffu rfl rfl rfl ?_
    refine soff rfl rfl rfl rfl ?_
    refine sv rfl (opv_pick_f rfl rfl) ?_
    refine sv rfl (opv_as rfl) ?_
    refine snil ?_
    refine cret ?_
    obtain rfl := Option.some.inj h
    refine ⟨Or.inr rfl, _, _, _, (resVs_cons (ResV.tmp _ _ rfl) resVs_nil), (pubA_id rfl), ?_⟩
    rfl

def srt39_ren : Go.Shelf.Ren := ⟨fun | 5 => 39 | 8 => 52 | 7 => 51 | 19 => 65 | 20 => 66 | 10 => 56 | 11 => 57 | 12 => 58 | 13 => 59 | 14 => 60 | 15 => 61 | 16 => 62 | 17 => 63 | 18 => 64 | 30 => 69 | 31 => 70 | 32 => 71 | 33 => 72 | 34 => 73 | 35 => 74 | 40 => 75 | n => n, fun | 23 => 28 | 25 => 3 | 3 => 3 | 32 => 83 | 22 => 28 | 0 => 0 | 44 => 95 | 46 => 97 | 4 => 4 | 36 => 88 | 35 => 87 | 41 => 65 | 5 => 5 | 9 => 9 | 53 => 99 | 57 => 103 | 63 => 106 | 64 => 107 | n => n, fun | n => n⟩
theorem srt39 : Go.Proofs.SlLaysM.n5 Try.prog srt39_ren := {
  mixed := by kernel_rfl,
  f5 :=⟨ "slices.Sort[[]int,int]", by decide, Try.func39.trans (congrArg some (by kernel_rfl))⟩,
  f7 :=⟨ "slices.pdqsortOrdered[int]", by decide, Try.func51.trans (congrArg some (by kernel_rfl))⟩,
  f8 := Try.func52.trans (congrArg some (by kernel_rfl)),
  f10 :=⟨ "slices.insertionSortOrdered[int]", by decide, Try.func56.trans (congrArg some (by kernel_rfl))⟩,
  f11 :=⟨ "slices.heapSortOrdered[int]", by decide, Try.func57.trans (congrArg some (by kernel_rfl))⟩,
  f12 :=⟨ "slices.breakPatternsOrdered[int]", by decide, Try.func58.trans (congrArg some (by kernel_rfl))⟩,
  f13 :=⟨ "slices.choosePivotOrdered[int]", by decide, Try.func59.trans (congrArg some (by kernel_rfl))⟩,
  f14 :=⟨ "slices.reverseRangeOrdered[int]", by decide, Try.func60.trans (congrArg some (by kernel_rfl))⟩,
  f15 :=⟨ "slices.partialInsertionSortOrdered[int]", by decide, Try.func61.trans (congrArg some (by kernel_rfl))⟩,
  f16 :=⟨ "cmp.Less[int]", by decide, Try.func62.trans (congrArg some (by kernel_rfl))⟩,
  f17 :=⟨ "slices.partitionEqualOrdered[int]", by decide, Try.func63.trans (congrArg some (by kernel_rfl))⟩,
  f18 :=⟨ "slices.partitionOrdered[int]", by decide, Try.func64.trans (congrArg some (by kernel_rfl))⟩,
  f19 := Try.func65.trans (congrArg some (by kernel_rfl)),
  f20 := Try.func66.trans (congrArg some (by kernel_rfl)),
  f30 :=⟨ "slices.siftDownOrdered[int]", by decide, Try.func69.trans (congrArg some (by kernel_rfl))⟩,
  f31 := Try.func70.trans (congrArg some (by kernel_rfl)),
  f32 := Try.func71.trans (congrArg some (by kernel_rfl)),
  f33 :=⟨ "slices.medianAdjacentOrdered[int]", by decide, Try.func72.trans (congrArg some (by kernel_rfl))⟩,
  f34 :=⟨ "slices.medianOrdered[int]", by decide, Try.func73.trans (congrArg some (by kernel_rfl))⟩,
  f35 :=⟨ "cmp.isNaN[int]", by decide, Try.func74.trans (congrArg some (by kernel_rfl))⟩,
  f40 :=⟨ "slices.order2Ordered[int]", by decide, Try.func75.trans (congrArg some (by kernel_rfl))⟩,
  t0 := Try.underlying0,
  a0 := Try.isAgg0,
  z0 := Try.sizeOf0,
  v0 := Try.zeroValue0,
  t3 := Try.underlying3,
  a3 := Try.isAgg3,
  z3 := Try.sizeOf3,
  v3 := Try.zeroValue3,
  t4 := Try.underlying4,
  a4 := Try.isAgg4,
  z4 := Try.sizeOf4,
  v4 := Try.zeroValue4,
  t5 := Try.underlying5,
  a5 := Try.isAgg5,
  z5 := Try.sizeOf5,
  v5 := Try.zeroValue5,
  t9 := Try.underlying9,
  a9 := Try.isAgg9,
  z9 := Try.sizeOf9,
  v9 := Try.zeroValue9,
  t22 := Try.underlying28,
  a22 := Try.isAgg28,
  z22 := Try.sizeOf28,
  v22 := Try.zeroValue28,
  t23 := Try.underlying28,
  a23 := Try.isAgg28,
  z23 := Try.sizeOf28,
  v23 := Try.zeroValue28,
  t25 := Try.underlying3,
  a25 := Try.isAgg3,
  z25 := Try.sizeOf3,
  v25 := Try.zeroValue3,
  t32 := Try.underlying83,
  a32 := Try.isAgg83,
  z32 := Try.sizeOf83,
  v32 := Try.zeroValue83,
  t35 := Try.underlying87,
  a35 := Try.isAgg87,
  z35 := Try.sizeOf87,
  v35 := Try.zeroValue87,
  t36 := Try.underlying88,
  a36 := Try.isAgg88,
  z36 := Try.sizeOf88,
  v36 := Try.zeroValue88,
  t41 := Try.underlying65,
  a41 := Try.isAgg65,
  z41 := Try.sizeOf65,
  v41 := Try.zeroValue65,
  t44 := Try.underlying95,
  a44 := Try.isAgg95,
  z44 := Try.sizeOf95,
  v44 := Try.zeroValue95,
  t46 := Try.underlying97,
  a46 := Try.isAgg97,
  z46 := Try.sizeOf97,
  v46 := Try.zeroValue97,
  t53 := Try.underlying99,
  a53 := Try.isAgg99,
  z53 := Try.sizeOf99,
  v53 := Try.zeroValue99,
  t57 := Try.underlying103,
  a57 := Try.isAgg103,
  z57 := Try.sizeOf103,
  v57 := Try.zeroValue103,
  t63 := Try.underlying106,
  a63 := Try.isAgg106,
  z63 := Try.sizeOf106,
  v63 := Try.zeroValue106,
  t64 := Try.underlying107,
  a64 := Try.isAgg107,
  z64 := Try.sizeOf107,
  v64 := Try.zeroValue107
  }
def m39_slices_Sort (a0 : List Int) : Option (List Int) := if a0.length ≤ 1000000000000000000 then some (a0.mergeSort fun x y => decide (x ≤ y)) else none
theorem m39_slices_Sort_c {a0 r : List Int} (h : m39_slices_Sort a0 = some r) : CallsB Try.prog 39 [.arr 3 1 0 (a0.flatMap eI)] [.one (.ls 0 a0.length)] (fun y m' => y = .tup [] ∧ m' = [.arr 3 1 0 (r.flatMap eI)]) := by
  unfold m39_slices_Sort at h
  obtain ⟨hn, h⟩ := chk_eq h
  obtain rfl := Option.some.inj h
  exact sortN_B srt39 hn

def cpt40_ren : Go.Shelf.Ren := ⟨fun | 43 => 40 | n => n, fun | 22 => 28 | 23 => 3 | 3 => 3 | 4 => 4 | 0 => 0 | n => n, fun | n => n⟩
theorem cpt40 : Go.Proofs.SlLaysE.n43 Try.prog cpt40_ren := {
  mixed := by kernel_rfl,
  f43 :=⟨ "slices.Compact[[]int,int]", by decide, Try.func40.trans (congrArg some (by kernel_rfl))⟩,
  t0 := Try.underlying0,
  a0 := Try.isAgg0,
  z0 := Try.sizeOf0,
  v0 := Try.zeroValue0,
  t3 := Try.underlying3,
  a3 := Try.isAgg3,
  z3 := Try.sizeOf3,
  v3 := Try.zeroValue3,
  t4 := Try.underlying4,
  a4 := Try.isAgg4,
  z4 := Try.sizeOf4,
  v4 := Try.zeroValue4,
  t22 := Try.underlying28,
  a22 := Try.isAgg28,
  z22 := Try.sizeOf28,
  v22 := Try.zeroValue28,
  a23 := Try.isAgg3,
  z23 := Try.sizeOf3
  }
theorem cpt40_nil : CallsA Try.prog 40 [.one (.raw (.slice none 0 0))] (· = .s (.one (.raw (.slice none 0 0)))) := by
  refine callsA_of Try.func40 rfl (nt := 61) rfl (Nat.le_of_ble_eq_true rfl) ?_
  intro w0 S0
  refine cseq ?_
  refine cregion ?_
  refine sv rfl (opv_as rfl) ?_
  refine snil ?_
  refine cseq ?_
  refine cseq ?_
  refine cregion ?_
  refine sv rfl (opv_mv rfl) ?_
  refine sv rfl (opv_len_nil si28 rfl) ?_
  refine sv rfl (opv_lss rfl rfl) ?_
  refine snil ?_
  refine ccond rfl (fun _ => ?_) (fun hx => absurd hx (by decide))
  refine cseq ?_
  refine cregion ?_
  refine sv rfl (opv_mv rfl) ?_
  refine sv rfl (opv_as rfl) ?_
  refine snil ?_
  refine cret ?_
  refine then_ret ?_
  refine ⟨Or.inr rfl, _, _, _, (resVs_cons (ResV.tmp _ _ rfl) resVs_nil), (pubA_id rfl), ?_⟩
  rfl
def m40_slices_Compact (a0 : List Int) : Option (List Int) := if a0.length ≤ 1000000000000000000 then some (cmpU a0) else none
theorem m40_slices_Compact_c {a0 r : List Int} (h : m40_slices_Compact a0 = some r) : CallsB Try.prog 40 [.arr 3 1 0 (a0.flatMap eI)] [.one (.ls 0 a0.length)] (fun y m' => y = .s (.one (.ls 1 r.length)) ∧ m' = [.dead, .arr 3 1 0 (r.flatMap eI)]) := by
  unfold m40_slices_Compact at h
  obtain ⟨hn, h⟩ := chk_eq h
  obtain rfl := Option.some.inj h
  exact compN_B cpt40 hn (Go.Proofs.EqlAt.intD _ _ .i64) (Go.Proofs.NeqAt.intD _ _ .i64) Try.zeroValue3 cpt40_nil

def m19_reads_Hits_k1 (b1 : (List Int)) : Option (List Int) :=
  (m39_slices_Sort b1).bind fun v2 => if v2.length = b1.length then ((m40_slices_Compact v2).bind fun v4 => some v4) else none

def m19_reads_Hits_s5 (a0 : GReadsTable) (a1 : List UInt8) (s5 : Int × (List Int)) : Option (LB (Int × (List Int)) ((List Int))) :=
  if (decide (s5.1 < (a0.L.length : Int))) then ((idx a0.L s5.1).bind fun u6 => (m38_keys_Has (GApiRange.mk u6.Rng.Lo u6.Rng.Hi u6.Rng.Open) a1).bind fun v7 => if v7 then (if (s5.2.length + [u6.Tx].length) * 8 ≤ 140737488355328 then (some (.cont ((wI (s5.1 + 1)), (s5.2 ++ [u6.Tx])))) else none) else (some (.cont ((wI (s5.1 + 1)), s5.2)))) else (some (.brk s5.2))
def m19_reads_Hits (a0 : GReadsTable) (a1 : List UInt8) : Option (List Int) :=
  (iterB (m19_reads_Hits_s5 a0 a1) fuel (0, ([] : List Int))).bind fun e9 => m19_reads_Hits_k1 e9

set_option maxRecDepth 100000 in
theorem m19_reads_Hits_c {a0 : GReadsTable} {a1 : List UInt8} {r : (List Int)} (h : m19_reads_Hits a0 a1 = some r) : CallsA Try.prog 19 [.agg [.sl a0.L.length (a0.L.flatMap eGReadsRead)], .one (.sl a1.length (a1.flatMap eU8))] (· = .s (.one (.sl r.length (r.flatMap eI)))) := by
  unfold m19_reads_Hits at h
  refine callsA_of Try.func19 rfl (nt := 29) rfl (Nat.le_of_ble_eq_true rfl) ?_
  intro w0 S0
  refine cseq ?_
  refine cregion ?_
  refine sbox rfl rfl ?_
  refine sv rfl (opv_as rfl) ?_
  refine snil ?_
  refine cseq ?_
  refine cregion ?_
  refine sv rfl (opv_as rfl) ?_
  refine snil ?_
  refine cseq ?_
  refine cseq ?_
  refine cregion ?_
  refine sv rfl (opv_fieldAddr_lp fi34_0 rfl) ?_
  refine sv rfl (opv_load1 ti32 rfl (.lp _ _ _ rfl) rfl) ?_
  refine sv rfl (opv_len_sl si32 rfl) ?_
  refine sv rfl (opv_mv rfl) ?_
  refine snil ?_
  refine sadopt_c 3 1 5 (by decide) rfl ?_
  refine cjoin ((List Int)) (fun b1 => [(5, .s (.one (.ls 1 b1.length)))]) (fun b1 => [.box [.sl a0.L.length (a0.L.flatMap eGReadsRead)], .arr 3 1 0 (b1.flatMap eI)]) (fun b1 => m19_reads_Hits_k1 b1 = some r) (fun _ _ => inbL_of rfl) (fun _ _ => blkinb_of rfl) (fun _ _ => Nat.le_of_ble_eq_true rfl) (fun b1 h => ?_) ?_
  · unfold m19_reads_Hits_k1 at h
    refine cseq ?_
    refine cregion ?_
    refine sv rfl (opv_mv rfl) ?_
    obtain ⟨v2, hv2, h⟩ := bind_eq h
    refine scallB (x' := .tup []) (M' := [.box [.sl a0.L.length (a0.L.flatMap eGReadsRead)], .arr 3 1 0 (v2.flatMap eI)]) [1] rfl fn39 (.func _) (opnds_cons rfl opnds_nil) (m39_slices_Sort_c hv2) rfl rfl (by decide) rfl rfl rfl ?_
    obtain ⟨hl3, h⟩ := chk_eq h
    refine stell 5 (y := .s (.one (.ls 1 b1.length))) (.s (.one (.ls 1 v2.length))) rfl (congrArg (fun n => AV.s (.one (.ls 1 n))) hl3.symm) ?_
    refine stell 25 (y := .s (.one (.ls 1 b1.length))) (.s (.one (.ls 1 v2.length))) rfl (congrArg (fun n => AV.s (.one (.ls 1 n))) hl3.symm) ?_
    refine snil ?_
    refine cseq ?_
    refine cregion ?_
    refine sv rfl (opv_mv rfl) ?_
    obtain ⟨v4, hv4, h⟩ := bind_eq h
    refine scallB (x' := .s (.one (.ls 2 v4.length))) (M' := [.box [.sl a0.L.length (a0.L.flatMap eGReadsRead)], .dead, .arr 3 1 0 (v4.flatMap eI)]) [1] rfl fn40 (.func _) (opnds_cons rfl opnds_nil) (m40_slices_Compact_c hv4) rfl rfl (by decide) rfl rfl rfl ?_
    refine sv rfl (opv_as rfl) ?_
    refine snil ?_
    refine cret ?_
    obtain rfl := Option.some.inj h
    refine ⟨Or.inr rfl, _, _, _, (resVs_cons (ResV.tmp _ _ rfl) resVs_nil), (by (repeat' first | exact PubA.nil _ | apply PubA.cons | apply PubV.one | apply PubV.agg | exact PubL.nil | exact PubL.ls _ _ _ _ _ _ rfl (flat_len (f := eI) (fun _ => rfl) _).symm | exact PubL.id _ rfl | exact PubLs.nil _ | apply PubLs.cons)), ?_⟩
    rfl
  · skip
    refine cblock ?_
    obtain ⟨x5, hx5, ho5⟩ := bind_eq h
    refine awc_loop (G := Nat × (Int × (List Int))) (fun g => [(1, .s (.one (.sl a1.length (a1.flatMap eU8)))), (5, .s (.one (.ls 1 g.2.2.length))), (9, .s (.one (.sl a0.L.length (a0.L.flatMap eGReadsRead)))), (10, .s (.one (.i .i64 (a0.L.length : Int)))), (11, .s (.one (.i .i64 g.2.1)))]) (fun g => [.box [.sl a0.L.length (a0.L.flatMap eGReadsRead)], .arr 3 1 0 (g.2.2.flatMap eI)]) (fun g => iterB (m19_reads_Hits_s5 a0 a1) g.1 g.2 = some x5) (fun g => g.1) (fuel, (0, ([] : List Int))) hx5 ⟨rfl, rfl, rfl, rfl, rfl, trivial⟩ [] rfl (fun _ _ => inbL_of rfl) (fun _ _ => blkinb_of rfl) (fun _ _ => Nat.le_of_ble_eq_true rfl) ?_
    clear hx5 h
    rintro ⟨n5, s5⟩ h
    obtain ⟨n5, y5, rfl, h, hk5⟩ := iterB_eq h
    unfold m19_reads_Hits_s5 at h
    refine cseq ?_
    refine cregion ?_
    refine sv rfl (opv_lss rfl rfl) ?_
    refine snil ?_
    refine cseq ?_
    refine ccond rfl (fun hc => ?_) (fun hc => ?_)
    · replace h := ite_t hc h
      clear hc
      refine cskip ?_
      refine then_normal ?_
      refine cseq ?_
      refine cblock ?_
      refine cseq ?_
      refine cregion ?_
      obtain ⟨u6, hu6, h⟩ := bind_eq h
      refine sv rfl (opv_ix (f := eGReadsRead) si32 (fun _ => rfl) rfl rfl rfl rfl hu6) ?_
      refine sv rfl (opv_loadNe (ys := [.i .i64 u6.Tx, .sl u6.Rng.Lo.length (u6.Rng.Lo.flatMap eU8), .sl u6.Rng.Hi.length (u6.Rng.Hi.flatMap eU8), .b u6.Rng.Open]) ti63 rfl (.cp _) rfl rfl) ?_
      refine salloc rfl zi63 ?_
      refine sstore sz63 rfl rfl rfl rfl (Nat.le_of_ble_eq_true rfl) ?_
      refine smem [.box [.sl a0.L.length (a0.L.flatMap eGReadsRead)], .arr 3 1 0 (s5.2.flatMap eI), .box u6] rfl ?_
      refine snil ?_
      refine cseq ?_
      refine cregion ?_
      refine sv rfl (opv_fieldAddr_lp fi63_1 rfl) ?_
      refine sv rfl (opv_loadN ti27 rfl (.lp _ _ _ rfl) (Nat.le_of_ble_eq_true rfl)) ?_
      refine sv rfl (opv_mv rfl) ?_
      obtain ⟨v7, hv7, h⟩ := bind_eq h
      refine scall1 rfl fn38 (opnds_cons rfl (opnds_cons rfl opnds_nil)) (pubA_id rfl) (m38_keys_Has_c hv7) ?_
      refine snil ?_
      refine ccond rfl (fun hc => ?_) (fun hc => ?_)
      · replace h := ite_t hc h
        clear hc
        refine cregion ?_
        refine sv rfl (opv_mv rfl) ?_
        refine sv rfl (opv_fieldAddr_lp fi63_0 rfl) ?_
        refine sv rfl (opv_load1 ti3 rfl (.lp _ _ _ rfl) rfl) ?_
        refine sbuild1 rfl Try.underlying28 ei3 rfl rfl (List.all_eq_true.1 rfl) (by decide) ?_
        refine smem [.box [.sl a0.L.length (a0.L.flatMap eGReadsRead)], .arr 3 1 0 (s5.2.flatMap eI), .box u6, .arr 3 1 0 ([u6.Tx].flatMap eI)] rfl ?_
        obtain ⟨hb8, h⟩ := chk_eq h
        refine sapp (f := eI) (xs := s5.2) (us := [u6.Tx]) rfl Try.underlying28 ei3 ni28 (fun _ => rfl) rfl rfl (.one _ _ _ _ (.ls _ _ _ _ _ _ rfl (flat_len (f := eI) (fun _ => rfl) [u6.Tx]).symm)) rfl rfl rfl (.sl _ _ _ (flat_len (f := eI) (fun _ => rfl) _)) rfl rfl hb8 (by decide) ?_
        refine sv rfl (opv_as rfl) ?_
        refine snil0 ?_
        refine block_normal ?_
        refine then_normal ?_
        refine cregion ?_
        refine sv rfl (opv_add rfl rfl) ?_
        refine sv rfl (opv_mv rfl) ?_
        refine snil ?_
        obtain rfl := Option.some.inj h
        exact ⟨(n5, ((wI (s5.1 + 1)), (s5.2 ++ [u6.Tx]))), _, hk5, ⟨rfl, rfl, rfl, rfl, rfl, trivial⟩, rfl, Nat.lt_succ_self _⟩
      · replace h := ite_f hc h
        clear hc
        refine cskip ?_
        refine block_normal ?_
        refine then_normal ?_
        refine cregion ?_
        refine sv rfl (opv_add rfl rfl) ?_
        refine sv rfl (opv_mv rfl) ?_
        refine snil ?_
        obtain rfl := Option.some.inj h
        exact ⟨(n5, ((wI (s5.1 + 1)), s5.2)), _, hk5, ⟨rfl, rfl, rfl, rfl, rfl, trivial⟩, rfl, Nat.lt_succ_self _⟩
    · replace h := ite_f hc h
      clear hc
      refine cexit ?_
      refine then_exit ?_
      refine then_exit ?_
      refine block_hit ?_
      refine then_normal ?_
      obtain rfl := Option.some.inj h
      obtain rfl : _ = x5 := hk5
      exact ⟨s5.2, _, ho5, ⟨rfl, trivial⟩, rfl⟩

def m8_l10_awake  : Option Bool :=
  (m12_reads_Add (GReadsTable.mk ([] : List GReadsRead)) 4 (GApiRange.mk [(UInt8.ofBitVec (97#8))] [(UInt8.ofBitVec (99#8))] false)).bind fun v1 => (m19_reads_Hits v1.1 [(UInt8.ofBitVec (98#8))]).bind fun v2 => if (decide (v1.2 = 0)) then (if (decide ((v2.length : Int) = 1)) then ((idx v2 0).bind fun u3 => if (decide (u3 = 4)) then ((m19_reads_Hits v1.1 [(UInt8.ofBitVec (99#8))]).bind fun v4 => if (decide ((v4.length : Int) = 0)) then ((m16_reads_Sane v1.1).bind fun v5 => some v5) else (some false)) else (some false)) else (some false)) else (some false)

set_option maxRecDepth 100000 in
theorem m8_l10_awake_c  {r : Bool} (h : m8_l10_awake = some r) : CallsA Try.prog 8 [] (· = .s (.one (.b r))) := by
  unfold m8_l10_awake at h
  refine callsA_of Try.func8 rfl (nt := 43) rfl (Nat.le_of_ble_eq_true rfl) ?_
  intro w0 S0
  refine cseq ?_
  refine cregion ?_
  refine sv rfl (opv_as rfl) ?_
  refine snil ?_
  refine cseq ?_
  refine cregion ?_
  refine sv rfl (opv_build zi34 pi34 parts_nil (.nil _)) ?_
  refine sbuild1 rfl Try.underlying25 ei5 rfl rfl (List.all_eq_true.1 rfl) (by decide) ?_
  refine smem [.arr 5 1 0 ([(UInt8.ofBitVec (97#8))].flatMap eU8)] rfl ?_
  refine sconv_id rfl Try.underlying25 Try.underlying5 rfl rfl (flat_len (f := eU8) (fun _ => rfl) [(UInt8.ofBitVec (97#8))]).symm (by decide) ?_
  refine sbuild1 rfl Try.underlying25 ei5 rfl rfl (List.all_eq_true.1 rfl) (by decide) ?_
  refine smem [.dead, .arr 5 1 0 ([(UInt8.ofBitVec (99#8))].flatMap eU8)] rfl ?_
  refine sconv_id rfl Try.underlying25 Try.underlying5 rfl rfl (flat_len (f := eU8) (fun _ => rfl) [(UInt8.ofBitVec (99#8))]).symm (by decide) ?_
  refine sv rfl (opv_build zi27 pi27 (parts_cons rfl (parts_cons rfl parts_nil)) (.cons _ _ _ _ _ _ _ rfl rfl (Nat.le_of_ble_eq_true rfl) (.cons _ _ _ _ _ _ _ rfl rfl (Nat.le_of_ble_eq_true rfl) (.nil _)))) ?_
  obtain ⟨v1, hv1, h⟩ := bind_eq h
  refine scall1 rfl fn12 (opnds_cons rfl (opnds_cons rfl (opnds_cons rfl opnds_nil))) (pubC rfl) (m12_reads_Add_c hv1) ?_
  refine sv rfl (opv_mvt rfl) ?_
  refine sv rfl (opv_extract rfl rfl) ?_
  refine sv rfl (opv_extract rfl rfl) ?_
  refine salloc rfl zi34 ?_
  refine sstore sz34 rfl rfl rfl rfl (Nat.le_of_ble_eq_true rfl) ?_
  refine smem [.dead, .dead, .box [.sl v1.1.L.length (v1.1.L.flatMap eGReadsRead)]] rfl ?_
  refine sv rfl (opv_as rfl) ?_
  refine snil ?_
  refine cseq ?_
  refine cregion ?_
  refine sv rfl (opv_loadN ti34 rfl (.lp _ _ _ rfl) (Nat.le_of_ble_eq_true rfl)) ?_
  refine sbuild1 rfl Try.underlying25 ei5 rfl rfl (List.all_eq_true.1 rfl) (by decide) ?_
  refine smem [.dead, .dead, .box [.sl v1.1.L.length (v1.1.L.flatMap eGReadsRead)], .arr 5 1 0 ([(UInt8.ofBitVec (98#8))].flatMap eU8)] rfl ?_
  refine sconv_id rfl Try.underlying25 Try.underlying5 rfl rfl (flat_len (f := eU8) (fun _ => rfl) [(UInt8.ofBitVec (98#8))]).symm (by decide) ?_
  obtain ⟨v2, hv2, h⟩ := bind_eq h
  refine scall1 rfl fn19 (opnds_cons rfl (opnds_cons rfl opnds_nil)) (pubA_id rfl) (m19_reads_Hits_c hv2) ?_
  refine sv rfl (opv_as rfl) ?_
  refine snil ?_
  refine cseq ?_
  refine cregion ?_
  refine sv rfl (opv_mv rfl) ?_
  refine sv rfl (opv_ieql rfl rfl) ?_
  refine sv rfl (opv_mv rfl) ?_
  refine ssplit 20 rfl (fun hc => ?_) (fun hc => ?_)
  · replace h := ite_t hc h
    clear hc
    refine son rfl rfl rfl ?_
    refine sv rfl (opv_mv rfl) ?_
    refine son rfl rfl rfl ?_
    refine sv rfl (opv_len_sl si28 rfl) ?_
    refine son rfl rfl rfl ?_
    refine sv rfl (opv_ieql rfl rfl) ?_
    refine sv rfl (opv_pick_t rfl rfl) ?_
    refine sv rfl (opv_mv rfl) ?_
    refine ssplit 25 rfl (fun hc => ?_) (fun hc => ?_)
    · replace h := ite_t hc h
      clear hc
      refine son rfl rfl rfl ?_
      refine sv rfl (opv_mv rfl) ?_
      refine son rfl rfl rfl ?_
      obtain ⟨u3, hu3, h⟩ := bind_eq h
      refine sv rfl (opv_ix (f := eI) si28 (fun _ => rfl) rfl rfl rfl rfl hu3) ?_
      refine son rfl rfl rfl ?_
      refine sv rfl (opv_load1 ti3 rfl (.cp _) rfl) ?_
      refine son rfl rfl rfl ?_
      refine sv rfl (opv_ieql rfl rfl) ?_
      refine sv rfl (opv_pick_t rfl rfl) ?_
      refine sv rfl (opv_mv rfl) ?_
      refine ssplit 31 rfl (fun hc => ?_) (fun hc => ?_)
      · replace h := ite_t hc h
        clear hc
        refine son rfl rfl rfl ?_
        refine sv rfl (opv_loadN ti34 rfl (.lp _ _ _ rfl) (Nat.le_of_ble_eq_true rfl)) ?_
        refine son rfl rfl rfl ?_
        refine sbuild1 rfl Try.underlying25 ei5 rfl rfl (List.all_eq_true.1 rfl) (by decide) ?_
        refine smem [.dead, .dead, .box [.sl v1.1.L.length (v1.1.L.flatMap eGReadsRead)], .dead, .arr 5 1 0 ([(UInt8.ofBitVec (99#8))].flatMap eU8)] rfl ?_
        refine son rfl rfl rfl ?_
        refine sconv_id rfl Try.underlying25 Try.underlying5 rfl rfl (flat_len (f := eU8) (fun _ => rfl) [(UInt8.ofBitVec (99#8))]).symm (by decide) ?_
        refine son rfl rfl rfl ?_
        obtain ⟨v4, hv4, h⟩ := bind_eq h
        refine scall1 rfl fn19 (opnds_cons rfl (opnds_cons rfl opnds_nil)) (pubA_id rfl) (m19_reads_Hits_c hv4) ?_
        refine son rfl rfl rfl ?_
        refine sv rfl (opv_len_sl si28 rfl) ?_
        refine son rfl rfl rfl ?_
        refine sv rfl (opv_ieql rfl rfl) ?_
        refine sv rfl (opv_pick_t rfl rfl) ?_
        refine sv rfl (opv_mv rfl) ?_
        refine ssplit 39 rfl (fun hc => ?_) (fun hc => ?_)
        · replace h := ite_t hc h
          clear hc
          refine son rfl rfl rfl ?_
          refine sv rfl (opv_loadN ti34 rfl (.lp _ _ _ rfl) (Nat.le_of_ble_eq_true rfl)) ?_
          refine son rfl rfl rfl ?_
          obtain ⟨v5, hv5, h⟩ := bind_eq h
          refine scall1 rfl fn16 (opnds_cons rfl opnds_nil) (pubA_id rfl) (m16_reads_Sane_c hv5) ?_
          refine sv rfl (opv_pick_t rfl rfl) ?_
          refine sv rfl (opv_as rfl) ?_
          refine snil ?_
          refine cret ?_
          obtain rfl := Option.some.inj h
          refine ⟨Or.inr rfl, _, _, _, (resVs_cons (ResV.tmp _ _ rfl) resVs_nil), (pubA_id rfl), ?_⟩
          rfl
        · replace h := ite_f hc h
          clear hc
          refine soff rfl rfl rfl rfl ?_
          refine soff rfl rfl rfl rfl ?_
          refine sv rfl (opv_pick_f rfl rfl) ?_
          refine sv rfl (opv_as rfl) ?_
          refine snil ?_
          refine cret ?_
          obtain rfl := Option.some.inj h
          refine ⟨Or.inr rfl, _, _, _, (resVs_cons (ResV.tmp _ _ rfl) resVs_nil), (pubA_id rfl), ?_⟩
          rfl
      · replace h := ite_f hc h
        clear hc
        refine soff rfl rfl rfl rfl ?_
        refine soff rfl rfl rfl rfl ?_
        refine soff rfl rfl rfl rfl ?_
        refine soff rfl rfl rfl rfl ?_
        refine soff rfl rfl rfl rfl ?_
        refine soff rfl rfl rfl rfl ?_
        refine sv rfl (opv_pick_f rfl rfl) ?_
        refine sv rfl (opv_mv rfl) ?_
        refine soff rfl rfl rfl rfl ?_
        refine soff rfl rfl rfl rfl ?_
        refine sv rfl (opv_pick_f rfl rfl) ?_
        refine sv rfl (opv_as rfl) ?_
        refine snil ?_
        refine cret ?_
        obtain rfl := Option.some.inj h
        refine ⟨Or.inr rfl, _, _, _, (resVs_cons (ResV.tmp _ _ rfl) resVs_nil), (pubA_id rfl), ?_⟩
        rfl
    · replace h := ite_f hc h
      clear hc
      refine soff rfl rfl rfl rfl ?_
      refine soff rfl rfl rfl rfl ?_
      refine soff rfl rfl rfl rfl ?_
      refine soff rfl rfl rfl rfl ?_
      refine sv rfl (opv_pick_f rfl rfl) ?_
      refine sv rfl (opv_mv rfl) ?_
      refine soff rfl rfl rfl rfl ?_
      refine soff rfl rfl rfl rfl ?_
      refine soff rfl rfl rfl rfl ?_
      refine soff rfl rfl rfl rfl ?_
      refine soff rfl rfl rfl rfl ?_
      refine soff rfl rfl rfl rfl ?_
      refine sv rfl (opv_pick_f rfl rfl) ?_
      refine sv rfl (opv_mv rfl) ?_
      refine soff rfl rfl rfl rfl ?_
      refine soff rfl rfl rfl rfl ?_
      refine sv rfl (opv_pick_f rfl rfl) ?_
      refine sv rfl (opv_as rfl) ?_
      refine snil ?_
      refine cret ?_
      obtain rfl := Option.some.inj h
      refine ⟨Or.inr rfl, _, _, _, (resVs_cons (ResV.tmp _ _ rfl) resVs_nil), (pubA_id rfl), ?_⟩
      rfl
  · replace h := ite_f hc h
    clear hc
    refine soff rfl rfl rfl rfl ?_
    refine soff rfl rfl rfl rfl ?_
    refine soff rfl rfl rfl rfl ?_
    refine sv rfl (opv_pick_f rfl rfl) ?_
    refine sv rfl (opv_mv rfl) ?_
    refine soff rfl rfl rfl rfl ?_
    refine soff rfl rfl rfl rfl ?_
    refine soff rfl rfl rfl rfl ?_
    refine soff rfl rfl rfl rfl ?_
    refine sv rfl (opv_pick_f rfl rfl) ?_
    refine sv rfl (opv_mv rfl) ?_
    refine soff rfl rfl rfl rfl ?_
    refine soff rfl rfl rfl rfl ?_
    refine soff rfl rfl rfl rfl ?_
    refine soff rfl rfl rfl rfl ?_
    refine soff rfl rfl rfl rfl ?_
    refine soff rfl rfl rfl rfl ?_
    refine sv rfl (opv_pick_f rfl rfl) ?_
    refine sv rfl (opv_mv rfl) ?_
    refine soff rfl rfl rfl rfl ?_
    refine soff rfl rfl rfl rfl ?_
    refine sv rfl (opv_pick_f rfl rfl) ?_
    refine sv rfl (opv_as rfl) ?_
    refine snil ?_
    refine cret ?_
    obtain rfl := Option.some.inj h
    refine ⟨Or.inr rfl, _, _, _, (resVs_cons (ResV.tmp _ _ rfl) resVs_nil), (pubA_id rfl), ?_⟩
    rfl

def m10_r06_Short (a0 : GApiRange) : Option Bool :=
  if (decide ((a0.Lo.length : Int) ≤ 100)) then (some (decide ((a0.Hi.length : Int) ≤ 100))) else (some false)

set_option maxRecDepth 100000 in
theorem m10_r06_Short_c {a0 : GApiRange} {r : Bool} (h : m10_r06_Short a0 = some r) : CallsA Try.prog 10 [.agg a0] (· = .s (.one (.b r))) := by
  unfold m10_r06_Short at h
  refine callsA_of Try.func10 rfl (nt := 13) rfl (Nat.le_of_ble_eq_true rfl) ?_
  intro w0 S0
  refine cseq ?_
  refine cregion ?_
  refine sbox rfl rfl ?_
  refine sv rfl (opv_as rfl) ?_
  refine snil ?_
  refine cseq ?_
  refine cregion ?_
  refine sv rfl (opv_fieldAddr_lp fi27_0 rfl) ?_
  refine sv rfl (opv_load1 ti25 rfl (.lp _ _ _ rfl) rfl) ?_
  refine sv rfl (opv_len_sl si25 rfl) ?_
  refine sv rfl (opv_leq rfl rfl) ?_
  refine sv rfl (opv_mv rfl) ?_
  refine ssplit 7 rfl (fun hc => ?_) (fun hc => ?_)
  · replace h := ite_t hc h
    clear hc
    refine son rfl rfl rfl ?_
    refine sv rfl (opv_fieldAddr_lp fi27_1 rfl) ?_
    refine son rfl rfl rfl ?_
    refine sv rfl (opv_load1 ti25 rfl (.lp _ _ _ rfl) rfl) ?_
    refine son rfl rfl rfl ?_
    refine sv rfl (opv_len_sl si25 rfl) ?_
    refine son rfl rfl rfl ?_
    refine sv rfl (opv_leq rfl rfl) ?_
    refine sv rfl (opv_pick_t rfl rfl) ?_
    refine sv rfl (opv_as rfl) ?_
    refine snil ?_
    refine cret ?_
    obtain rfl := Option.some.inj h
    refine ⟨Or.inr rfl, _, _, _, (resVs_cons (ResV.tmp _ _ rfl) resVs_nil), (pubA_id rfl), ?_⟩
    rfl
  · replace h := ite_f hc h
    clear hc
    refine soff rfl rfl rfl rfl ?_
    refine soff rfl rfl rfl rfl ?_
    refine soff rfl rfl rfl rfl ?_
    refine soff rfl rfl rfl rfl ?_
    refine sv rfl (opv_pick_f rfl rfl) ?_
    refine sv rfl (opv_as rfl) ?_
    refine snil ?_
    refine cret ?_
    obtain rfl := Option.some.inj h
    refine ⟨Or.inr rfl, _, _, _, (resVs_cons (ResV.tmp _ _ rfl) resVs_nil), (pubA_id rfl), ?_⟩
    rfl

def m9_r10_Few_k1 (b1 : Unit) : Option Bool :=
  some true

def m9_r10_Few_s2 (a0 : GR10Table) (s2 : Int) : Option (LR (Int) (Unit) (Bool)) :=
  if (decide (s2 < (a0.L.length : Int))) then ((idx a0.L s2).bind fun u3 => (m10_r06_Short (GApiRange.mk u3.Rng.Lo u3.Rng.Hi u3.Rng.Open)).bind fun v4 => if (!v4) then (some (.ret false)) else (some (.cont (wI (s2 + 1))))) else (some (.brk ()))
def m9_r10_Few (a0 : GR10Table) : Option Bool :=
  if (decide (140 < (a0.L.length : Int))) then (some false) else ((iter (m9_r10_Few_s2 a0) fuel 0).bind fun x => match x with | .inl r => some r | .inr e5 => m9_r10_Few_k1 e5)

set_option maxRecDepth 100000 in
theorem m9_r10_Few_c {a0 : GR10Table} {r : Bool} (h : m9_r10_Few a0 = some r) : CallsA Try.prog 9 [.agg [.sl a0.L.length (a0.L.flatMap eGR10Read)]] (· = .s (.one (.b r))) := by
  unfold m9_r10_Few at h
  refine callsA_of Try.func9 rfl (nt := 23) rfl (Nat.le_of_ble_eq_true rfl) ?_
  intro w0 S0
  refine cseq ?_
  refine cregion ?_
  refine sbox rfl rfl ?_
  refine sv rfl (opv_as rfl) ?_
  refine snil ?_
  refine cseq ?_
  refine cseq ?_
  refine cregion ?_
  refine sv rfl (opv_fieldAddr_lp fi24_0 rfl) ?_
  refine sv rfl (opv_load1 ti22 rfl (.lp _ _ _ rfl) rfl) ?_
  refine sv rfl (opv_len_sl si22 rfl) ?_
  refine sv rfl (opv_gtr rfl rfl) ?_
  refine snil ?_
  refine ccond rfl (fun hc => ?_) (fun hc => ?_)
  · replace h := ite_t hc h
    clear hc
    refine cseq ?_
    refine cregion ?_
    refine sv rfl (opv_as rfl) ?_
    refine snil ?_
    refine cret ?_
    refine then_ret ?_
    obtain rfl := Option.some.inj h
    refine ⟨Or.inr rfl, _, _, _, (resVs_cons (ResV.tmp _ _ rfl) resVs_nil), (pubA_id rfl), ?_⟩
    rfl
  · replace h := ite_f hc h
    clear hc
    refine cskip ?_
    refine then_normal ?_
    refine cseq ?_
    refine cseq ?_
    refine cregion ?_
    refine sv rfl (opv_as rfl) ?_
    refine snil ?_
    refine cjoin (Unit) (fun b1 => []) (fun b1 => [.box [.sl a0.L.length (a0.L.flatMap eGR10Read)]]) (fun b1 => m9_r10_Few_k1 b1 = some r) (fun _ _ => inbL_of rfl) (fun _ _ => blkinb_of rfl) (fun _ _ => Nat.le_of_ble_eq_true rfl) (fun b1 h => ?_) ?_
    · unfold m9_r10_Few_k1 at h
      refine cseq ?_
      refine cregion ?_
      refine sv rfl (opv_as rfl) ?_
      refine snil ?_
      refine cret ?_
      obtain rfl := Option.some.inj h
      refine ⟨Or.inr rfl, _, _, _, (resVs_cons (ResV.tmp _ _ rfl) resVs_nil), (pubA_id rfl), ?_⟩
      rfl
    · skip
      refine cblock ?_
      obtain ⟨x2, hx2, ho2⟩ := bind_eq h
      refine awc_loop (G := Nat × (Int)) (fun g => [(1, .s (.one (.lp 0 0))), (3, .s (.one (.i .i64 g.2)))]) (fun g => [.box [.sl a0.L.length (a0.L.flatMap eGR10Read)]]) (fun g => iter (m9_r10_Few_s2 a0) g.1 g.2 = some x2) (fun g => g.1) (fuel, 0) hx2 ⟨rfl, rfl, trivial⟩ [] rfl (fun _ _ => inbL_of rfl) (fun _ _ => blkinb_of rfl) (fun _ _ => Nat.le_of_ble_eq_true rfl) ?_
      clear hx2 h
      rintro ⟨n2, s2⟩ h
      obtain ⟨n2, y2, rfl, h, hk2⟩ := iter_eq h
      unfold m9_r10_Few_s2 at h
      refine cseq ?_
      refine cseq ?_
      refine cregion ?_
      refine sv rfl (opv_mv rfl) ?_
      refine sv rfl (opv_fieldAddr_lp fi24_0 rfl) ?_
      refine sv rfl (opv_load1 ti22 rfl (.lp _ _ _ rfl) rfl) ?_
      refine sv rfl (opv_len_sl si22 rfl) ?_
      refine sv rfl (opv_lss rfl rfl) ?_
      refine snil ?_
      refine ccond rfl (fun hc => ?_) (fun hc => ?_)
      · replace h := ite_t hc h
        clear hc
        refine cskip ?_
        refine then_normal ?_
        refine cseq ?_
        refine cblock ?_
        refine cseq ?_
        refine cregion ?_
        refine sv rfl (opv_fieldAddr_lp fi24_0 rfl) ?_
        refine sv rfl (opv_load1 ti22 rfl (.lp _ _ _ rfl) rfl) ?_
        refine sv rfl (opv_mv rfl) ?_
        obtain ⟨u3, hu3, h⟩ := bind_eq h
        refine sv rfl (opv_ix (f := eGR10Read) si22 (fun _ => rfl) rfl rfl rfl rfl hu3) ?_
        refine sv rfl (opv_fieldAddr_cp fi56_1 rfl) ?_
        refine sv rfl (opv_loadNe (ys := [.sl u3.Rng.Lo.length (u3.Rng.Lo.flatMap eU8), .sl u3.Rng.Hi.length (u3.Rng.Hi.flatMap eU8), .b u3.Rng.Open]) ti27 rfl (.cp _) rfl rfl) ?_
        obtain ⟨v4, hv4, h⟩ := bind_eq h
        refine scall1 rfl fn10 (opnds_cons rfl opnds_nil) (pubA_id rfl) (m10_r06_Short_c hv4) ?_
        refine sv rfl (opv_not rfl) ?_
        refine snil ?_
        refine ccond rfl (fun hc => ?_) (fun hc => ?_)
        · replace h := ite_t hc h
          clear hc
          refine cseq ?_
          refine cregion ?_
          refine sv rfl (opv_as rfl) ?_
          refine snil ?_
          refine cret ?_
          refine block_ret ?_
          refine then_ret ?_
          refine then_ret ?_
          refine block_ret ?_
          refine then_ret ?_
          obtain rfl := Option.some.inj h
          obtain rfl : Sum.inl _ = x2 := hk2
          replace ho2 : some _ = some _ := ho2
          obtain rfl := Option.some.inj ho2
          refine ⟨Or.inr rfl, _, _, _, (resVs_cons (ResV.tmp _ _ rfl) resVs_nil), (pubA_id rfl), ?_⟩
          rfl
        · replace h := ite_f hc h
          clear hc
          refine cskip ?_
          refine block_normal ?_
          refine then_normal ?_
          refine cregion ?_
          refine sv rfl (opv_mv rfl) ?_
          refine sv rfl (opv_add rfl rfl) ?_
          refine sv rfl (opv_as rfl) ?_
          refine snil ?_
          obtain rfl := Option.some.inj h
          exact ⟨(n2, (wI (s2 + 1))), _, hk2, ⟨rfl, rfl, trivial⟩, rfl, Nat.lt_succ_self _⟩
      · replace h := ite_f hc h
        clear hc
        refine cexit ?_
        refine then_exit ?_
        refine then_exit ?_
        refine block_hit ?_
        refine then_normal ?_
        obtain rfl := Option.some.inj h
        obtain rfl : _ = x2 := hk2
        exact ⟨(), _, ho2, trivial, rfl⟩

def m11_l10_ours_k1 (b1 : (List GReadsRead)) : Option GReadsTable :=
  some (GReadsTable.mk b1)

def m11_l10_ours_s2 (a0 : GR10Table) (s2 : Int × (List GReadsRead)) : Option (LB (Int × (List GReadsRead)) ((List GReadsRead))) :=
  if (decide (s2.1 < (a0.L.length : Int))) then ((idx a0.L s2.1).bind fun u3 => (idx a0.L s2.1).bind fun u4 => if (s2.2.length + ([(GReadsRead.mk u3.Tx (GApiRange.mk u4.Rng.Lo u4.Rng.Hi u4.Rng.Open))] : List GReadsRead).length) * 64 ≤ 140737488355328 then (some (.cont ((wI (s2.1 + 1)), (s2.2 ++ ([(GReadsRead.mk u3.Tx (GApiRange.mk u4.Rng.Lo u4.Rng.Hi u4.Rng.Open))] : List GReadsRead))))) else none) else (some (.brk s2.2))
def m11_l10_ours (a0 : GR10Table) : Option GReadsTable :=
  (iterB (m11_l10_ours_s2 a0) fuel (0, ([] : List GReadsRead))).bind fun e6 => m11_l10_ours_k1 e6

set_option maxRecDepth 100000 in
theorem m11_l10_ours_c {a0 : GR10Table} {r : GReadsTable} (h : m11_l10_ours a0 = some r) : CallsA Try.prog 11 [.agg [.sl a0.L.length (a0.L.flatMap eGR10Read)]] (· = .s (.agg [.sl r.L.length (r.L.flatMap eGReadsRead)])) := by
  unfold m11_l10_ours at h
  refine callsA_of Try.func11 rfl (nt := 32) rfl (Nat.le_of_ble_eq_true rfl) ?_
  intro w0 S0
  refine cseq ?_
  refine cregion ?_
  refine sbox rfl rfl ?_
  refine salloc rfl zi34 ?_
  refine snil ?_
  refine cseq ?_
  refine cregion ?_
  refine sv rfl (opv_build zi34 pi34 parts_nil (.nil _)) ?_
  refine salloc rfl zi34 ?_
  refine sstore sz34 rfl rfl rfl rfl (Nat.le_of_ble_eq_true rfl) ?_
  refine smem [.box [.sl a0.L.length (a0.L.flatMap eGR10Read)], .box [.raw (.slice none 0 0)], .box [.raw (.slice none 0 0)]] rfl ?_
  refine snil ?_
  refine cseq ?_
  refine cseq ?_
  refine cregion ?_
  refine sv rfl (opv_as rfl) ?_
  refine snil ?_
  refine sadopt_box_c 63 4 2 0 (by decide) rfl rfl ?_
  refine cjoin ((List GReadsRead)) (fun b1 => [(2, .s (.one (.lp 1 0))), (3, .s (.one (.lp 2 0)))]) (fun b1 => [.box [.sl a0.L.length (a0.L.flatMap eGR10Read)], .box [.raw (.slice none 0 0)], .box [.ls 3 b1.length], .arr 63 4 0 (b1.flatMap eGReadsRead)]) (fun b1 => m11_l10_ours_k1 b1 = some r) (fun _ _ => inbL_of rfl) (fun _ _ => blkinb_of rfl) (fun _ _ => Nat.le_of_ble_eq_true rfl) (fun b1 h => ?_) ?_
  · unfold m11_l10_ours_k1 at h
    refine cseq ?_
    refine cregion ?_
    refine sv rfl (opv_loadN ti34 rfl (.lp _ _ _ rfl) (Nat.le_of_ble_eq_true rfl)) ?_
    refine sstore sz34 rfl rfl rfl rfl (Nat.le_of_ble_eq_true rfl) ?_
    refine smem [.box [.sl a0.L.length (a0.L.flatMap eGR10Read)], .box [.ls 3 b1.length], .box [.ls 3 b1.length], .arr 63 4 0 (b1.flatMap eGReadsRead)] rfl ?_
    refine snil ?_
    refine cret ?_
    obtain rfl := Option.some.inj h
    refine ⟨Or.inr rfl, _, _, _, (resVs_cons (ResV.agg _ _ _ _ _ ti34 rfl (.lp _ _ _ rfl) (Nat.le_of_ble_eq_true rfl)) resVs_nil), (by (repeat' first | exact PubA.nil _ | apply PubA.cons | apply PubV.one | apply PubV.agg | exact PubL.nil | exact PubL.ls _ _ _ _ _ _ rfl (flat_len (f := eGReadsRead) (fun _ => rfl) _).symm | exact PubL.id _ rfl | exact PubLs.nil _ | apply PubLs.cons)), ?_⟩
    rfl
  · skip
    refine cblock ?_
    obtain ⟨x2, hx2, ho2⟩ := bind_eq h
    refine awc_loop (G := Nat × (Int × (List GReadsRead))) (fun g => [(1, .s (.one (.lp 0 0))), (2, .s (.one (.lp 1 0))), (3, .s (.one (.lp 2 0))), (4, .s (.one (.i .i64 g.2.1)))]) (fun g => [.box [.sl a0.L.length (a0.L.flatMap eGR10Read)], .box [.raw (.slice none 0 0)], .box [.ls 3 g.2.2.length], .arr 63 4 0 (g.2.2.flatMap eGReadsRead)]) (fun g => iterB (m11_l10_ours_s2 a0) g.1 g.2 = some x2) (fun g => g.1) (fuel, (0, ([] : List GReadsRead))) hx2 ⟨rfl, rfl, rfl, rfl, trivial⟩ [] rfl (fun _ _ => inbL_of rfl) (fun _ _ => blkinb_of rfl) (fun _ _ => Nat.le_of_ble_eq_true rfl) ?_
    clear hx2 h
    rintro ⟨n2, s2⟩ h
    obtain ⟨n2, y2, rfl, h, hk2⟩ := iterB_eq h
    unfold m11_l10_ours_s2 at h
    refine cseq ?_
    refine cseq ?_
    refine cregion ?_
    refine sv rfl (opv_mv rfl) ?_
    refine sv rfl (opv_fieldAddr_lp fi24_0 rfl) ?_
    refine sv rfl (opv_load1 ti22 rfl (.lp _ _ _ rfl) rfl) ?_
    refine sv rfl (opv_len_sl si22 rfl) ?_
    refine sv rfl (opv_lss rfl rfl) ?_
    refine snil ?_
    refine ccond rfl (fun hc => ?_) (fun hc => ?_)
    · replace h := ite_t hc h
      clear hc
      refine cskip ?_
      refine then_normal ?_
      refine cseq ?_
      refine cblock ?_
      obtain ⟨u3, hu3, h⟩ := bind_eq h
      obtain ⟨u4, hu4, h⟩ := bind_eq h
      obtain ⟨hb5, h⟩ := chk_eq h
      refine cdraw_e [16, 18] [0, 1, 0, 4, 0, 28, 60, 124, 0, 256, 0, 1792, 3840, 7936, 16380, 32764, 65535, 131071, 262143] [[.box [.sl a0.L.length (a0.L.flatMap eGR10Read)], .box [.raw (.slice none 0 0)], .box [.ls 3 s2.2.length], .arr 63 4 0 (s2.2.flatMap eGReadsRead)], [.box [.sl a0.L.length (a0.L.flatMap eGR10Read)], .box [.raw (.slice none 0 0)], .box [.ls 3 s2.2.length], .arr 63 4 0 ((s2.2 ++ ([(GReadsRead.mk u3.Tx (GApiRange.mk u4.Rng.Lo u4.Rng.Hi u4.Rng.Open))] : List GReadsRead)).flatMap eGReadsRead)], [.box [.sl a0.L.length (a0.L.flatMap eGR10Read)], .box [.raw (.slice none 0 0)], .box [.ls 3 (s2.2 ++ ([(GReadsRead.mk u3.Tx (GApiRange.mk u4.Rng.Lo u4.Rng.Hi u4.Rng.Open))] : List GReadsRead)).length], .arr 63 4 0 ((s2.2 ++ ([(GReadsRead.mk u3.Tx (GApiRange.mk u4.Rng.Lo u4.Rng.Hi u4.Rng.Open))] : List GReadsRead)).flatMap eGReadsRead)]] (by kernel_rfl) mixed (by kernel_rfl) (by decide) rfl rfl rfl rfl ?_
      refine ev (sees_at 0 rfl rfl) rfl rfl (opv_fieldAddr_lp fi34_0 rfl) ?_
      refine ev (sees_at 0 rfl rfl) rfl rfl (opv_load1 ti32 rfl (.lp _ _ _ rfl) rfl) ?_
      refine ev (sees_at 0 rfl rfl) rfl rfl (opv_fieldAddr_lp fi24_0 rfl) ?_
      refine ev (sees_at 0 rfl rfl) rfl rfl (opv_load1 ti22 rfl (.lp _ _ _ rfl) rfl) ?_
      refine ev (sees_at 0 rfl rfl) rfl rfl (opv_mv rfl) ?_
      refine ev (sees_at 0 rfl rfl) rfl rfl (opv_ix (f := eGR10Read) si22 (fun _ => rfl) rfl rfl rfl rfl hu3) ?_
      refine ev (sees_at 0 rfl rfl) rfl rfl (opv_fieldAddr_cp fi56_0 rfl) ?_
      refine ev (sees_at 0 rfl rfl) rfl rfl (opv_load1 ti3 rfl (.cp _) rfl) ?_
      refine ev (sees_at 0 rfl rfl) rfl rfl (opv_fieldAddr_lp fi24_0 rfl) ?_
      refine ev (sees_at 0 rfl rfl) rfl rfl (opv_load1 ti22 rfl (.lp _ _ _ rfl) rfl) ?_
      refine ev (sees_at 0 rfl rfl) rfl rfl (opv_mv rfl) ?_
      refine ev (sees_at 0 rfl rfl) rfl rfl (opv_ix (f := eGR10Read) si22 (fun _ => rfl) rfl rfl rfl rfl hu4) ?_
      refine ev (sees_at 0 rfl rfl) rfl rfl (opv_fieldAddr_cp fi56_1 rfl) ?_
      refine ev (sees_at 0 rfl rfl) rfl rfl (opv_loadNe (ys := [.sl u4.Rng.Lo.length (u4.Rng.Lo.flatMap eU8), .sl u4.Rng.Hi.length (u4.Rng.Hi.flatMap eU8), .b u4.Rng.Open]) ti27 rfl (.cp _) rfl rfl) ?_
      refine ev (sees_at 0 rfl rfl) rfl rfl (opv_build zi63 pi63 (parts_cons rfl (parts_cons rfl parts_nil)) (.cons _ _ _ _ _ _ _ rfl rfl (Nat.le_of_ble_eq_true rfl) (.cons _ _ _ _ _ _ _ rfl rfl (Nat.le_of_ble_eq_true rfl) (.nil _)))) ?_
      refine ed (sees_at 0 rfl rfl) rfl rfl (opD_bld (out := ([(GReadsRead.mk u3.Tx (GApiRange.mk u4.Rng.Lo u4.Rng.Hi u4.Rng.Open))] : List GReadsRead).flatMap eGReadsRead) Try.underlying32 ei63 (parts_cons rfl parts_nil) (.cons _ _ _ _ _ _ _ rfl rfl (Nat.le_of_ble_eq_true rfl) (.nil _)) rfl (by decide)) ?_
      refine ee (x := .s (.one (.ls 3 (s2.2 ++ ([(GReadsRead.mk u3.Tx (GApiRange.mk u4.Rng.Lo u4.Rng.Hi u4.Rng.Open))] : List GReadsRead)).length))) 0 rfl rfl rfl rfl rfl (fun ζ => ?_) ?_
      · refine sapp (f := eGReadsRead) (xs := s2.2) (us := ([(GReadsRead.mk u3.Tx (GApiRange.mk u4.Rng.Lo u4.Rng.Hi u4.Rng.Open))] : List GReadsRead)) rfl Try.underlying32 ei63 ni32 (fun _ => rfl) rfl rfl (.one _ _ _ _ (.id _ rfl)) rfl rfl rfl (.sl _ _ _ (flat_len (f := eGReadsRead) (fun _ => rfl) _)) rfl rfl hb5 (by decide) ?_
        exact eend
      refine ev (sees_at 1 rfl rfl) rfl rfl (opv_fieldAddr_lp fi34_0 rfl) ?_
      refine ee0 1 rfl rfl rfl rfl (fun ζ => ?_) ?_
      · refine sstore sz32 rfl rfl rfl rfl (Nat.le_of_ble_eq_true rfl) ?_
        refine smem [.box [.sl a0.L.length (a0.L.flatMap eGR10Read)], .box [.raw (.slice none 0 0)], .box [.ls 3 (s2.2 ++ ([(GReadsRead.mk u3.Tx (GApiRange.mk u4.Rng.Lo u4.Rng.Hi u4.Rng.Open))] : List GReadsRead)).length], .arr 63 4 0 ((s2.2 ++ ([(GReadsRead.mk u3.Tx (GApiRange.mk u4.Rng.Lo u4.Rng.Hi u4.Rng.Open))] : List GReadsRead)).flatMap eGReadsRead)] rfl ?_
        exact eend
      refine enil ?_
      refine block_normal ?_
      refine then_normal ?_
      refine cregion ?_
      refine sv rfl (opv_mv rfl) ?_
      refine sv rfl (opv_add rfl rfl) ?_
      refine sv rfl (opv_as rfl) ?_
      refine snil ?_
      obtain rfl := Option.some.inj h
      exact ⟨(n2, ((wI (s2.1 + 1)), (s2.2 ++ ([(GReadsRead.mk u3.Tx (GApiRange.mk u4.Rng.Lo u4.Rng.Hi u4.Rng.Open))] : List GReadsRead)))), _, hk2, ⟨rfl, rfl, rfl, rfl, trivial⟩, rfl, Nat.lt_succ_self _⟩
    · replace h := ite_f hc h
      clear hc
      refine cexit ?_
      refine then_exit ?_
      refine then_exit ?_
      refine block_hit ?_
      refine then_normal ?_
      obtain rfl := Option.some.inj h
      obtain rfl : _ = x2 := hk2
      exact ⟨s2.2, _, ho2, ⟨rfl, rfl, trivial⟩, rfl⟩

def m48_r06_SaneRange (a0 : GApiRange) : Option Bool :=
  if (decide ((a0.Lo.length : Int) ≤ 17)) then (if (decide ((a0.Hi.length : Int) ≤ 17)) then (if (!a0.Open) then (some true) else (some (decide ((a0.Hi.length : Int) = 0)))) else (some false)) else (some false)

set_option maxRecDepth 100000 in
theorem m48_r06_SaneRange_c {a0 : GApiRange} {r : Bool} (h : m48_r06_SaneRange a0 = some r) : CallsA Try.prog 48 [.agg a0] (· = .s (.one (.b r))) := by
  unfold m48_r06_SaneRange at h
  refine callsA_of Try.func48 rfl (nt := 24) rfl (Nat.le_of_ble_eq_true rfl) ?_
  intro w0 S0
  refine cseq ?_
  refine cregion ?_
  refine sbox rfl rfl ?_
  refine sv rfl (opv_as rfl) ?_
  refine snil ?_
  refine cseq ?_
  refine cregion ?_
  refine sv rfl (opv_fieldAddr_lp fi27_0 rfl) ?_
  refine sv rfl (opv_load1 ti25 rfl (.lp _ _ _ rfl) rfl) ?_
  refine sv rfl (opv_len_sl si25 rfl) ?_
  refine sv rfl (opv_leq rfl rfl) ?_
  refine sv rfl (opv_mv rfl) ?_
  refine ssplit 7 rfl (fun hc => ?_) (fun hc => ?_)
  · replace h := ite_t hc h
    clear hc
    refine son rfl rfl rfl ?_
    refine sv rfl (opv_fieldAddr_lp fi27_1 rfl) ?_
    refine son rfl rfl rfl ?_
    refine sv rfl (opv_load1 ti25 rfl (.lp _ _ _ rfl) rfl) ?_
    refine son rfl rfl rfl ?_
    refine sv rfl (opv_len_sl si25 rfl) ?_
    refine son rfl rfl rfl ?_
    refine sv rfl (opv_leq rfl rfl) ?_
    refine sv rfl (opv_pick_t rfl rfl) ?_
    refine sv rfl (opv_mv rfl) ?_
    refine ssplit 13 rfl (fun hc => ?_) (fun hc => ?_)
    · replace h := ite_t hc h
      clear hc
      refine son rfl rfl rfl ?_
      refine sv rfl (opv_fieldAddr_lp fi27_2 rfl) ?_
      refine son rfl rfl rfl ?_
      refine sv rfl (opv_load1 ti4 rfl (.lp _ _ _ rfl) rfl) ?_
      refine son rfl rfl rfl ?_
      refine sv rfl (opv_not rfl) ?_
      refine son rfl rfl rfl ?_
      refine sv rfl (opv_mv rfl) ?_
      refine ssplit 17 rfl (fun hc => ?_) (fun hc => ?_)
      · replace h := ite_t hc h
        clear hc
        refine soff rfl rfl rfl rfl ?_
        refine soff rfl rfl rfl rfl ?_
        refine soff rfl rfl rfl rfl ?_
        refine soff rfl rfl rfl rfl ?_
        refine son rfl rfl rfl ?_
        refine sv rfl (opv_pick_t rfl rfl) ?_
        refine sv rfl (opv_pick_t rfl rfl) ?_
        refine sv rfl (opv_as rfl) ?_
        refine snil ?_
        refine cret ?_
        obtain rfl := Option.some.inj h
        refine ⟨Or.inr rfl, _, _, _, (resVs_cons (ResV.tmp _ _ rfl) resVs_nil), (pubA_id rfl), ?_⟩
        rfl
      · replace h := ite_f hc h
        clear hc
        refine son rfl rfl rfl ?_
        refine sv rfl (opv_fieldAddr_lp fi27_1 rfl) ?_
        refine son rfl rfl rfl ?_
        refine sv rfl (opv_load1 ti25 rfl (.lp _ _ _ rfl) rfl) ?_
        refine son rfl rfl rfl ?_
        refine sv rfl (opv_len_sl si25 rfl) ?_
        refine son rfl rfl rfl ?_
        refine sv rfl (opv_ieql rfl rfl) ?_
        refine son rfl rfl rfl ?_
        refine sv rfl (opv_pick_f rfl rfl) ?_
        refine sv rfl (opv_pick_t rfl rfl) ?_
        refine sv rfl (opv_as rfl) ?_
        refine snil ?_
        refine cret ?_
        obtain rfl := Option.some.inj h
        refine ⟨Or.inr rfl, _, _, _, (resVs_cons (ResV.tmp _ _ rfl) resVs_nil), (pubA_id rfl), ?_⟩
        rfl
    · replace h := ite_f hc h
      clear hc
      refine soff rfl rfl rfl rfl ?_
      refine soff rfl rfl rfl rfl ?_
      refine soff rfl rfl rfl rfl ?_
      refine soff rfl rfl rfl rfl ?_
      refine soffu rfl rfl rfl ?_
      refine soffu rfl rfl rfl ?_
      refine soffu rfl rfl rfl ?_
      refine soffu rfl rfl rfl ?_
      refine soff rfl rfl rfl rfl ?_
      refine sv rfl (opv_pick_f rfl rfl) ?_
      refine sv rfl (opv_as rfl) ?_
      refine snil ?_
      refine cret ?_
      obtain rfl := Option.some.inj h
      refine ⟨Or.inr rfl, _, _, _, (resVs_cons (ResV.tmp _ _ rfl) resVs_nil), (pubA_id rfl), ?_⟩
      rfl
  · replace h := ite_f hc h
    clear hc
    refine soff rfl rfl rfl rfl ?_
    refine soff rfl rfl rfl rfl ?_
    refine soff rfl rfl rfl rfl ?_
    refine soff rfl rfl rfl rfl ?_
    refine sv rfl (opv_pick_f rfl rfl) ?_
    refine sv rfl (opv_mv rfl) ?_
    refine soff rfl rfl rfl rfl ?_
    refine soff rfl rfl rfl rfl ?_
    refine soff rfl rfl rfl rfl ?_
    refine soff rfl rfl rfl rfl ?_
    refine soffu rfl rfl rfl ?_
    refine soffu rfl rfl rfl ?_
    refine soffu rfl rfl rfl ?_
    refine soffu rfl rfl rfl ?_
    refine soff rfl rfl rfl rfl ?_
    refine sv rfl (opv_pick_f rfl rfl) ?_
    refine sv rfl (opv_as rfl) ?_
    refine snil ?_
    refine cret ?_
    obtain rfl := Option.some.inj h
    refine ⟨Or.inr rfl, _, _, _, (resVs_cons (ResV.tmp _ _ rfl) resVs_nil), (pubA_id rfl), ?_⟩
    rfl

def m44_r06_Cmp_k1 (a0 : List UInt8) (a1 : List UInt8) (b1 : Unit) : Option Int :=
  if (decide ((a0.length : Int) < (a1.length : Int))) then (some (-1)) else (if (decide ((a1.length : Int) < (a0.length : Int))) then (some 1) else (some 0))

def m44_r06_Cmp_k3 (a0 : List UInt8) (a1 : List UInt8) (s2 : Int) (b3 : Unit) : Option (LR (Int) (Unit) (Int)) :=
  (idx a0 s2).bind fun u4 => (idx a1 s2).bind fun u5 => if (decide ((u4.toBitVec.toNat : Int) < (u5.toBitVec.toNat : Int))) then (some (.ret (-1))) else ((idx a0 s2).bind fun u6 => (idx a1 s2).bind fun u7 => if (decide ((u7.toBitVec.toNat : Int) < (u6.toBitVec.toNat : Int))) then (some (.ret 1)) else (some (.cont (wI (s2 + 1)))))

def m44_r06_Cmp_s2 (a0 : List UInt8) (a1 : List UInt8) (s2 : Int) : Option (LR (Int) (Unit) (Int)) :=
  if (decide (s2 < (a0.length : Int))) then (if (decide (s2 < (a1.length : Int))) then (m44_r06_Cmp_k3 a0 a1 s2 ()) else (some (.brk ()))) else (some (.brk ()))
def m44_r06_Cmp (a0 : List UInt8) (a1 : List UInt8) : Option Int :=
  (iter (m44_r06_Cmp_s2 a0 a1) fuel 0).bind fun x => match x with | .inl r => some r | .inr e8 => m44_r06_Cmp_k1 a0 a1 e8

set_option maxRecDepth 100000 in
theorem m44_r06_Cmp_c {a0 : List UInt8} {a1 : List UInt8} {r : Int} (h : m44_r06_Cmp a0 a1 = some r) : CallsA Try.prog 44 [.one (.sl a0.length (a0.flatMap eU8)), .one (.sl a1.length (a1.flatMap eU8))] (· = .s (.one (.i .i64 r))) := by
  unfold m44_r06_Cmp at h
  refine callsA_of Try.func44 rfl (nt := 46) rfl (Nat.le_of_ble_eq_true rfl) ?_
  intro w0 S0
  refine cseq ?_
  refine cregion ?_
  refine sv rfl (opv_as rfl) ?_
  refine snil ?_
  refine cseq ?_
  refine cseq ?_
  refine cregion ?_
  refine sv rfl (opv_as rfl) ?_
  refine snil ?_
  refine cjoin (Unit) (fun b1 => [(0, .s (.one (.sl a0.length (a0.flatMap eU8)))), (1, .s (.one (.sl a1.length (a1.flatMap eU8))))]) (fun b1 => []) (fun b1 => m44_r06_Cmp_k1 a0 a1 b1 = some r) (fun _ _ => inbL_of rfl) (fun _ _ => blkinb_of rfl) (fun _ _ => Nat.le_of_ble_eq_true rfl) (fun b1 h => ?_) ?_
  · unfold m44_r06_Cmp_k1 at h
    refine cseq ?_
    refine cseq ?_
    refine cregion ?_
    refine sv rfl (opv_mv rfl) ?_
    refine sv rfl (opv_len_sl si25 rfl) ?_
    refine sv rfl (opv_mv rfl) ?_
    refine sv rfl (opv_len_sl si25 rfl) ?_
    refine sv rfl (opv_lss rfl rfl) ?_
    refine snil ?_
    refine ccond rfl (fun hc => ?_) (fun hc => ?_)
    · replace h := ite_t hc h
      clear hc
      refine cseq ?_
      refine cregion ?_
      refine sv rfl (opv_as rfl) ?_
      refine snil ?_
      refine cret ?_
      refine then_ret ?_
      obtain rfl := Option.some.inj h
      refine ⟨Or.inr rfl, _, _, _, (resVs_cons (ResV.tmp _ _ rfl) resVs_nil), (pubA_id rfl), ?_⟩
      rfl
    · replace h := ite_f hc h
      clear hc
      refine cskip ?_
      refine then_normal ?_
      refine cseq ?_
      refine cseq ?_
      refine cregion ?_
      refine sv rfl (opv_mv rfl) ?_
      refine sv rfl (opv_len_sl si25 rfl) ?_
      refine sv rfl (opv_mv rfl) ?_
      refine sv rfl (opv_len_sl si25 rfl) ?_
      refine sv rfl (opv_gtr rfl rfl) ?_
      refine snil ?_
      refine ccond rfl (fun hc => ?_) (fun hc => ?_)
      · replace h := ite_t hc h
        clear hc
        refine cseq ?_
        refine cregion ?_
        refine sv rfl (opv_as rfl) ?_
        refine snil ?_
        refine cret ?_
        refine then_ret ?_
        obtain rfl := Option.some.inj h
        refine ⟨Or.inr rfl, _, _, _, (resVs_cons (ResV.tmp _ _ rfl) resVs_nil), (pubA_id rfl), ?_⟩
        rfl
      · replace h := ite_f hc h
        clear hc
        refine cskip ?_
        refine then_normal ?_
        refine cseq ?_
        refine cregion ?_
        refine sv rfl (opv_as rfl) ?_
        refine snil ?_
        refine cret ?_
        obtain rfl := Option.some.inj h
        refine ⟨Or.inr rfl, _, _, _, (resVs_cons (ResV.tmp _ _ rfl) resVs_nil), (pubA_id rfl), ?_⟩
        rfl
  · skip
    refine cblock ?_
    obtain ⟨x2, hx2, ho2⟩ := bind_eq h
    refine awc_loop (G := Nat × (Int)) (fun g => [(0, .s (.one (.sl a0.length (a0.flatMap eU8)))), (1, .s (.one (.sl a1.length (a1.flatMap eU8)))), (5, .s (.one (.i .i64 g.2)))]) (fun g => []) (fun g => iter (m44_r06_Cmp_s2 a0 a1) g.1 g.2 = some x2) (fun g => g.1) (fuel, 0) hx2 ⟨rfl, rfl, rfl, trivial⟩ [] rfl (fun _ _ => inbL_of rfl) (fun _ _ => blkinb_of rfl) (fun _ _ => Nat.le_of_ble_eq_true rfl) ?_
    clear hx2 h
    rintro ⟨n2, s2⟩ h
    obtain ⟨n2, y2, rfl, h, hk2⟩ := iter_eq h
    unfold m44_r06_Cmp_s2 at h
    refine cseq ?_
    refine cseq ?_
    refine cjoin3 (Unit) (fun b3 => [(0, .s (.one (.sl a0.length (a0.flatMap eU8)))), (1, .s (.one (.sl a1.length (a1.flatMap eU8)))), (5, .s (.one (.i .i64 s2)))]) (fun b3 => []) (fun b3 => m44_r06_Cmp_k3 a0 a1 s2 b3 = some y2) (fun _ _ => inbL_of rfl) (fun _ _ => blkinb_of rfl) (fun _ _ => Nat.le_of_ble_eq_true rfl) (fun b3 h => ?_) ?_
    · unfold m44_r06_Cmp_k3 at h
      refine cseq ?_
      refine cblock ?_
      refine cseq ?_
      refine cseq ?_
      refine cdraw mixed (by kernel_rfl) ?_
      refine dv rfl (opv_mv rfl) ?_
      refine dv rfl (opv_mv rfl) ?_
      obtain ⟨u4, hu4, h⟩ := bind_eq h
      refine dv rfl (opv_ix (f := eU8) si25 (fun _ => rfl) rfl rfl rfl rfl hu4) ?_
      refine dv rfl (opv_load1 ti5 rfl (.cp _) rfl) ?_
      refine dv rfl (opv_mv rfl) ?_
      refine dv rfl (opv_mv rfl) ?_
      obtain ⟨u5, hu5, h⟩ := bind_eq h
      refine dv rfl (opv_ix (f := eU8) si25 (fun _ => rfl) rfl rfl rfl rfl hu5) ?_
      refine dv rfl (opv_load1 ti5 rfl (.cp _) rfl) ?_
      refine dv rfl (opv_lss rfl rfl) ?_
      refine dnil ?_
      refine then_normal ?_
      refine ccond rfl (fun hc => ?_) (fun hc => ?_)
      · replace h := ite_t hc h
        clear hc
        refine cseq ?_
        refine cregion ?_
        refine sv rfl (opv_as rfl) ?_
        refine snil ?_
        refine cret ?_
        refine then_ret ?_
        refine block_ret ?_
        refine then_ret ?_
        refine then_ret ?_
        refine block_ret ?_
        refine then_ret ?_
        obtain rfl := Option.some.inj h
        obtain rfl : Sum.inl _ = x2 := hk2
        replace ho2 : some _ = some _ := ho2
        obtain rfl := Option.some.inj ho2
        refine ⟨Or.inr rfl, _, _, _, (resVs_cons (ResV.tmp _ _ rfl) resVs_nil), (pubA_id rfl), ?_⟩
        rfl
      · replace h := ite_f hc h
        clear hc
        refine cskip ?_
        refine then_normal ?_
        refine cseq ?_
        refine cdraw mixed (by kernel_rfl) ?_
        refine dv rfl (opv_mv rfl) ?_
        refine dv rfl (opv_mv rfl) ?_
        obtain ⟨u6, hu6, h⟩ := bind_eq h
        refine dv rfl (opv_ix (f := eU8) si25 (fun _ => rfl) rfl rfl rfl rfl hu6) ?_
        refine dv rfl (opv_load1 ti5 rfl (.cp _) rfl) ?_
        refine dv rfl (opv_mv rfl) ?_
        refine dv rfl (opv_mv rfl) ?_
        obtain ⟨u7, hu7, h⟩ := bind_eq h
        refine dv rfl (opv_ix (f := eU8) si25 (fun _ => rfl) rfl rfl rfl rfl hu7) ?_
        refine dv rfl (opv_load1 ti5 rfl (.cp _) rfl) ?_
        refine dv rfl (opv_gtr rfl rfl) ?_
        refine dnil ?_
        refine then_normal ?_
        refine ccond rfl (fun hc => ?_) (fun hc => ?_)
        · replace h := ite_t hc h
          clear hc
          refine cseq ?_
          refine cregion ?_
          refine sv rfl (opv_as rfl) ?_
          refine snil ?_
          refine cret ?_
          refine block_ret ?_
          refine then_ret ?_
          refine then_ret ?_
          refine block_ret ?_
          refine then_ret ?_
          obtain rfl := Option.some.inj h
          obtain rfl : Sum.inl _ = x2 := hk2
          replace ho2 : some _ = some _ := ho2
          obtain rfl := Option.some.inj ho2
          refine ⟨Or.inr rfl, _, _, _, (resVs_cons (ResV.tmp _ _ rfl) resVs_nil), (pubA_id rfl), ?_⟩
          rfl
        · replace h := ite_f hc h
          clear hc
          refine cskip ?_
          refine block_normal ?_
          refine then_normal ?_
          refine cregion ?_
          refine sv rfl (opv_mv rfl) ?_
          refine sv rfl (opv_add rfl rfl) ?_
          refine sv rfl (opv_as rfl) ?_
          refine snil ?_
          obtain rfl := Option.some.inj h
          exact ⟨(n2, (wI (s2 + 1))), _, hk2, ⟨rfl, rfl, rfl, trivial⟩, rfl, Nat.lt_succ_self _⟩
    · skip
      refine cregion ?_
      refine sv rfl (opv_mv rfl) ?_
      refine sv rfl (opv_mv rfl) ?_
      refine sv rfl (opv_len_sl si25 rfl) ?_
      refine sv rfl (opv_lss rfl rfl) ?_
      refine sv rfl (opv_mv rfl) ?_
      refine ssplit 10 rfl (fun hc => ?_) (fun hc => ?_)
      · replace h := ite_t hc h
        clear hc
        refine son rfl rfl rfl ?_
        refine sv rfl (opv_mv rfl) ?_
        refine son rfl rfl rfl ?_
        refine sv rfl (opv_mv rfl) ?_
        refine son rfl rfl rfl ?_
        refine sv rfl (opv_len_sl si25 rfl) ?_
        refine son rfl rfl rfl ?_
        refine sv rfl (opv_lss rfl rfl) ?_
        refine sv rfl (opv_pick_t rfl rfl) ?_
        refine snil ?_
        refine ccond rfl (fun hc => ?_) (fun hc => ?_)
        · replace h := ite_t hc h
          clear hc
          refine cskip ?_
          refine then_normal ?_
          exact ⟨(), _, h, ⟨rfl, rfl, rfl, trivial⟩, rfl⟩
        · replace h := ite_f hc h
          clear hc
          refine cexit ?_
          refine then_exit ?_
          refine then_exit ?_
          refine block_hit ?_
          refine then_normal ?_
          obtain rfl := Option.some.inj h
          obtain rfl : _ = x2 := hk2
          exact ⟨(), _, ho2, ⟨rfl, rfl, trivial⟩, rfl⟩
      · replace h := ite_f hc h
        clear hc
        refine soff rfl rfl rfl rfl ?_
        refine soff rfl rfl rfl rfl ?_
        refine soff rfl rfl rfl rfl ?_
        refine soff rfl rfl rfl rfl ?_
        refine sv rfl (opv_pick_f rfl rfl) ?_
        refine snil ?_
        refine ccond rfl (fun hx => Bool.noConfusion hx) (fun _ => ?_)
        refine cexit ?_
        refine then_exit ?_
        refine then_exit ?_
        refine block_hit ?_
        refine then_normal ?_
        obtain rfl := Option.some.inj h
        obtain rfl : _ = x2 := hk2
        exact ⟨(), _, ho2, ⟨rfl, rfl, trivial⟩, rfl⟩

def m49_r06_Empty (a0 : GApiRange) : Option Bool :=
  if (!a0.Open) then ((m44_r06_Cmp a0.Hi a0.Lo).bind fun v1 => if (decide (v1 ≤ 0)) then (some true) else (if (decide ((a0.Lo.length : Int) = 0)) then (if (decide ((a0.Hi.length : Int) = 1)) then ((idx a0.Hi 0).bind fun u2 => some (decide ((u2.toBitVec.toNat : Int) = (0 : Int)))) else (some false)) else (some false))) else (some false)

set_option maxRecDepth 100000 in
theorem m49_r06_Empty_c {a0 : GApiRange} {r : Bool} (h : m49_r06_Empty a0 = some r) : CallsA Try.prog 49 [.agg a0] (· = .s (.one (.b r))) := by
  unfold m49_r06_Empty at h
  refine callsA_of Try.func49 rfl (nt := 33) rfl (Nat.le_of_ble_eq_true rfl) ?_
  intro w0 S0
  refine cseq ?_
  refine cregion ?_
  refine sbox rfl rfl ?_
  refine sv rfl (opv_as rfl) ?_
  refine snil ?_
  refine cseq ?_
  refine cregion ?_
  refine sv rfl (opv_fieldAddr_lp fi27_2 rfl) ?_
  refine sv rfl (opv_load1 ti4 rfl (.lp _ _ _ rfl) rfl) ?_
  refine sv rfl (opv_not rfl) ?_
  refine sv rfl (opv_mv rfl) ?_
  refine ssplit 6 rfl (fun hc => ?_) (fun hc => ?_)
  · replace h := ite_t hc h
    clear hc
    refine son rfl rfl rfl ?_
    refine sv rfl (opv_fieldAddr_lp fi27_1 rfl) ?_
    refine son rfl rfl rfl ?_
    refine sv rfl (opv_load1 ti25 rfl (.lp _ _ _ rfl) rfl) ?_
    refine son rfl rfl rfl ?_
    refine sv rfl (opv_fieldAddr_lp fi27_0 rfl) ?_
    refine son rfl rfl rfl ?_
    refine sv rfl (opv_load1 ti25 rfl (.lp _ _ _ rfl) rfl) ?_
    refine son rfl rfl rfl ?_
    obtain ⟨v1, hv1, h⟩ := bind_eq h
    refine scall1 rfl fn44 (opnds_cons rfl (opnds_cons rfl opnds_nil)) (pubA_id rfl) (m44_r06_Cmp_c hv1) ?_
    refine son rfl rfl rfl ?_
    refine sv rfl (opv_leq rfl rfl) ?_
    refine son rfl rfl rfl ?_
    refine sv rfl (opv_mv rfl) ?_
    refine ssplit 13 rfl (fun hc => ?_) (fun hc => ?_)
    · replace h := ite_t hc h
      clear hc
      refine soff rfl rfl rfl rfl ?_
      refine soff rfl rfl rfl rfl ?_
      refine soff rfl rfl rfl rfl ?_
      refine soff rfl rfl rfl rfl ?_
      refine soff rfl rfl rfl rfl ?_
      refine soffu rfl rfl rfl ?_
      refine soffu rfl rfl rfl ?_
      refine soffu rfl rfl rfl ?_
      refine soffu rfl rfl rfl ?_
      refine soff rfl rfl rfl rfl ?_
      refine soff rfl rfl rfl rfl ?_
      refine soffu rfl rfl rfl ?_
      refine soffu rfl rfl rfl ?_
      refine soffu rfl rfl rfl ?_
      refine soffu rfl rfl rfl ?_
      refine soffu rfl rfl rfl ?_
      refine soff rfl rfl rfl rfl ?_
      refine son rfl rfl rfl ?_
      refine sv rfl (opv_pick_t rfl rfl) ?_
      refine sv rfl (opv_pick_t rfl rfl) ?_
      refine sv rfl (opv_as rfl) ?_
      refine snil ?_
      refine cret ?_
      obtain rfl := Option.some.inj h
      refine ⟨Or.inr rfl, _, _, _, (resVs_cons (ResV.tmp _ _ rfl) resVs_nil), (pubA_id rfl), ?_⟩
      rfl
    · replace h := ite_f hc h
      clear hc
      refine son rfl rfl rfl ?_
      refine sv rfl (opv_fieldAddr_lp fi27_0 rfl) ?_
      refine son rfl rfl rfl ?_
      refine sv rfl (opv_load1 ti25 rfl (.lp _ _ _ rfl) rfl) ?_
      refine son rfl rfl rfl ?_
      refine sv rfl (opv_len_sl si25 rfl) ?_
      refine son rfl rfl rfl ?_
      refine sv rfl (opv_ieql rfl rfl) ?_
      refine son rfl rfl rfl ?_
      refine sv rfl (opv_mv rfl) ?_
      refine ssplit 18 rfl (fun hc => ?_) (fun hc => ?_)
      · replace h := ite_t hc h
        clear hc
        refine son rfl rfl rfl ?_
        refine sv rfl (opv_fieldAddr_lp fi27_1 rfl) ?_
        refine son rfl rfl rfl ?_
        refine sv rfl (opv_load1 ti25 rfl (.lp _ _ _ rfl) rfl) ?_
        refine son rfl rfl rfl ?_
        refine sv rfl (opv_len_sl si25 rfl) ?_
        refine son rfl rfl rfl ?_
        refine sv rfl (opv_ieql rfl rfl) ?_
        refine son rfl rfl rfl ?_
        refine sv rfl (opv_pick_t rfl rfl) ?_
        refine son rfl rfl rfl ?_
        refine sv rfl (opv_mv rfl) ?_
        refine ssplit 24 rfl (fun hc => ?_) (fun hc => ?_)
        · replace h := ite_t hc h
          clear hc
          refine son rfl rfl rfl ?_
          refine sv rfl (opv_fieldAddr_lp fi27_1 rfl) ?_
          refine son rfl rfl rfl ?_
          refine sv rfl (opv_load1 ti25 rfl (.lp _ _ _ rfl) rfl) ?_
          refine son rfl rfl rfl ?_
          obtain ⟨u2, hu2, h⟩ := bind_eq h
          refine sv rfl (opv_ix (f := eU8) si25 (fun _ => rfl) rfl rfl rfl rfl hu2) ?_
          refine son rfl rfl rfl ?_
          refine sv rfl (opv_load1 ti5 rfl (.cp _) rfl) ?_
          refine son rfl rfl rfl ?_
          refine sv rfl (opv_ieql rfl rfl) ?_
          refine son rfl rfl rfl ?_
          refine sv rfl (opv_pick_t rfl rfl) ?_
          refine son rfl rfl rfl ?_
          refine sv rfl (opv_pick_f rfl rfl) ?_
          refine sv rfl (opv_pick_t rfl rfl) ?_
          refine sv rfl (opv_as rfl) ?_
          refine snil ?_
          refine cret ?_
          obtain rfl := Option.some.inj h
          refine ⟨Or.inr rfl, _, _, _, (resVs_cons (ResV.tmp _ _ rfl) resVs_nil), (pubA_id rfl), ?_⟩
          rfl
        · replace h := ite_f hc h
          clear hc
          refine soff rfl rfl rfl rfl ?_
          refine soff rfl rfl rfl rfl ?_
          refine soff rfl rfl rfl rfl ?_
          refine soff rfl rfl rfl rfl ?_
          refine soff rfl rfl rfl rfl ?_
          refine son rfl rfl rfl ?_
          refine sv rfl (opv_pick_f rfl rfl) ?_
          refine son rfl rfl rfl ?_
          refine sv rfl (opv_pick_f rfl rfl) ?_
          refine sv rfl (opv_pick_t rfl rfl) ?_
          refine sv rfl (opv_as rfl) ?_
          refine snil ?_
          refine cret ?_
          obtain rfl := Option.some.inj h
          refine ⟨Or.inr rfl, _, _, _, (resVs_cons (ResV.tmp _ _ rfl) resVs_nil), (pubA_id rfl), ?_⟩
          rfl
      · replace h := ite_f hc h
        clear hc
        refine soff rfl rfl rfl rfl ?_
        refine soff rfl rfl rfl rfl ?_
        refine soff rfl rfl rfl rfl ?_
        refine soff rfl rfl rfl rfl ?_
        refine son rfl rfl rfl ?_
        refine sv rfl (opv_pick_f rfl rfl) ?_
        refine son rfl rfl rfl ?_
        refine sv rfl (opv_mv rfl) ?_
        refine soff rfl rfl rfl rfl ?_
        refine soff rfl rfl rfl rfl ?_
        refine soff rfl rfl rfl rfl ?_
        refine soff rfl rfl rfl rfl ?_
        refine soff rfl rfl rfl rfl ?_
        refine son rfl rfl rfl ?_
        refine sv rfl (opv_pick_f rfl rfl) ?_
        refine son rfl rfl rfl ?_
        refine sv rfl (opv_pick_f rfl rfl) ?_
        refine sv rfl (opv_pick_t rfl rfl) ?_
        refine sv rfl (opv_as rfl) ?_
        refine snil ?_
        refine cret ?_
        obtain rfl := Option.some.inj h
        refine ⟨Or.inr rfl, _, _, _, (resVs_cons (ResV.tmp _ _ rfl) resVs_nil), (pubA_id rfl), ?_⟩
        rfl
  · replace h := ite_f hc h
    clear hc
    refine soff rfl rfl rfl rfl ?_
    refine soff rfl rfl rfl rfl ?_
    refine soff rfl rfl rfl rfl ?_
    refine soff rfl rfl rfl rfl ?_
    refine soff rfl rfl rfl rfl ?_
    refine soff rfl rfl rfl rfl ?_
    refine soff rfl rfl rfl rfl ?_
    refine soffu rfl rfl rfl ?_
    refine soffu rfl rfl rfl ?_
    refine soffu rfl rfl rfl ?_
    refine soffu rfl rfl rfl ?_
    refine soffu rfl rfl rfl ?_
    refine soffu rfl rfl rfl ?_
    refine soffu rfl rfl rfl ?_
    refine soffu rfl rfl rfl ?_
    refine soffu rfl rfl rfl ?_
    refine soffu rfl rfl rfl ?_
    refine soffu rfl rfl rfl ?_
    refine soffu rfl rfl rfl ?_
    refine soffu rfl rfl rfl ?_
    refine soffu rfl rfl rfl ?_
    refine soffu rfl rfl rfl ?_
    refine soffu rfl rfl rfl ?_
    refine soffu rfl rfl rfl ?_
    refine soff rfl rfl rfl rfl ?_
    refine sv rfl (opv_pick_f rfl rfl) ?_
    refine sv rfl (opv_as rfl) ?_
    refine snil ?_
    refine cret ?_
    obtain rfl := Option.some.inj h
    refine ⟨Or.inr rfl, _, _, _, (resVs_cons (ResV.tmp _ _ rfl) resVs_nil), (pubA_id rfl), ?_⟩
    rfl

def m36_r10_one (a0 : GR10Read) : Option Bool :=
  if (decide (0 ≤ a0.Tx)) then ((m48_r06_SaneRange (GApiRange.mk a0.Rng.Lo a0.Rng.Hi a0.Rng.Open)).bind fun v1 => if v1 then ((m49_r06_Empty (GApiRange.mk a0.Rng.Lo a0.Rng.Hi a0.Rng.Open)).bind fun v2 => some (!v2)) else (some false)) else (some false)

set_option maxRecDepth 100000 in
theorem m36_r10_one_c {a0 : GR10Read} {r : Bool} (h : m36_r10_one a0 = some r) : CallsA Try.prog 36 [.agg a0] (· = .s (.one (.b r))) := by
  unfold m36_r10_one at h
  refine callsA_of Try.func36 rfl (nt := 17) rfl (Nat.le_of_ble_eq_true rfl) ?_
  intro w0 S0
  refine cseq ?_
  refine cregion ?_
  refine sbox rfl rfl ?_
  refine sv rfl (opv_as rfl) ?_
  refine snil ?_
  refine cseq ?_
  refine cregion ?_
  refine sv rfl (opv_fieldAddr_lp fi56_0 rfl) ?_
  refine sv rfl (opv_load1 ti3 rfl (.lp _ _ _ rfl) rfl) ?_
  refine sv rfl (opv_geq rfl rfl) ?_
  refine sv rfl (opv_mv rfl) ?_
  refine ssplit 6 rfl (fun hc => ?_) (fun hc => ?_)
  · replace h := ite_t hc h
    clear hc
    refine son rfl rfl rfl ?_
    refine sv rfl (opv_fieldAddr_lp fi56_1 rfl) ?_
    refine son rfl rfl rfl ?_
    refine sv rfl (opv_loadN ti27 rfl (.lp _ _ _ rfl) (Nat.le_of_ble_eq_true rfl)) ?_
    refine son rfl rfl rfl ?_
    obtain ⟨v1, hv1, h⟩ := bind_eq h
    refine scall1 rfl fn48 (opnds_cons rfl opnds_nil) (pubA_id rfl) (m48_r06_SaneRange_c hv1) ?_
    refine sv rfl (opv_pick_t rfl rfl) ?_
    refine sv rfl (opv_mv rfl) ?_
    refine ssplit 11 rfl (fun hc => ?_) (fun hc => ?_)
    · replace h := ite_t hc h
      clear hc
      refine son rfl rfl rfl ?_
      refine sv rfl (opv_fieldAddr_lp fi56_1 rfl) ?_
      refine son rfl rfl rfl ?_
      refine sv rfl (opv_loadN ti27 rfl (.lp _ _ _ rfl) (Nat.le_of_ble_eq_true rfl)) ?_
      refine son rfl rfl rfl ?_
      obtain ⟨v2, hv2, h⟩ := bind_eq h
      refine scall1 rfl fn49 (opnds_cons rfl opnds_nil) (pubA_id rfl) (m49_r06_Empty_c hv2) ?_
      refine son rfl rfl rfl ?_
      refine sv rfl (opv_not rfl) ?_
      refine sv rfl (opv_pick_t rfl rfl) ?_
      refine sv rfl (opv_as rfl) ?_
      refine snil ?_
      refine cret ?_
      obtain rfl := Option.some.inj h
      refine ⟨Or.inr rfl, _, _, _, (resVs_cons (ResV.tmp _ _ rfl) resVs_nil), (pubA_id rfl), ?_⟩
      rfl
    · replace h := ite_f hc h
      clear hc
      refine soff rfl rfl rfl rfl ?_
      refine soff rfl rfl rfl rfl ?_
      refine soff rfl rfl rfl rfl ?_
      refine soff rfl rfl rfl rfl ?_
      refine sv rfl (opv_pick_f rfl rfl) ?_
      refine sv rfl (opv_as rfl) ?_
      refine snil ?_
      refine cret ?_
      obtain rfl := Option.some.inj h
      refine ⟨Or.inr rfl, _, _, _, (resVs_cons (ResV.tmp _ _ rfl) resVs_nil), (pubA_id rfl), ?_⟩
      rfl
  · replace h := ite_f hc h
    clear hc
    refine soff rfl rfl rfl rfl ?_
    refine soff rfl rfl rfl rfl ?_
    refine soff rfl rfl rfl rfl ?_
    refine sv rfl (opv_pick_f rfl rfl) ?_
    refine sv rfl (opv_mv rfl) ?_
    refine soff rfl rfl rfl rfl ?_
    refine soff rfl rfl rfl rfl ?_
    refine soff rfl rfl rfl rfl ?_
    refine soff rfl rfl rfl rfl ?_
    refine sv rfl (opv_pick_f rfl rfl) ?_
    refine sv rfl (opv_as rfl) ?_
    refine snil ?_
    refine cret ?_
    obtain rfl := Option.some.inj h
    refine ⟨Or.inr rfl, _, _, _, (resVs_cons (ResV.tmp _ _ rfl) resVs_nil), (pubA_id rfl), ?_⟩
    rfl

def m43_r06_SameRange (a0 : GApiRange) (a1 : GApiRange) : Option Bool :=
  if (a0.Lo == a1.Lo) then (if (a0.Hi == a1.Hi) then (some (a0.Open == a1.Open)) else (some false)) else (some false)

set_option maxRecDepth 100000 in
theorem m43_r06_SameRange_c {a0 : GApiRange} {a1 : GApiRange} {r : Bool} (h : m43_r06_SameRange a0 a1 = some r) : CallsA Try.prog 43 [.agg a0, .agg a1] (· = .s (.one (.b r))) := by
  unfold m43_r06_SameRange at h
  refine callsA_of Try.func43 rfl (nt := 28) rfl (Nat.le_of_ble_eq_true rfl) ?_
  intro w0 S0
  refine cseq ?_
  refine cregion ?_
  refine sbox rfl rfl ?_
  refine sbox rfl rfl ?_
  refine sv rfl (opv_as rfl) ?_
  refine snil ?_
  refine cseq ?_
  refine cregion ?_
  refine sv rfl (opv_fieldAddr_lp fi27_0 rfl) ?_
  refine sv rfl (opv_load1 ti25 rfl (.lp _ _ _ rfl) rfl) ?_
  refine sv rfl (opv_bs (l := a0.Lo) Try.underlying25 Try.underlying5 Try.underlying9 rfl rfl rfl) ?_
  refine sv rfl (opv_fieldAddr_lp fi27_0 rfl) ?_
  refine sv rfl (opv_load1 ti25 rfl (.lp _ _ _ rfl) rfl) ?_
  refine sv rfl (opv_bs (l := a1.Lo) Try.underlying25 Try.underlying5 Try.underlying9 rfl rfl rfl) ?_
  refine sv rfl (opv_seql' rfl rfl) ?_
  refine sv rfl (opv_mv rfl) ?_
  refine ssplit 12 rfl (fun hc => ?_) (fun hc => ?_)
  · replace h := ite_t hc h
    clear hc
    refine son rfl rfl rfl ?_
    refine sv rfl (opv_fieldAddr_lp fi27_1 rfl) ?_
    refine son rfl rfl rfl ?_
    refine sv rfl (opv_load1 ti25 rfl (.lp _ _ _ rfl) rfl) ?_
    refine son rfl rfl rfl ?_
    refine sv rfl (opv_bs (l := a0.Hi) Try.underlying25 Try.underlying5 Try.underlying9 rfl rfl rfl) ?_
    refine son rfl rfl rfl ?_
    refine sv rfl (opv_fieldAddr_lp fi27_1 rfl) ?_
    refine son rfl rfl rfl ?_
    refine sv rfl (opv_load1 ti25 rfl (.lp _ _ _ rfl) rfl) ?_
    refine son rfl rfl rfl ?_
    refine sv rfl (opv_bs (l := a1.Hi) Try.underlying25 Try.underlying5 Try.underlying9 rfl rfl rfl) ?_
    refine son rfl rfl rfl ?_
    refine sv rfl (opv_seql' rfl rfl) ?_
    refine sv rfl (opv_pick_t rfl rfl) ?_
    refine sv rfl (opv_mv rfl) ?_
    refine ssplit 21 rfl (fun hc => ?_) (fun hc => ?_)
    · replace h := ite_t hc h
      clear hc
      refine son rfl rfl rfl ?_
      refine sv rfl (opv_fieldAddr_lp fi27_2 rfl) ?_
      refine son rfl rfl rfl ?_
      refine sv rfl (opv_load1 ti4 rfl (.lp _ _ _ rfl) rfl) ?_
      refine son rfl rfl rfl ?_
      refine sv rfl (opv_fieldAddr_lp fi27_2 rfl) ?_
      refine son rfl rfl rfl ?_
      refine sv rfl (opv_load1 ti4 rfl (.lp _ _ _ rfl) rfl) ?_
      refine son rfl rfl rfl ?_
      refine sv rfl (opv_beql Try.underlying4 rfl rfl) ?_
      refine sv rfl (opv_pick_t rfl rfl) ?_
      refine sv rfl (opv_as rfl) ?_
      refine snil ?_
      refine cret ?_
      obtain rfl := Option.some.inj h
      refine ⟨Or.inr rfl, _, _, _, (resVs_cons (ResV.tmp _ _ rfl) resVs_nil), (pubA_id rfl), ?_⟩
      rfl
    · replace h := ite_f hc h
      clear hc
      refine soff rfl rfl rfl rfl ?_
      refine soff rfl rfl rfl rfl ?_
      refine soff rfl rfl rfl rfl ?_
      refine soff rfl rfl rfl rfl ?_
      refine soff rfl rfl rfl rfl ?_
      refine sv rfl (opv_pick_f rfl rfl) ?_
      refine sv rfl (opv_as rfl) ?_
      refine snil ?_
      refine cret ?_
      obtain rfl := Option.some.inj h
      refine ⟨Or.inr rfl, _, _, _, (resVs_cons (ResV.tmp _ _ rfl) resVs_nil), (pubA_id rfl), ?_⟩
      rfl
  · replace h := ite_f hc h
    clear hc
    refine soff rfl rfl rfl rfl ?_
    refine soff rfl rfl rfl rfl ?_
    refine soff rfl rfl rfl rfl ?_
    refine soff rfl rfl rfl rfl ?_
    refine soff rfl rfl rfl rfl ?_
    refine soff rfl rfl rfl rfl ?_
    refine soff rfl rfl rfl rfl ?_
    refine sv rfl (opv_pick_f rfl rfl) ?_
    refine sv rfl (opv_mv rfl) ?_
    refine soff rfl rfl rfl rfl ?_
    refine soff rfl rfl rfl rfl ?_
    refine soff rfl rfl rfl rfl ?_
    refine soff rfl rfl rfl rfl ?_
    refine soff rfl rfl rfl rfl ?_
    refine sv rfl (opv_pick_f rfl rfl) ?_
    refine sv rfl (opv_as rfl) ?_
    refine snil ?_
    refine cret ?_
    obtain rfl := Option.some.inj h
    refine ⟨Or.inr rfl, _, _, _, (resVs_cons (ResV.tmp _ _ rfl) resVs_nil), (pubA_id rfl), ?_⟩
    rfl

def m37_r10_same (a0 : GR10Read) (a1 : GR10Read) : Option Bool :=
  if (decide (a0.Tx = a1.Tx)) then ((m43_r06_SameRange (GApiRange.mk a0.Rng.Lo a0.Rng.Hi a0.Rng.Open) (GApiRange.mk a1.Rng.Lo a1.Rng.Hi a1.Rng.Open)).bind fun v1 => some v1) else (some false)

set_option maxRecDepth 100000 in
theorem m37_r10_same_c {a0 : GR10Read} {a1 : GR10Read} {r : Bool} (h : m37_r10_same a0 a1 = some r) : CallsA Try.prog 37 [.agg a0, .agg a1] (· = .s (.one (.b r))) := by
  unfold m37_r10_same at h
  refine callsA_of Try.func37 rfl (nt := 17) rfl (Nat.le_of_ble_eq_true rfl) ?_
  intro w0 S0
  refine cseq ?_
  refine cregion ?_
  refine sbox rfl rfl ?_
  refine sbox rfl rfl ?_
  refine sv rfl (opv_as rfl) ?_
  refine snil ?_
  refine cseq ?_
  refine cregion ?_
  refine sv rfl (opv_fieldAddr_lp fi56_0 rfl) ?_
  refine sv rfl (opv_load1 ti3 rfl (.lp _ _ _ rfl) rfl) ?_
  refine sv rfl (opv_fieldAddr_lp fi56_0 rfl) ?_
  refine sv rfl (opv_load1 ti3 rfl (.lp _ _ _ rfl) rfl) ?_
  refine sv rfl (opv_ieql rfl rfl) ?_
  refine sv rfl (opv_mv rfl) ?_
  refine ssplit 10 rfl (fun hc => ?_) (fun hc => ?_)
  · replace h := ite_t hc h
    clear hc
    refine son rfl rfl rfl ?_
    refine sv rfl (opv_fieldAddr_lp fi56_1 rfl) ?_
    refine son rfl rfl rfl ?_
    refine sv rfl (opv_loadN ti27 rfl (.lp _ _ _ rfl) (Nat.le_of_ble_eq_true rfl)) ?_
    refine son rfl rfl rfl ?_
    refine sv rfl (opv_fieldAddr_lp fi56_1 rfl) ?_
    refine son rfl rfl rfl ?_
    refine sv rfl (opv_loadN ti27 rfl (.lp _ _ _ rfl) (Nat.le_of_ble_eq_true rfl)) ?_
    refine son rfl rfl rfl ?_
    obtain ⟨v1, hv1, h⟩ := bind_eq h
    refine scall1 rfl fn43 (opnds_cons rfl (opnds_cons rfl opnds_nil)) (pubA_id rfl) (m43_r06_SameRange_c hv1) ?_
    refine sv rfl (opv_pick_t rfl rfl) ?_
    refine sv rfl (opv_as rfl) ?_
    refine snil ?_
    refine cret ?_
    obtain rfl := Option.some.inj h
    refine ⟨Or.inr rfl, _, _, _, (resVs_cons (ResV.tmp _ _ rfl) resVs_nil), (pubA_id rfl), ?_⟩
    rfl
  · replace h := ite_f hc h
    clear hc
    refine soff rfl rfl rfl rfl ?_
    refine soff rfl rfl rfl rfl ?_
    refine soff rfl rfl rfl rfl ?_
    refine soff rfl rfl rfl rfl ?_
    refine soff rfl rfl rfl rfl ?_
    refine sv rfl (opv_pick_f rfl rfl) ?_
    refine sv rfl (opv_as rfl) ?_
    refine snil ?_
    refine cret ?_
    obtain rfl := Option.some.inj h
    refine ⟨Or.inr rfl, _, _, _, (resVs_cons (ResV.tmp _ _ rfl) resVs_nil), (pubA_id rfl), ?_⟩
    rfl

def m17_r10_Sane_k1 (a0 : GR10Table) (b1 : Unit) : Option Bool :=
  some (decide ((a0.L.length : Int) ≤ 128))

def m17_r10_Sane_k5 (s2 : Int) (b5 : Unit) : Option (LR (Int) (Unit) (Bool)) :=
  some (.cont (wI (s2 + 1)))

def m17_r10_Sane_s6 (a0 : GR10Table) (s2 : Int) (s6 : Int) : Option (LR (Int) (Unit) (Bool)) :=
  if (decide (s6 < s2)) then ((idx a0.L s6).bind fun u7 => (idx a0.L s2).bind fun u8 => (m37_r10_same (GR10Read.mk u7.Tx (GApiRange.mk u7.Rng.Lo u7.Rng.Hi u7.Rng.Open)) (GR10Read.mk u8.Tx (GApiRange.mk u8.Rng.Lo u8.Rng.Hi u8.Rng.Open))).bind fun v9 => if v9 then (some (.ret false)) else (some (.cont (wI (s6 + 1))))) else (some (.brk ()))

def m17_r10_Sane_s2 (a0 : GR10Table) (s2 : Int) : Option (LR (Int) (Unit) (Bool)) :=
  if (decide (s2 < (a0.L.length : Int))) then ((idx a0.L s2).bind fun u3 => (m36_r10_one (GR10Read.mk u3.Tx (GApiRange.mk u3.Rng.Lo u3.Rng.Hi u3.Rng.Open))).bind fun v4 => if (!v4) then (some (.ret false)) else ((iter (m17_r10_Sane_s6 a0 s2) fuel 0).bind fun x => match x with | .inl r => some (.ret r) | .inr e10 => m17_r10_Sane_k5 s2 e10)) else (some (.brk ()))
def m17_r10_Sane (a0 : GR10Table) : Option Bool :=
  (iter (m17_r10_Sane_s2 a0) fuel 0).bind fun x => match x with | .inl r => some r | .inr e11 => m17_r10_Sane_k1 a0 e11

set_option maxRecDepth 100000 in
theorem m17_r10_Sane_c {a0 : GR10Table} {r : Bool} (h : m17_r10_Sane a0 = some r) : CallsA Try.prog 17 [.agg [.sl a0.L.length (a0.L.flatMap eGR10Read)]] (· = .s (.one (.b r))) := by
  unfold m17_r10_Sane at h
  refine callsA_of Try.func17 rfl (nt := 39) rfl (Nat.le_of_ble_eq_true rfl) ?_
  intro w0 S0
  refine cseq ?_
  refine cregion ?_
  refine sbox rfl rfl ?_
  refine sv rfl (opv_as rfl) ?_
  refine snil ?_
  refine cseq ?_
  refine cseq ?_
  refine cregion ?_
  refine sv rfl (opv_as rfl) ?_
  refine snil ?_
  refine cjoin (Unit) (fun b1 => [(1, .s (.one (.lp 0 0)))]) (fun b1 => [.box [.sl a0.L.length (a0.L.flatMap eGR10Read)]]) (fun b1 => m17_r10_Sane_k1 a0 b1 = some r) (fun _ _ => inbL_of rfl) (fun _ _ => blkinb_of rfl) (fun _ _ => Nat.le_of_ble_eq_true rfl) (fun b1 h => ?_) ?_
  · unfold m17_r10_Sane_k1 at h
    refine cseq ?_
    refine cregion ?_
    refine sv rfl (opv_fieldAddr_lp fi24_0 rfl) ?_
    refine sv rfl (opv_load1 ti22 rfl (.lp _ _ _ rfl) rfl) ?_
    refine sv rfl (opv_len_sl si22 rfl) ?_
    refine sv rfl (opv_leq rfl rfl) ?_
    refine sv rfl (opv_as rfl) ?_
    refine snil ?_
    refine cret ?_
    obtain rfl := Option.some.inj h
    refine ⟨Or.inr rfl, _, _, _, (resVs_cons (ResV.tmp _ _ rfl) resVs_nil), (pubA_id rfl), ?_⟩
    rfl
  · skip
    refine cblock ?_
    obtain ⟨x2, hx2, ho2⟩ := bind_eq h
    refine awc_loop (G := Nat × (Int)) (fun g => [(1, .s (.one (.lp 0 0))), (3, .s (.one (.i .i64 g.2)))]) (fun g => [.box [.sl a0.L.length (a0.L.flatMap eGR10Read)]]) (fun g => iter (m17_r10_Sane_s2 a0) g.1 g.2 = some x2) (fun g => g.1) (fuel, 0) hx2 ⟨rfl, rfl, trivial⟩ [] rfl (fun _ _ => inbL_of rfl) (fun _ _ => blkinb_of rfl) (fun _ _ => Nat.le_of_ble_eq_true rfl) ?_
    clear hx2 h
    rintro ⟨n2, s2⟩ h
    obtain ⟨n2, y2, rfl, h, hk2⟩ := iter_eq h
    unfold m17_r10_Sane_s2 at h
    refine cseq ?_
    refine cseq ?_
    refine cregion ?_
    refine sv rfl (opv_mv rfl) ?_
    refine sv rfl (opv_fieldAddr_lp fi24_0 rfl) ?_
    refine sv rfl (opv_load1 ti22 rfl (.lp _ _ _ rfl) rfl) ?_
    refine sv rfl (opv_len_sl si22 rfl) ?_
    refine sv rfl (opv_lss rfl rfl) ?_
    refine snil ?_
    refine ccond rfl (fun hc => ?_) (fun hc => ?_)
    · replace h := ite_t hc h
      clear hc
      refine cskip ?_
      refine then_normal ?_
      refine cseq ?_
      refine cblock ?_
      refine cseq ?_
      refine cseq ?_
      refine cregion ?_
      refine sv rfl (opv_fieldAddr_lp fi24_0 rfl) ?_
      refine sv rfl (opv_load1 ti22 rfl (.lp _ _ _ rfl) rfl) ?_
      refine sv rfl (opv_mv rfl) ?_
      obtain ⟨u3, hu3, h⟩ := bind_eq h
      refine sv rfl (opv_ix (f := eGR10Read) si22 (fun _ => rfl) rfl rfl rfl rfl hu3) ?_
      refine sv rfl (opv_loadNe (ys := [.i .i64 u3.Tx, .sl u3.Rng.Lo.length (u3.Rng.Lo.flatMap eU8), .sl u3.Rng.Hi.length (u3.Rng.Hi.flatMap eU8), .b u3.Rng.Open]) ti56 rfl (.cp _) rfl rfl) ?_
      obtain ⟨v4, hv4, h⟩ := bind_eq h
      refine scall1 rfl fn36 (opnds_cons rfl opnds_nil) (pubA_id rfl) (m36_r10_one_c hv4) ?_
      refine sv rfl (opv_not rfl) ?_
      refine snil ?_
      refine ccond rfl (fun hc => ?_) (fun hc => ?_)
      · replace h := ite_t hc h
        clear hc
        refine cseq ?_
        refine cregion ?_
        refine sv rfl (opv_as rfl) ?_
        refine snil ?_
        refine cret ?_
        refine then_ret ?_
        refine block_ret ?_
        refine then_ret ?_
        refine then_ret ?_
        refine block_ret ?_
        refine then_ret ?_
        obtain rfl := Option.some.inj h
        obtain rfl : Sum.inl _ = x2 := hk2
        replace ho2 : some _ = some _ := ho2
        obtain rfl := Option.some.inj ho2
        refine ⟨Or.inr rfl, _, _, _, (resVs_cons (ResV.tmp _ _ rfl) resVs_nil), (pubA_id rfl), ?_⟩
        rfl
      · replace h := ite_f hc h
        clear hc
        refine cskip ?_
        refine then_normal ?_
        refine cseq ?_
        refine cregion ?_
        refine sv rfl (opv_as rfl) ?_
        refine snil ?_
        refine cjoinb (Unit) (fun b5 => [(1, .s (.one (.lp 0 0))), (3, .s (.one (.i .i64 s2)))]) (fun b5 => [.box [.sl a0.L.length (a0.L.flatMap eGR10Read)]]) (fun b5 => m17_r10_Sane_k5 s2 b5 = some y2) (fun _ _ => inbL_of rfl) (fun _ _ => blkinb_of rfl) (fun _ _ => Nat.le_of_ble_eq_true rfl) (fun b5 h => ?_) ?_
        · unfold m17_r10_Sane_k5 at h
          refine cregion ?_
          refine sv rfl (opv_mv rfl) ?_
          refine sv rfl (opv_add rfl rfl) ?_
          refine sv rfl (opv_as rfl) ?_
          refine snil ?_
          obtain rfl := Option.some.inj h
          exact ⟨(n2, (wI (s2 + 1))), _, hk2, ⟨rfl, rfl, trivial⟩, rfl, Nat.lt_succ_self _⟩
        · skip
          refine cblock ?_
          obtain ⟨x6, hx6, ho6⟩ := bind_eq h
          refine awc_loop (G := Nat × (Int)) (fun g => [(1, .s (.one (.lp 0 0))), (3, .s (.one (.i .i64 s2))), (4, .s (.one (.i .i64 g.2)))]) (fun g => [.box [.sl a0.L.length (a0.L.flatMap eGR10Read)]]) (fun g => iter (m17_r10_Sane_s6 a0 s2) g.1 g.2 = some x6) (fun g => g.1) (fuel, 0) hx6 ⟨rfl, rfl, rfl, trivial⟩ [] rfl (fun _ _ => inbL_of rfl) (fun _ _ => blkinb_of rfl) (fun _ _ => Nat.le_of_ble_eq_true rfl) ?_
          clear hx6 h
          rintro ⟨n6, s6⟩ h
          obtain ⟨n6, y6, rfl, h, hk6⟩ := iter_eq h
          unfold m17_r10_Sane_s6 at h
          refine cseq ?_
          refine cseq ?_
          refine cregion ?_
          refine sv rfl (opv_mv rfl) ?_
          refine sv rfl (opv_mv rfl) ?_
          refine sv rfl (opv_lss rfl rfl) ?_
          refine snil ?_
          refine ccond rfl (fun hc => ?_) (fun hc => ?_)
          · replace h := ite_t hc h
            clear hc
            refine cskip ?_
            refine then_normal ?_
            refine cseq ?_
            refine cblock ?_
            refine cseq ?_
            refine cdraw mixed (by kernel_rfl) ?_
            refine dv rfl (opv_fieldAddr_lp fi24_0 rfl) ?_
            refine dv rfl (opv_load1 ti22 rfl (.lp _ _ _ rfl) rfl) ?_
            refine dv rfl (opv_mv rfl) ?_
            obtain ⟨u7, hu7, h⟩ := bind_eq h
            refine dv rfl (opv_ix (f := eGR10Read) si22 (fun _ => rfl) rfl rfl rfl rfl hu7) ?_
            refine dv rfl (opv_loadNe (ys := [.i .i64 u7.Tx, .sl u7.Rng.Lo.length (u7.Rng.Lo.flatMap eU8), .sl u7.Rng.Hi.length (u7.Rng.Hi.flatMap eU8), .b u7.Rng.Open]) ti56 rfl (.cp _) rfl rfl) ?_
            refine dv rfl (opv_fieldAddr_lp fi24_0 rfl) ?_
            refine dv rfl (opv_load1 ti22 rfl (.lp _ _ _ rfl) rfl) ?_
            refine dv rfl (opv_mv rfl) ?_
            obtain ⟨u8, hu8, h⟩ := bind_eq h
            refine dv rfl (opv_ix (f := eGR10Read) si22 (fun _ => rfl) rfl rfl rfl rfl hu8) ?_
            refine dv rfl (opv_loadNe (ys := [.i .i64 u8.Tx, .sl u8.Rng.Lo.length (u8.Rng.Lo.flatMap eU8), .sl u8.Rng.Hi.length (u8.Rng.Hi.flatMap eU8), .b u8.Rng.Open]) ti56 rfl (.cp _) rfl rfl) ?_
            obtain ⟨v9, hv9, h⟩ := bind_eq h
            refine dd rfl (opD_call fn37 (opnds_cons rfl (opnds_cons rfl opnds_nil)) rfl (m37_r10_same_c hv9)) ?_
            refine dnil ?_
            refine then_normal ?_
            refine ccond rfl (fun hc => ?_) (fun hc => ?_)
            · replace h := ite_t hc h
              clear hc
              refine cseq ?_
              refine cregion ?_
              refine sv rfl (opv_as rfl) ?_
              refine snil ?_
              refine cret ?_
              refine block_ret ?_
              refine then_ret ?_
              refine then_ret ?_
              refine block_ret ?_
              refine block_ret ?_
              refine then_ret ?_
              refine then_ret ?_
              refine block_ret ?_
              refine then_ret ?_
              obtain rfl := Option.some.inj h
              obtain rfl : Sum.inl _ = x6 := hk6
              replace ho6 : some _ = some _ := ho6
              obtain rfl := Option.some.inj ho6
              obtain rfl : Sum.inl _ = x2 := hk2
              replace ho2 : some _ = some _ := ho2
              obtain rfl := Option.some.inj ho2
              refine ⟨Or.inr rfl, _, _, _, (resVs_cons (ResV.tmp _ _ rfl) resVs_nil), (pubA_id rfl), ?_⟩
              rfl
            · replace h := ite_f hc h
              clear hc
              refine cskip ?_
              refine block_normal ?_
              refine then_normal ?_
              refine cregion ?_
              refine sv rfl (opv_mv rfl) ?_
              refine sv rfl (opv_add rfl rfl) ?_
              refine sv rfl (opv_as rfl) ?_
              refine snil ?_
              obtain rfl := Option.some.inj h
              exact ⟨(n6, (wI (s6 + 1))), _, hk6, ⟨rfl, rfl, rfl, trivial⟩, rfl, Nat.lt_succ_self _⟩
          · replace h := ite_f hc h
            clear hc
            refine cexit ?_
            refine then_exit ?_
            refine then_exit ?_
            refine block_hit ?_
            refine block_normal ?_
            refine then_normal ?_
            obtain rfl := Option.some.inj h
            obtain rfl : _ = x6 := hk6
            exact ⟨(), _, ho6, ⟨rfl, rfl, trivial⟩, rfl⟩
    · replace h := ite_f hc h
      clear hc
      refine cexit ?_
      refine then_exit ?_
      refine then_exit ?_
      refine block_hit ?_
      refine then_normal ?_
      obtain rfl := Option.some.inj h
      obtain rfl : _ = x2 := hk2
      exact ⟨(), _, ho2, ⟨rfl, trivial⟩, rfl⟩

def m13_r10_Add_k2 (a0 : GR10Table) (a1 : Int) (a2 : GApiRange) (b2 : Unit) : Option (GR10Table × Int) :=
  if (decide (128 ≤ (a0.L.length : Int))) then (some ((GR10Table.mk ([] : List GR10Read)), 8)) else (if (([] : List GR10Read).length + a0.L.length) * 64 ≤ 140737488355328 then (if ((([] : List GR10Read) ++ a0.L).length + [(GR10Read.mk a1 a2)].length) * 64 ≤ 140737488355328 then (some ((GR10Table.mk ((([] : List GR10Read) ++ a0.L) ++ [(GR10Read.mk a1 a2)])), 0)) else none) else none)

def m13_r10_Add_s5 (a0 : GR10Table) (a1 : Int) (a2 : GApiRange) (s5 : Int) : Option (LR (Int) (Unit) (GR10Table × Int)) :=
  if (decide (s5 < (a0.L.length : Int))) then ((idx a0.L s5).bind fun u6 => (m37_r10_same (GR10Read.mk u6.Tx (GApiRange.mk u6.Rng.Lo u6.Rng.Hi u6.Rng.Open)) (GR10Read.mk a1 a2)).bind fun v7 => if v7 then (some (.ret ((GR10Table.mk a0.L), 0))) else (some (.cont (wI (s5 + 1))))) else (some (.brk ()))

def m13_r10_Add_k1 (a0 : GR10Table) (a1 : Int) (a2 : GApiRange) (b1 : Unit) : Option (GR10Table × Int) :=
  (iter (m13_r10_Add_s5 a0 a1 a2) fuel 0).bind fun x => match x with | .inl r => some r | .inr e8 => m13_r10_Add_k2 a0 a1 a2 e8
def m13_r10_Add (a0 : GR10Table) (a1 : Int) (a2 : GApiRange) : Option (GR10Table × Int) :=
  (m17_r10_Sane (GR10Table.mk a0.L)).bind fun v9 => if (!v9) then (some ((GR10Table.mk ([] : List GR10Read)), 1)) else ((m36_r10_one (GR10Read.mk a1 a2)).bind fun v10 => if (!v10) then (some ((GR10Table.mk ([] : List GR10Read)), 1)) else (m13_r10_Add_k1 a0 a1 a2 ()))

set_option maxRecDepth 100000 in
theorem m13_r10_Add_c {a0 : GR10Table} {a1 : Int} {a2 : GApiRange} {r : GR10Table × Int} (h : m13_r10_Add a0 a1 a2 = some r) : CallsA Try.prog 13 [.agg [.sl a0.L.length (a0.L.flatMap eGR10Read)], .one (.i .i64 a1), .agg a2] (· = .tup [.agg [.sl r.1.L.length (r.1.L.flatMap eGR10Read)], .one (.i .i64 r.2)]) := by
  unfold m13_r10_Add at h
  refine callsA_of Try.func13 rfl (nt := 53) rfl (Nat.le_of_ble_eq_true rfl) ?_
  intro w0 S0
  refine cseq ?_
  refine cregion ?_
  refine sbox rfl rfl ?_
  refine sbox rfl rfl ?_
  refine salloc rfl zi24 ?_
  refine sv rfl (opv_as rfl) ?_
  refine snil ?_
  refine cseq ?_
  refine cregion ?_
  refine sv rfl (opv_mv rfl) ?_
  refine sv rfl (opv_loadN ti27 rfl (.lp _ _ _ rfl) (Nat.le_of_ble_eq_true rfl)) ?_
  refine sv rfl (opv_build zi56 pi56 (parts_cons rfl (parts_cons rfl parts_nil)) (.cons _ _ _ _ _ _ _ rfl rfl (Nat.le_of_ble_eq_true rfl) (.cons _ _ _ _ _ _ _ rfl rfl (Nat.le_of_ble_eq_true rfl) (.nil _)))) ?_
  refine salloc rfl zi56 ?_
  refine sstore sz56 rfl rfl rfl rfl (Nat.le_of_ble_eq_true rfl) ?_
  refine smem [.box [.sl a0.L.length (a0.L.flatMap eGR10Read)], .box a2, .box [.raw (.slice none 0 0)], .box [.i .i64 a1, .sl a2.Lo.length (a2.Lo.flatMap eU8), .sl a2.Hi.length (a2.Hi.flatMap eU8), .b a2.Open]] rfl ?_
  refine snil ?_
  refine cseq ?_
  refine cseq ?_
  refine cjoin3 (Unit) (fun b1 => [(3, .s (.one (.lp 0 0))), (6, .s (.one (.lp 2 0))), (8, .s (.one (.lp 3 0)))]) (fun b1 => [.box [.sl a0.L.length (a0.L.flatMap eGR10Read)], .box a2, .box [.raw (.slice none 0 0)], .box [.i .i64 a1, .sl a2.Lo.length (a2.Lo.flatMap eU8), .sl a2.Hi.length (a2.Hi.flatMap eU8), .b a2.Open]]) (fun b1 => m13_r10_Add_k1 a0 a1 a2 b1 = some r) (fun _ _ => inbL_of rfl) (fun _ _ => blkinb_of rfl) (fun _ _ => Nat.le_of_ble_eq_true rfl) (fun b1 h => ?_) ?_
  · unfold m13_r10_Add_k1 at h
    refine cseq ?_
    refine cseq ?_
    refine cregion ?_
    refine sv rfl (opv_as rfl) ?_
    refine snil ?_
    refine cjoin (Unit) (fun b2 => [(3, .s (.one (.lp 0 0))), (6, .s (.one (.lp 2 0))), (8, .s (.one (.lp 3 0)))]) (fun b2 => [.box [.sl a0.L.length (a0.L.flatMap eGR10Read)], .box a2, .box [.raw (.slice none 0 0)], .box [.i .i64 a1, .sl a2.Lo.length (a2.Lo.flatMap eU8), .sl a2.Hi.length (a2.Hi.flatMap eU8), .b a2.Open]]) (fun b2 => m13_r10_Add_k2 a0 a1 a2 b2 = some r) (fun _ _ => inbL_of rfl) (fun _ _ => blkinb_of rfl) (fun _ _ => Nat.le_of_ble_eq_true rfl) (fun b2 h => ?_) ?_
    · unfold m13_r10_Add_k2 at h
      refine cseq ?_
      refine cseq ?_
      refine cregion ?_
      refine sv rfl (opv_fieldAddr_lp fi24_0 rfl) ?_
      refine sv rfl (opv_load1 ti22 rfl (.lp _ _ _ rfl) rfl) ?_
      refine sv rfl (opv_len_sl si22 rfl) ?_
      refine sv rfl (opv_geq rfl rfl) ?_
      refine snil ?_
      refine ccond rfl (fun hc => ?_) (fun hc => ?_)
      · replace h := ite_t hc h
        clear hc
        refine cseq ?_
        refine cregion ?_
        refine sv rfl (opv_build zi24 pi24 parts_nil (.nil _)) ?_
        refine sstore sz24 rfl rfl rfl rfl (Nat.le_of_ble_eq_true rfl) ?_
        refine smem [.box [.sl a0.L.length (a0.L.flatMap eGR10Read)], .box a2, .box [.raw (.slice none 0 0)], .box [.i .i64 a1, .sl a2.Lo.length (a2.Lo.flatMap eU8), .sl a2.Hi.length (a2.Hi.flatMap eU8), .b a2.Open]] rfl ?_
        refine sv rfl (opv_as rfl) ?_
        refine snil ?_
        refine cret ?_
        refine then_ret ?_
        obtain rfl := Option.some.inj h
        refine ⟨Or.inr rfl, _, _, _, (resVs_cons (ResV.agg _ _ _ _ _ ti24 rfl (.lp _ _ _ rfl) (Nat.le_of_ble_eq_true rfl)) (resVs_cons (ResV.tmp _ _ rfl) resVs_nil)), (pubC rfl), ?_⟩
        rfl
      · replace h := ite_f hc h
        clear hc
        refine cskip ?_
        refine then_normal ?_
        refine cseq ?_
        refine cregion ?_
        refine sbuild0 rfl Try.underlying22 ei56 ?_
        refine sv rfl (opv_fieldAddr_lp fi24_0 rfl) ?_
        refine sv rfl (opv_load1 ti22 rfl (.lp _ _ _ rfl) rfl) ?_
        obtain ⟨hb3, h⟩ := chk_eq h
        refine sapp (f := eGR10Read) (xs := ([] : List GR10Read)) (us := a0.L) rfl Try.underlying22 ei56 ni22 (fun _ => rfl) rfl rfl (.one _ _ _ _ (.id _ rfl)) rfl rfl rfl (.sl _ _ _ (flat_len (f := eGR10Read) (fun _ => rfl) _)) rfl rfl hb3 (by decide) ?_
        refine sv rfl (opv_as rfl) ?_
        refine snil ?_
        refine cseq ?_
        refine cregion ?_
        refine sv rfl (opv_mv rfl) ?_
        refine sv rfl (opv_loadN ti56 rfl (.lp _ _ _ rfl) (Nat.le_of_ble_eq_true rfl)) ?_
        refine sbuild1 rfl Try.underlying22 ei56 rfl rfl (List.all_eq_true.1 rfl) (by decide) ?_
        refine smem [.box [.sl a0.L.length (a0.L.flatMap eGR10Read)], .box a2, .box [.raw (.slice none 0 0)], .box [.i .i64 a1, .sl a2.Lo.length (a2.Lo.flatMap eU8), .sl a2.Hi.length (a2.Hi.flatMap eU8), .b a2.Open], .arr 56 4 0 ((([] : List GR10Read) ++ a0.L).flatMap eGR10Read), .arr 56 4 0 ([(GR10Read.mk a1 a2)].flatMap eGR10Read)] rfl ?_
        obtain ⟨hb4, h⟩ := chk_eq h
        refine sapp (f := eGR10Read) (xs := (([] : List GR10Read) ++ a0.L)) (us := [(GR10Read.mk a1 a2)]) rfl Try.underlying22 ei56 ni22 (fun _ => rfl) rfl rfl (.one _ _ _ _ (.ls _ _ _ _ _ _ rfl (flat_len (f := eGR10Read) (fun _ => rfl) [(GR10Read.mk a1 a2)]).symm)) rfl rfl rfl (.sl _ _ _ (flat_len (f := eGR10Read) (fun _ => rfl) _)) rfl rfl hb4 (by decide) ?_
        refine sv rfl (opv_as rfl) ?_
        refine snil ?_
        refine cseq ?_
        refine cregion ?_
        refine sv rfl (opv_mv rfl) ?_
        refine sv rfl (opv_build zi24 pi24 (parts_cons rfl parts_nil) (.cons _ _ _ _ _ _ _ rfl rfl (Nat.le_of_ble_eq_true rfl) (.nil _))) ?_
        refine sstore sz24 rfl rfl rfl rfl (Nat.le_of_ble_eq_true rfl) ?_
        refine smem [.box [.sl a0.L.length (a0.L.flatMap eGR10Read)], .box a2, .box [.ls 4 ((([] : List GR10Read) ++ a0.L) ++ [(GR10Read.mk a1 a2)]).length], .box [.i .i64 a1, .sl a2.Lo.length (a2.Lo.flatMap eU8), .sl a2.Hi.length (a2.Hi.flatMap eU8), .b a2.Open], .arr 56 4 0 (((([] : List GR10Read) ++ a0.L) ++ [(GR10Read.mk a1 a2)]).flatMap eGR10Read), .arr 56 4 ([(GR10Read.mk a1 a2)].flatMap eGR10Read).length ([(GR10Read.mk a1 a2)].flatMap eGR10Read)] rfl ?_
        refine sv rfl (opv_as rfl) ?_
        refine snil ?_
        refine cret ?_
        obtain rfl := Option.some.inj h
        refine ⟨Or.inr rfl, _, _, _, (resVs_cons (ResV.agg _ _ _ _ _ ti24 rfl (.lp _ _ _ rfl) (Nat.le_of_ble_eq_true rfl)) (resVs_cons (ResV.tmp _ _ rfl) resVs_nil)), (by (repeat' first | exact PubA.nil _ | apply PubA.cons | apply PubV.one | apply PubV.agg | exact PubL.nil | exact PubL.ls _ _ _ _ _ _ rfl (flat_len (f := eGR10Read) (fun _ => rfl) _).symm | exact PubL.id _ rfl | exact PubLs.nil _ | apply PubLs.cons)), ?_⟩
        rfl
    · skip
      refine cblock ?_
      obtain ⟨x5, hx5, ho5⟩ := bind_eq h
      refine awc_loop (G := Nat × (Int)) (fun g => [(3, .s (.one (.lp 0 0))), (6, .s (.one (.lp 2 0))), (8, .s (.one (.lp 3 0))), (9, .s (.one (.i .i64 g.2)))]) (fun g => [.box [.sl a0.L.length (a0.L.flatMap eGR10Read)], .box a2, .box [.raw (.slice none 0 0)], .box [.i .i64 a1, .sl a2.Lo.length (a2.Lo.flatMap eU8), .sl a2.Hi.length (a2.Hi.flatMap eU8), .b a2.Open]]) (fun g => iter (m13_r10_Add_s5 a0 a1 a2) g.1 g.2 = some x5) (fun g => g.1) (fuel, 0) hx5 ⟨rfl, rfl, rfl, rfl, trivial⟩ [] rfl (fun _ _ => inbL_of rfl) (fun _ _ => blkinb_of rfl) (fun _ _ => Nat.le_of_ble_eq_true rfl) ?_
      clear hx5 h
      rintro ⟨n5, s5⟩ h
      obtain ⟨n5, y5, rfl, h, hk5⟩ := iter_eq h
      unfold m13_r10_Add_s5 at h
      refine cseq ?_
      refine cseq ?_
      refine cregion ?_
      refine sv rfl (opv_mv rfl) ?_
      refine sv rfl (opv_fieldAddr_lp fi24_0 rfl) ?_
      refine sv rfl (opv_load1 ti22 rfl (.lp _ _ _ rfl) rfl) ?_
      refine sv rfl (opv_len_sl si22 rfl) ?_
      refine sv rfl (opv_lss rfl rfl) ?_
      refine snil ?_
      refine ccond rfl (fun hc => ?_) (fun hc => ?_)
      · replace h := ite_t hc h
        clear hc
        refine cskip ?_
        refine then_normal ?_
        refine cseq ?_
        refine cblock ?_
        refine cseq ?_
        refine cdraw mixed (by kernel_rfl) ?_
        refine dv rfl (opv_fieldAddr_lp fi24_0 rfl) ?_
        refine dv rfl (opv_load1 ti22 rfl (.lp _ _ _ rfl) rfl) ?_
        refine dv rfl (opv_mv rfl) ?_
        obtain ⟨u6, hu6, h⟩ := bind_eq h
        refine dv rfl (opv_ix (f := eGR10Read) si22 (fun _ => rfl) rfl rfl rfl rfl hu6) ?_
        refine dv rfl (opv_loadNe (ys := [.i .i64 u6.Tx, .sl u6.Rng.Lo.length (u6.Rng.Lo.flatMap eU8), .sl u6.Rng.Hi.length (u6.Rng.Hi.flatMap eU8), .b u6.Rng.Open]) ti56 rfl (.cp _) rfl rfl) ?_
        refine dv rfl (opv_loadN ti56 rfl (.lp _ _ _ rfl) (Nat.le_of_ble_eq_true rfl)) ?_
        obtain ⟨v7, hv7, h⟩ := bind_eq h
        refine dd rfl (opD_call fn37 (opnds_cons rfl (opnds_cons rfl opnds_nil)) rfl (m37_r10_same_c hv7)) ?_
        refine dnil ?_
        refine then_normal ?_
        refine ccond rfl (fun hc => ?_) (fun hc => ?_)
        · replace h := ite_t hc h
          clear hc
          refine cseq ?_
          refine cregion ?_
          refine sv rfl (opv_loadN ti24 rfl (.lp _ _ _ rfl) (Nat.le_of_ble_eq_true rfl)) ?_
          refine sstore sz24 rfl rfl rfl rfl (Nat.le_of_ble_eq_true rfl) ?_
          refine smem [.box [.sl a0.L.length (a0.L.flatMap eGR10Read)], .box a2, .box [.sl a0.L.length (a0.L.flatMap eGR10Read)], .box [.i .i64 a1, .sl a2.Lo.length (a2.Lo.flatMap eU8), .sl a2.Hi.length (a2.Hi.flatMap eU8), .b a2.Open]] rfl ?_
          refine sv rfl (opv_as rfl) ?_
          refine snil ?_
          refine cret ?_
          refine block_ret ?_
          refine then_ret ?_
          refine then_ret ?_
          refine block_ret ?_
          refine then_ret ?_
          obtain rfl := Option.some.inj h
          obtain rfl : Sum.inl _ = x5 := hk5
          replace ho5 : some _ = some _ := ho5
          obtain rfl := Option.some.inj ho5
          refine ⟨Or.inr rfl, _, _, _, (resVs_cons (ResV.agg _ _ _ _ _ ti24 rfl (.lp _ _ _ rfl) (Nat.le_of_ble_eq_true rfl)) (resVs_cons (ResV.tmp _ _ rfl) resVs_nil)), (pubA_id rfl), ?_⟩
          rfl
        · replace h := ite_f hc h
          clear hc
          refine cskip ?_
          refine block_normal ?_
          refine then_normal ?_
          refine cregion ?_
          refine sv rfl (opv_mv rfl) ?_
          refine sv rfl (opv_add rfl rfl) ?_
          refine sv rfl (opv_as rfl) ?_
          refine snil ?_
          obtain rfl := Option.some.inj h
          exact ⟨(n5, (wI (s5 + 1))), _, hk5, ⟨rfl, rfl, rfl, rfl, trivial⟩, rfl, Nat.lt_succ_self _⟩
      · replace h := ite_f hc h
        clear hc
        refine cexit ?_
        refine then_exit ?_
        refine then_exit ?_
        refine block_hit ?_
        refine then_normal ?_
        obtain rfl := Option.some.inj h
        obtain rfl : _ = x5 := hk5
        exact ⟨(), _, ho5, ⟨rfl, rfl, rfl, trivial⟩, rfl⟩
  · skip
    refine cregion ?_
    refine sv rfl (opv_loadN ti24 rfl (.lp _ _ _ rfl) (Nat.le_of_ble_eq_true rfl)) ?_
    obtain ⟨v9, hv9, h⟩ := bind_eq h
    refine scall1 rfl fn17 (opnds_cons rfl opnds_nil) (pubA_id rfl) (m17_r10_Sane_c hv9) ?_
    refine sv rfl (opv_not rfl) ?_
    refine sv rfl (opv_mv rfl) ?_
    refine ssplit 17 rfl (fun hc => ?_) (fun hc => ?_)
    · replace h := ite_t hc h
      clear hc
      refine soff rfl rfl rfl rfl ?_
      refine soff rfl rfl rfl rfl ?_
      refine soff rfl rfl rfl rfl ?_
      refine sv rfl (opv_pick_t rfl rfl) ?_
      refine snil ?_
      refine ccond rfl (fun _ => ?_) (fun hx => Bool.noConfusion hx)
      refine cseq ?_
      refine cregion ?_
      refine sv rfl (opv_build zi24 pi24 parts_nil (.nil _)) ?_
      refine sstore sz24 rfl rfl rfl rfl (Nat.le_of_ble_eq_true rfl) ?_
      refine smem [.box [.sl a0.L.length (a0.L.flatMap eGR10Read)], .box a2, .box [.raw (.slice none 0 0)], .box [.i .i64 a1, .sl a2.Lo.length (a2.Lo.flatMap eU8), .sl a2.Hi.length (a2.Hi.flatMap eU8), .b a2.Open]] rfl ?_
      refine sv rfl (opv_as rfl) ?_
      refine snil ?_
      refine cret ?_
      refine then_ret ?_
      obtain rfl := Option.some.inj h
      refine ⟨Or.inr rfl, _, _, _, (resVs_cons (ResV.agg _ _ _ _ _ ti24 rfl (.lp _ _ _ rfl) (Nat.le_of_ble_eq_true rfl)) (resVs_cons (ResV.tmp _ _ rfl) resVs_nil)), (pubC rfl), ?_⟩
      rfl
    · replace h := ite_f hc h
      clear hc
      refine son rfl rfl rfl ?_
      refine sv rfl (opv_loadN ti56 rfl (.lp _ _ _ rfl) (Nat.le_of_ble_eq_true rfl)) ?_
      refine son rfl rfl rfl ?_
      obtain ⟨v10, hv10, h⟩ := bind_eq h
      refine scall1 rfl fn36 (opnds_cons rfl opnds_nil) (pubA_id rfl) (m36_r10_one_c hv10) ?_
      refine son rfl rfl rfl ?_
      refine sv rfl (opv_not rfl) ?_
      refine sv rfl (opv_pick_f rfl rfl) ?_
      refine snil ?_
      refine ccond rfl (fun hc => ?_) (fun hc => ?_)
      · replace h := ite_t hc h
        clear hc
        refine cseq ?_
        refine cregion ?_
        refine sv rfl (opv_build zi24 pi24 parts_nil (.nil _)) ?_
        refine sstore sz24 rfl rfl rfl rfl (Nat.le_of_ble_eq_true rfl) ?_
        refine smem [.box [.sl a0.L.length (a0.L.flatMap eGR10Read)], .box a2, .box [.raw (.slice none 0 0)], .box [.i .i64 a1, .sl a2.Lo.length (a2.Lo.flatMap eU8), .sl a2.Hi.length (a2.Hi.flatMap eU8), .b a2.Open]] rfl ?_
        refine sv rfl (opv_as rfl) ?_
        refine snil ?_
        refine cret ?_
        refine then_ret ?_
        obtain rfl := Option.some.inj h
        refine ⟨Or.inr rfl, _, _, _, (resVs_cons (ResV.agg _ _ _ _ _ ti24 rfl (.lp _ _ _ rfl) (Nat.le_of_ble_eq_true rfl)) (resVs_cons (ResV.tmp _ _ rfl) resVs_nil)), (pubC rfl), ?_⟩
        rfl
      · replace h := ite_f hc h
        clear hc
        refine cskip ?_
        refine then_normal ?_
        exact ⟨(), _, h, ⟨rfl, rfl, rfl, trivial⟩, rfl⟩

def m15_l10_theirs_k1 (b1 : (List GR10Read)) : Option GR10Table :=
  some (GR10Table.mk b1)

def m15_l10_theirs_s2 (a0 : GReadsTable) (s2 : Int × (List GR10Read)) : Option (LB (Int × (List GR10Read)) ((List GR10Read))) :=
  if (decide (s2.1 < (a0.L.length : Int))) then ((idx a0.L s2.1).bind fun u3 => (idx a0.L s2.1).bind fun u4 => if (s2.2.length + ([(GR10Read.mk u3.Tx (GApiRange.mk u4.Rng.Lo u4.Rng.Hi u4.Rng.Open))] : List GR10Read).length) * 64 ≤ 140737488355328 then (some (.cont ((wI (s2.1 + 1)), (s2.2 ++ ([(GR10Read.mk u3.Tx (GApiRange.mk u4.Rng.Lo u4.Rng.Hi u4.Rng.Open))] : List GR10Read))))) else none) else (some (.brk s2.2))
def m15_l10_theirs (a0 : GReadsTable) : Option GR10Table :=
  (iterB (m15_l10_theirs_s2 a0) fuel (0, ([] : List GR10Read))).bind fun e6 => m15_l10_theirs_k1 e6

set_option maxRecDepth 100000 in
theorem m15_l10_theirs_c {a0 : GReadsTable} {r : GR10Table} (h : m15_l10_theirs a0 = some r) : CallsA Try.prog 15 [.agg [.sl a0.L.length (a0.L.flatMap eGReadsRead)]] (· = .s (.agg [.sl r.L.length (r.L.flatMap eGR10Read)])) := by
  unfold m15_l10_theirs at h
  refine callsA_of Try.func15 rfl (nt := 32) rfl (Nat.le_of_ble_eq_true rfl) ?_
  intro w0 S0
  refine cseq ?_
  refine cregion ?_
  refine sbox rfl rfl ?_
  refine salloc rfl zi24 ?_
  refine snil ?_
  refine cseq ?_
  refine cregion ?_
  refine sv rfl (opv_build zi24 pi24 parts_nil (.nil _)) ?_
  refine salloc rfl zi24 ?_
  refine sstore sz24 rfl rfl rfl rfl (Nat.le_of_ble_eq_true rfl) ?_
  refine smem [.box [.sl a0.L.length (a0.L.flatMap eGReadsRead)], .box [.raw (.slice none 0 0)], .box [.raw (.slice none 0 0)]] rfl ?_
  refine snil ?_
  refine cseq ?_
  refine cseq ?_
  refine cregion ?_
  refine sv rfl (opv_as rfl) ?_
  refine snil ?_
  refine sadopt_box_c 56 4 2 0 (by decide) rfl rfl ?_
  refine cjoin ((List GR10Read)) (fun b1 => [(2, .s (.one (.lp 1 0))), (3, .s (.one (.lp 2 0)))]) (fun b1 => [.box [.sl a0.L.length (a0.L.flatMap eGReadsRead)], .box [.raw (.slice none 0 0)], .box [.ls 3 b1.length], .arr 56 4 0 (b1.flatMap eGR10Read)]) (fun b1 => m15_l10_theirs_k1 b1 = some r) (fun _ _ => inbL_of rfl) (fun _ _ => blkinb_of rfl) (fun _ _ => Nat.le_of_ble_eq_true rfl) (fun b1 h => ?_) ?_
  · unfold m15_l10_theirs_k1 at h
    refine cseq ?_
    refine cregion ?_
    refine sv rfl (opv_loadN ti24 rfl (.lp _ _ _ rfl) (Nat.le_of_ble_eq_true rfl)) ?_
    refine sstore sz24 rfl rfl rfl rfl (Nat.le_of_ble_eq_true rfl) ?_
    refine smem [.box [.sl a0.L.length (a0.L.flatMap eGReadsRead)], .box [.ls 3 b1.length], .box [.ls 3 b1.length], .arr 56 4 0 (b1.flatMap eGR10Read)] rfl ?_
    refine snil ?_
    refine cret ?_
    obtain rfl := Option.some.inj h
    refine ⟨Or.inr rfl, _, _, _, (resVs_cons (ResV.agg _ _ _ _ _ ti24 rfl (.lp _ _ _ rfl) (Nat.le_of_ble_eq_true rfl)) resVs_nil), (by (repeat' first | exact PubA.nil _ | apply PubA.cons | apply PubV.one | apply PubV.agg | exact PubL.nil | exact PubL.ls _ _ _ _ _ _ rfl (flat_len (f := eGR10Read) (fun _ => rfl) _).symm | exact PubL.id _ rfl | exact PubLs.nil _ | apply PubLs.cons)), ?_⟩
    rfl
  · skip
    refine cblock ?_
    obtain ⟨x2, hx2, ho2⟩ := bind_eq h
    refine awc_loop (G := Nat × (Int × (List GR10Read))) (fun g => [(1, .s (.one (.lp 0 0))), (2, .s (.one (.lp 1 0))), (3, .s (.one (.lp 2 0))), (4, .s (.one (.i .i64 g.2.1)))]) (fun g => [.box [.sl a0.L.length (a0.L.flatMap eGReadsRead)], .box [.raw (.slice none 0 0)], .box [.ls 3 g.2.2.length], .arr 56 4 0 (g.2.2.flatMap eGR10Read)]) (fun g => iterB (m15_l10_theirs_s2 a0) g.1 g.2 = some x2) (fun g => g.1) (fuel, (0, ([] : List GR10Read))) hx2 ⟨rfl, rfl, rfl, rfl, trivial⟩ [] rfl (fun _ _ => inbL_of rfl) (fun _ _ => blkinb_of rfl) (fun _ _ => Nat.le_of_ble_eq_true rfl) ?_
    clear hx2 h
    rintro ⟨n2, s2⟩ h
    obtain ⟨n2, y2, rfl, h, hk2⟩ := iterB_eq h
    unfold m15_l10_theirs_s2 at h
    refine cseq ?_
    refine cseq ?_
    refine cregion ?_
    refine sv rfl (opv_mv rfl) ?_
    refine sv rfl (opv_fieldAddr_lp fi34_0 rfl) ?_
    refine sv rfl (opv_load1 ti32 rfl (.lp _ _ _ rfl) rfl) ?_
    refine sv rfl (opv_len_sl si32 rfl) ?_
    refine sv rfl (opv_lss rfl rfl) ?_
    refine snil ?_
    refine ccond rfl (fun hc => ?_) (fun hc => ?_)
    · replace h := ite_t hc h
      clear hc
      refine cskip ?_
      refine then_normal ?_
      refine cseq ?_
      refine cblock ?_
      obtain ⟨u3, hu3, h⟩ := bind_eq h
      obtain ⟨u4, hu4, h⟩ := bind_eq h
      obtain ⟨hb5, h⟩ := chk_eq h
      refine cdraw_e [16, 18] [0, 1, 0, 4, 0, 28, 60, 124, 0, 256, 0, 1792, 3840, 7936, 16380, 32764, 65535, 131071, 262143] [[.box [.sl a0.L.length (a0.L.flatMap eGReadsRead)], .box [.raw (.slice none 0 0)], .box [.ls 3 s2.2.length], .arr 56 4 0 (s2.2.flatMap eGR10Read)], [.box [.sl a0.L.length (a0.L.flatMap eGReadsRead)], .box [.raw (.slice none 0 0)], .box [.ls 3 s2.2.length], .arr 56 4 0 ((s2.2 ++ ([(GR10Read.mk u3.Tx (GApiRange.mk u4.Rng.Lo u4.Rng.Hi u4.Rng.Open))] : List GR10Read)).flatMap eGR10Read)], [.box [.sl a0.L.length (a0.L.flatMap eGReadsRead)], .box [.raw (.slice none 0 0)], .box [.ls 3 (s2.2 ++ ([(GR10Read.mk u3.Tx (GApiRange.mk u4.Rng.Lo u4.Rng.Hi u4.Rng.Open))] : List GR10Read)).length], .arr 56 4 0 ((s2.2 ++ ([(GR10Read.mk u3.Tx (GApiRange.mk u4.Rng.Lo u4.Rng.Hi u4.Rng.Open))] : List GR10Read)).flatMap eGR10Read)]] (by kernel_rfl) mixed (by kernel_rfl) (by decide) rfl rfl rfl rfl ?_
      refine ev (sees_at 0 rfl rfl) rfl rfl (opv_fieldAddr_lp fi24_0 rfl) ?_
      refine ev (sees_at 0 rfl rfl) rfl rfl (opv_load1 ti22 rfl (.lp _ _ _ rfl) rfl) ?_
      refine ev (sees_at 0 rfl rfl) rfl rfl (opv_fieldAddr_lp fi34_0 rfl) ?_
      refine ev (sees_at 0 rfl rfl) rfl rfl (opv_load1 ti32 rfl (.lp _ _ _ rfl) rfl) ?_
      refine ev (sees_at 0 rfl rfl) rfl rfl (opv_mv rfl) ?_
      refine ev (sees_at 0 rfl rfl) rfl rfl (opv_ix (f := eGReadsRead) si32 (fun _ => rfl) rfl rfl rfl rfl hu3) ?_
      refine ev (sees_at 0 rfl rfl) rfl rfl (opv_fieldAddr_cp fi63_0 rfl) ?_
      refine ev (sees_at 0 rfl rfl) rfl rfl (opv_load1 ti3 rfl (.cp _) rfl) ?_
      refine ev (sees_at 0 rfl rfl) rfl rfl (opv_fieldAddr_lp fi34_0 rfl) ?_
      refine ev (sees_at 0 rfl rfl) rfl rfl (opv_load1 ti32 rfl (.lp _ _ _ rfl) rfl) ?_
      refine ev (sees_at 0 rfl rfl) rfl rfl (opv_mv rfl) ?_
      refine ev (sees_at 0 rfl rfl) rfl rfl (opv_ix (f := eGReadsRead) si32 (fun _ => rfl) rfl rfl rfl rfl hu4) ?_
      refine ev (sees_at 0 rfl rfl) rfl rfl (opv_fieldAddr_cp fi63_1 rfl) ?_
      refine ev (sees_at 0 rfl rfl) rfl rfl (opv_loadNe (ys := [.sl u4.Rng.Lo.length (u4.Rng.Lo.flatMap eU8), .sl u4.Rng.Hi.length (u4.Rng.Hi.flatMap eU8), .b u4.Rng.Open]) ti27 rfl (.cp _) rfl rfl) ?_
      refine ev (sees_at 0 rfl rfl) rfl rfl (opv_build zi56 pi56 (parts_cons rfl (parts_cons rfl parts_nil)) (.cons _ _ _ _ _ _ _ rfl rfl (Nat.le_of_ble_eq_true rfl) (.cons _ _ _ _ _ _ _ rfl rfl (Nat.le_of_ble_eq_true rfl) (.nil _)))) ?_
      refine ed (sees_at 0 rfl rfl) rfl rfl (opD_bld (out := ([(GR10Read.mk u3.Tx (GApiRange.mk u4.Rng.Lo u4.Rng.Hi u4.Rng.Open))] : List GR10Read).flatMap eGR10Read) Try.underlying22 ei56 (parts_cons rfl parts_nil) (.cons _ _ _ _ _ _ _ rfl rfl (Nat.le_of_ble_eq_true rfl) (.nil _)) rfl (by decide)) ?_
      refine ee (x := .s (.one (.ls 3 (s2.2 ++ ([(GR10Read.mk u3.Tx (GApiRange.mk u4.Rng.Lo u4.Rng.Hi u4.Rng.Open))] : List GR10Read)).length))) 0 rfl rfl rfl rfl rfl (fun ζ => ?_) ?_
      · refine sapp (f := eGR10Read) (xs := s2.2) (us := ([(GR10Read.mk u3.Tx (GApiRange.mk u4.Rng.Lo u4.Rng.Hi u4.Rng.Open))] : List GR10Read)) rfl Try.underlying22 ei56 ni22 (fun _ => rfl) rfl rfl (.one _ _ _ _ (.id _ rfl)) rfl rfl rfl (.sl _ _ _ (flat_len (f := eGR10Read) (fun _ => rfl) _)) rfl rfl hb5 (by decide) ?_
        exact eend
      refine ev (sees_at 1 rfl rfl) rfl rfl (opv_fieldAddr_lp fi24_0 rfl) ?_
      refine ee0 1 rfl rfl rfl rfl (fun ζ => ?_) ?_
      · refine sstore sz22 rfl rfl rfl rfl (Nat.le_of_ble_eq_true rfl) ?_
        refine smem [.box [.sl a0.L.length (a0.L.flatMap eGReadsRead)], .box [.raw (.slice none 0 0)], .box [.ls 3 (s2.2 ++ ([(GR10Read.mk u3.Tx (GApiRange.mk u4.Rng.Lo u4.Rng.Hi u4.Rng.Open))] : List GR10Read)).length], .arr 56 4 0 ((s2.2 ++ ([(GR10Read.mk u3.Tx (GApiRange.mk u4.Rng.Lo u4.Rng.Hi u4.Rng.Open))] : List GR10Read)).flatMap eGR10Read)] rfl ?_
        exact eend
      refine enil ?_
      refine block_normal ?_
      refine then_normal ?_
      refine cregion ?_
      refine sv rfl (opv_mv rfl) ?_
      refine sv rfl (opv_add rfl rfl) ?_
      refine sv rfl (opv_as rfl) ?_
      refine snil ?_
      obtain rfl := Option.some.inj h
      exact ⟨(n2, ((wI (s2.1 + 1)), (s2.2 ++ ([(GR10Read.mk u3.Tx (GApiRange.mk u4.Rng.Lo u4.Rng.Hi u4.Rng.Open))] : List GR10Read)))), _, hk2, ⟨rfl, rfl, rfl, rfl, trivial⟩, rfl, Nat.lt_succ_self _⟩
    · replace h := ite_f hc h
      clear hc
      refine cexit ?_
      refine then_exit ?_
      refine then_exit ?_
      refine block_hit ?_
      refine then_normal ?_
      obtain rfl := Option.some.inj h
      obtain rfl : _ = x2 := hk2
      exact ⟨s2.2, _, ho2, ⟨rfl, rfl, trivial⟩, rfl⟩

def m14_r10_Same_k1 (b1 : Unit) : Option Bool :=
  some true

def m14_r10_Same_s2 (a0 : GR10Table) (a1 : GR10Table) (s2 : Int) : Option (LR (Int) (Unit) (Bool)) :=
  if (decide (s2 < (a0.L.length : Int))) then ((idx a0.L s2).bind fun u3 => (idx a1.L s2).bind fun u4 => (m37_r10_same (GR10Read.mk u3.Tx (GApiRange.mk u3.Rng.Lo u3.Rng.Hi u3.Rng.Open)) (GR10Read.mk u4.Tx (GApiRange.mk u4.Rng.Lo u4.Rng.Hi u4.Rng.Open))).bind fun v5 => if (!v5) then (some (.ret false)) else (some (.cont (wI (s2 + 1))))) else (some (.brk ()))
def m14_r10_Same (a0 : GR10Table) (a1 : GR10Table) : Option Bool :=
  if (!decide ((a0.L.length : Int) = (a1.L.length : Int))) then (some false) else ((iter (m14_r10_Same_s2 a0 a1) fuel 0).bind fun x => match x with | .inl r => some r | .inr e6 => m14_r10_Same_k1 e6)

set_option maxRecDepth 100000 in
theorem m14_r10_Same_c {a0 : GR10Table} {a1 : GR10Table} {r : Bool} (h : m14_r10_Same a0 a1 = some r) : CallsA Try.prog 14 [.agg [.sl a0.L.length (a0.L.flatMap eGR10Read)], .agg [.sl a1.L.length (a1.L.flatMap eGR10Read)]] (· = .s (.one (.b r))) := by
  unfold m14_r10_Same at h
  refine callsA_of Try.func14 rfl (nt := 32) rfl (Nat.le_of_ble_eq_true rfl) ?_
  intro w0 S0
  refine cseq ?_
  refine cregion ?_
  refine sbox rfl rfl ?_
  refine sbox rfl rfl ?_
  refine sv rfl (opv_as rfl) ?_
  refine snil ?_
  refine cseq ?_
  refine cseq ?_
  refine cregion ?_
  refine sv rfl (opv_fieldAddr_lp fi24_0 rfl) ?_
  refine sv rfl (opv_load1 ti22 rfl (.lp _ _ _ rfl) rfl) ?_
  refine sv rfl (opv_len_sl si22 rfl) ?_
  refine sv rfl (opv_fieldAddr_lp fi24_0 rfl) ?_
  refine sv rfl (opv_load1 ti22 rfl (.lp _ _ _ rfl) rfl) ?_
  refine sv rfl (opv_len_sl si22 rfl) ?_
  refine sv rfl (opv_ineq rfl rfl) ?_
  refine snil ?_
  refine ccond rfl (fun hc => ?_) (fun hc => ?_)
  · replace h := ite_t hc h
    clear hc
    refine cseq ?_
    refine cregion ?_
    refine sv rfl (opv_as rfl) ?_
    refine snil ?_
    refine cret ?_
    refine then_ret ?_
    obtain rfl := Option.some.inj h
    refine ⟨Or.inr rfl, _, _, _, (resVs_cons (ResV.tmp _ _ rfl) resVs_nil), (pubA_id rfl), ?_⟩
    rfl
  · replace h := ite_f hc h
    clear hc
    refine cskip ?_
    refine then_normal ?_
    refine cseq ?_
    refine cseq ?_
    refine cregion ?_
    refine sv rfl (opv_as rfl) ?_
    refine snil ?_
    refine cjoin (Unit) (fun b1 => []) (fun b1 => [.box [.sl a0.L.length (a0.L.flatMap eGR10Read)], .box [.sl a1.L.length (a1.L.flatMap eGR10Read)]]) (fun b1 => m14_r10_Same_k1 b1 = some r) (fun _ _ => inbL_of rfl) (fun _ _ => blkinb_of rfl) (fun _ _ => Nat.le_of_ble_eq_true rfl) (fun b1 h => ?_) ?_
    · unfold m14_r10_Same_k1 at h
      refine cseq ?_
      refine cregion ?_
      refine sv rfl (opv_as rfl) ?_
      refine snil ?_
      refine cret ?_
      obtain rfl := Option.some.inj h
      refine ⟨Or.inr rfl, _, _, _, (resVs_cons (ResV.tmp _ _ rfl) resVs_nil), (pubA_id rfl), ?_⟩
      rfl
    · skip
      refine cblock ?_
      obtain ⟨x2, hx2, ho2⟩ := bind_eq h
      refine awc_loop (G := Nat × (Int)) (fun g => [(2, .s (.one (.lp 0 0))), (3, .s (.one (.lp 1 0))), (5, .s (.one (.i .i64 g.2)))]) (fun g => [.box [.sl a0.L.length (a0.L.flatMap eGR10Read)], .box [.sl a1.L.length (a1.L.flatMap eGR10Read)]]) (fun g => iter (m14_r10_Same_s2 a0 a1) g.1 g.2 = some x2) (fun g => g.1) (fuel, 0) hx2 ⟨rfl, rfl, rfl, trivial⟩ [] rfl (fun _ _ => inbL_of rfl) (fun _ _ => blkinb_of rfl) (fun _ _ => Nat.le_of_ble_eq_true rfl) ?_
      clear hx2 h
      rintro ⟨n2, s2⟩ h
      obtain ⟨n2, y2, rfl, h, hk2⟩ := iter_eq h
      unfold m14_r10_Same_s2 at h
      refine cseq ?_
      refine cseq ?_
      refine cregion ?_
      refine sv rfl (opv_mv rfl) ?_
      refine sv rfl (opv_fieldAddr_lp fi24_0 rfl) ?_
      refine sv rfl (opv_load1 ti22 rfl (.lp _ _ _ rfl) rfl) ?_
      refine sv rfl (opv_len_sl si22 rfl) ?_
      refine sv rfl (opv_lss rfl rfl) ?_
      refine snil ?_
      refine ccond rfl (fun hc => ?_) (fun hc => ?_)
      · replace h := ite_t hc h
        clear hc
        refine cskip ?_
        refine then_normal ?_
        refine cseq ?_
        refine cblock ?_
        refine cseq ?_
        refine cdraw mixed (by kernel_rfl) ?_
        refine dv rfl (opv_fieldAddr_lp fi24_0 rfl) ?_
        refine dv rfl (opv_load1 ti22 rfl (.lp _ _ _ rfl) rfl) ?_
        refine dv rfl (opv_mv rfl) ?_
        obtain ⟨u3, hu3, h⟩ := bind_eq h
        refine dv rfl (opv_ix (f := eGR10Read) si22 (fun _ => rfl) rfl rfl rfl rfl hu3) ?_
        refine dv rfl (opv_loadNe (ys := [.i .i64 u3.Tx, .sl u3.Rng.Lo.length (u3.Rng.Lo.flatMap eU8), .sl u3.Rng.Hi.length (u3.Rng.Hi.flatMap eU8), .b u3.Rng.Open]) ti56 rfl (.cp _) rfl rfl) ?_
        refine dv rfl (opv_fieldAddr_lp fi24_0 rfl) ?_
        refine dv rfl (opv_load1 ti22 rfl (.lp _ _ _ rfl) rfl) ?_
        refine dv rfl (opv_mv rfl) ?_
        obtain ⟨u4, hu4, h⟩ := bind_eq h
        refine dv rfl (opv_ix (f := eGR10Read) si22 (fun _ => rfl) rfl rfl rfl rfl hu4) ?_
        refine dv rfl (opv_loadNe (ys := [.i .i64 u4.Tx, .sl u4.Rng.Lo.length (u4.Rng.Lo.flatMap eU8), .sl u4.Rng.Hi.length (u4.Rng.Hi.flatMap eU8), .b u4.Rng.Open]) ti56 rfl (.cp _) rfl rfl) ?_
        obtain ⟨v5, hv5, h⟩ := bind_eq h
        refine dd rfl (opD_call fn37 (opnds_cons rfl (opnds_cons rfl opnds_nil)) rfl (m37_r10_same_c hv5)) ?_
        refine dv rfl (opv_not rfl) ?_
        refine dnil ?_
        refine then_normal ?_
        refine ccond rfl (fun hc => ?_) (fun hc => ?_)
        · replace h := ite_t hc h
          clear hc
          refine cseq ?_
          refine cregion ?_
          refine sv rfl (opv_as rfl) ?_
          refine snil ?_
          refine cret ?_
          refine block_ret ?_
          refine then_ret ?_
          refine then_ret ?_
          refine block_ret ?_
          refine then_ret ?_
          obtain rfl := Option.some.inj h
          obtain rfl : Sum.inl _ = x2 := hk2
          replace ho2 : some _ = some _ := ho2
          obtain rfl := Option.some.inj ho2
          refine ⟨Or.inr rfl, _, _, _, (resVs_cons (ResV.tmp _ _ rfl) resVs_nil), (pubA_id rfl), ?_⟩
          rfl
        · replace h := ite_f hc h
          clear hc
          refine cskip ?_
          refine block_normal ?_
          refine then_normal ?_
          refine cregion ?_
          refine sv rfl (opv_mv rfl) ?_
          refine sv rfl (opv_add rfl rfl) ?_
          refine sv rfl (opv_as rfl) ?_
          refine snil ?_
          obtain rfl := Option.some.inj h
          exact ⟨(n2, (wI (s2 + 1))), _, hk2, ⟨rfl, rfl, rfl, trivial⟩, rfl, Nat.lt_succ_self _⟩
      · replace h := ite_f hc h
        clear hc
        refine cexit ?_
        refine then_exit ?_
        refine then_exit ?_
        refine block_hit ?_
        refine then_normal ?_
        obtain rfl := Option.some.inj h
        obtain rfl : _ = x2 := hk2
        exact ⟨(), _, ho2, trivial, rfl⟩

def m29_r06_Has (a0 : GApiRange) (a1 : List UInt8) : Option Bool :=
  (m44_r06_Cmp a1 a0.Lo).bind fun v1 => if (decide (0 ≤ v1)) then (if a0.Open then (some true) else ((m44_r06_Cmp a1 a0.Hi).bind fun v2 => some (decide (v2 < 0)))) else (some false)

set_option maxRecDepth 100000 in
theorem m29_r06_Has_c {a0 : GApiRange} {a1 : List UInt8} {r : Bool} (h : m29_r06_Has a0 a1 = some r) : CallsA Try.prog 29 [.agg a0, .one (.sl a1.length (a1.flatMap eU8))] (· = .s (.one (.b r))) := by
  unfold m29_r06_Has at h
  refine callsA_of Try.func29 rfl (nt := 21) rfl (Nat.le_of_ble_eq_true rfl) ?_
  intro w0 S0
  refine cseq ?_
  refine cregion ?_
  refine sbox rfl rfl ?_
  refine sv rfl (opv_as rfl) ?_
  refine snil ?_
  refine cseq ?_
  refine cregion ?_
  refine sv rfl (opv_mv rfl) ?_
  refine sv rfl (opv_fieldAddr_lp fi27_0 rfl) ?_
  refine sv rfl (opv_load1 ti25 rfl (.lp _ _ _ rfl) rfl) ?_
  obtain ⟨v1, hv1, h⟩ := bind_eq h
  refine scall1 rfl fn44 (opnds_cons rfl (opnds_cons rfl opnds_nil)) (pubA_id rfl) (m44_r06_Cmp_c hv1) ?_
  refine sv rfl (opv_geq rfl rfl) ?_
  refine sv rfl (opv_mv rfl) ?_
  refine ssplit 10 rfl (fun hc => ?_) (fun hc => ?_)
  · replace h := ite_t hc h
    clear hc
    refine son rfl rfl rfl ?_
    refine sv rfl (opv_fieldAddr_lp fi27_2 rfl) ?_
    refine son rfl rfl rfl ?_
    refine sv rfl (opv_load1 ti4 rfl (.lp _ _ _ rfl) rfl) ?_
    refine son rfl rfl rfl ?_
    refine sv rfl (opv_mv rfl) ?_
    refine ssplit 13 rfl (fun hc => ?_) (fun hc => ?_)
    · replace h := ite_t hc h
      clear hc
      refine soff rfl rfl rfl rfl ?_
      refine soff rfl rfl rfl rfl ?_
      refine soff rfl rfl rfl rfl ?_
      refine soff rfl rfl rfl rfl ?_
      refine soff rfl rfl rfl rfl ?_
      refine son rfl rfl rfl ?_
      refine sv rfl (opv_pick_t rfl rfl) ?_
      refine sv rfl (opv_pick_t rfl rfl) ?_
      refine sv rfl (opv_as rfl) ?_
      refine snil ?_
      refine cret ?_
      obtain rfl := Option.some.inj h
      refine ⟨Or.inr rfl, _, _, _, (resVs_cons (ResV.tmp _ _ rfl) resVs_nil), (pubA_id rfl), ?_⟩
      rfl
    · replace h := ite_f hc h
      clear hc
      refine son rfl rfl rfl ?_
      refine sv rfl (opv_mv rfl) ?_
      refine son rfl rfl rfl ?_
      refine sv rfl (opv_fieldAddr_lp fi27_1 rfl) ?_
      refine son rfl rfl rfl ?_
      refine sv rfl (opv_load1 ti25 rfl (.lp _ _ _ rfl) rfl) ?_
      refine son rfl rfl rfl ?_
      obtain ⟨v2, hv2, h⟩ := bind_eq h
      refine scall1 rfl fn44 (opnds_cons rfl (opnds_cons rfl opnds_nil)) (pubA_id rfl) (m44_r06_Cmp_c hv2) ?_
      refine son rfl rfl rfl ?_
      refine sv rfl (opv_lss rfl rfl) ?_
      refine son rfl rfl rfl ?_
      refine sv rfl (opv_pick_f rfl rfl) ?_
      refine sv rfl (opv_pick_t rfl rfl) ?_
      refine sv rfl (opv_as rfl) ?_
      refine snil ?_
      refine cret ?_
      obtain rfl := Option.some.inj h
      refine ⟨Or.inr rfl, _, _, _, (resVs_cons (ResV.tmp _ _ rfl) resVs_nil), (pubA_id rfl), ?_⟩
      rfl
  · replace h := ite_f hc h
    clear hc
    refine soff rfl rfl rfl rfl ?_
    refine soff rfl rfl rfl rfl ?_
    refine soff rfl rfl rfl rfl ?_
    refine soffu rfl rfl rfl ?_
    refine soffu rfl rfl rfl ?_
    refine soffu rfl rfl rfl ?_
    refine soffu rfl rfl rfl ?_
    refine soffu rfl rfl rfl ?_
    refine soff rfl rfl rfl rfl ?_
    refine sv rfl (opv_pick_f rfl rfl) ?_
    refine sv rfl (opv_as rfl) ?_
    refine snil ?_
    refine cret ?_
    obtain rfl := Option.some.inj h
    refine ⟨Or.inr rfl, _, _, _, (resVs_cons (ResV.tmp _ _ rfl) resVs_nil), (pubA_id rfl), ?_⟩
    rfl

def m30_r10_Rise_k1 (b1 : (List Int)) : Option (List Int) :=
  some b1

def m30_r10_Rise_k4 (a0 : List Int) (s2 : (List Int) × Int × (List Int)) (b3 : Int) (b4 : Unit) : Option (LB ((List Int) × Int × (List Int)) ((List Int))) :=
  (cut s2.1 0 b3).bind fun c5 => if (([] : List Int).length + c5.length) * 8 ≤ 140737488355328 then ((idx a0 s2.2.1).bind fun u7 => if ((([] : List Int) ++ c5).length + [u7].length) * 8 ≤ 140737488355328 then ((cut s2.1 b3 (s2.1.length : Int)).bind fun c9 => if (((([] : List Int) ++ c5) ++ [u7]).length + c9.length) * 8 ≤ 140737488355328 then (some (.cont ((((([] : List Int) ++ c5) ++ [u7]) ++ c9), (wI (s2.2.1 + 1)), s2.2.2))) else none) else none) else none

def m30_r10_Rise_k3 (a0 : List Int) (s2 : (List Int) × Int × (List Int)) (b3 : Int) : Option (LB ((List Int) × Int × (List Int)) ((List Int))) :=
  if (decide (b3 < (s2.1.length : Int))) then ((idx s2.1 b3).bind fun u11 => (idx a0 s2.2.1).bind fun u12 => if (decide (u11 = u12)) then (some (.cont (s2.1, (wI (s2.2.1 + 1)), s2.2.2))) else (m30_r10_Rise_k4 a0 s2 b3 ())) else (m30_r10_Rise_k4 a0 s2 b3 ())

def m30_r10_Rise_s13 (a0 : List Int) (s2 : (List Int) × Int × (List Int)) (s13 : Int) : Option (LB (Int) (Int)) :=
  if (decide (s13 < (s2.1.length : Int))) then ((idx s2.1 s13).bind fun u14 => (idx a0 s2.2.1).bind fun u15 => if (decide (u14 < u15)) then (some (.cont (wI (s13 + 1)))) else (some (.brk s13))) else (some (.brk s13))

def m30_r10_Rise_s2 (a0 : List Int) (s2 : (List Int) × Int × (List Int)) : Option (LB ((List Int) × Int × (List Int)) ((List Int))) :=
  if (decide (s2.2.1 < (a0.length : Int))) then ((iterB (m30_r10_Rise_s13 a0 s2) fuel 0).bind fun e16 => m30_r10_Rise_k3 a0 s2 e16) else (some (.brk s2.1))
def m30_r10_Rise (a0 : List Int) : Option (List Int) :=
  (iterB (m30_r10_Rise_s2 a0) fuel (([] : List Int), 0, ([] : List Int))).bind fun e17 => m30_r10_Rise_k1 e17

set_option maxRecDepth 100000 in
theorem m30_r10_Rise_c {a0 : List Int} {r : (List Int)} (h : m30_r10_Rise a0 = some r) : CallsA Try.prog 30 [.one (.sl a0.length (a0.flatMap eI))] (· = .s (.one (.sl r.length (r.flatMap eI)))) := by
  unfold m30_r10_Rise at h
  refine callsA_of Try.func30 rfl (nt := 64) rfl (Nat.le_of_ble_eq_true rfl) ?_
  intro w0 S0
  refine cseq ?_
  refine cregion ?_
  refine sv rfl (opv_as rfl) ?_
  refine snil ?_
  refine cseq ?_
  refine cregion ?_
  refine sv rfl (opv_as rfl) ?_
  refine snil ?_
  refine cseq ?_
  refine cseq ?_
  refine cregion ?_
  refine sv rfl (opv_as rfl) ?_
  refine snil ?_
  refine cjoin ((List Int)) (fun b1 => [(3, .s (.one (.sl b1.length (b1.flatMap eI))))]) (fun b1 => []) (fun b1 => m30_r10_Rise_k1 b1 = some r) (fun _ _ => inbL_of rfl) (fun _ _ => blkinb_of rfl) (fun _ _ => Nat.le_of_ble_eq_true rfl) (fun b1 h => ?_) ?_
  · unfold m30_r10_Rise_k1 at h
    refine cseq ?_
    refine cregion ?_
    refine sv rfl (opv_mv rfl) ?_
    refine sv rfl (opv_as rfl) ?_
    refine snil ?_
    refine cret ?_
    obtain rfl := Option.some.inj h
    refine ⟨Or.inr rfl, _, _, _, (resVs_cons (ResV.tmp _ _ rfl) resVs_nil), (pubA_id rfl), ?_⟩
    rfl
  · skip
    refine cblock ?_
    refine sadopt_c 3 1 3 (by decide) rfl ?_
    refine cpub 3 rfl (by (repeat' first | exact PubA.nil _ | apply PubA.cons | apply PubV.one | apply PubV.agg | exact PubL.nil | exact PubL.ls _ _ _ _ _ _ rfl (flat_len (f := eI) (fun _ => rfl) (([] : List Int) : List Int)).symm | exact PubL.ls _ _ _ _ _ _ rfl (flat_len (f := eI) (fun _ => rfl) _).symm | exact PubL.id _ rfl | exact PubLs.nil _ | apply PubLs.cons)) ?_
    obtain ⟨x2, hx2, ho2⟩ := bind_eq h
    refine awc_loop (G := Nat × ((List Int) × Int × (List Int))) (fun g => [(0, .s (.one (.sl a0.length (a0.flatMap eI)))), (3, .s (.one (.sl g.2.1.length (g.2.1.flatMap eI)))), (4, .s (.one (.i .i64 g.2.2.1)))]) (fun g => [.arr 3 1 (g.2.2.2.flatMap eI).length (g.2.2.2.flatMap eI)]) (fun g => iterB (m30_r10_Rise_s2 a0) g.1 g.2 = some x2) (fun g => g.1) (fuel, (([] : List Int), 0, ([] : List Int))) hx2 ⟨rfl, rfl, rfl, trivial⟩ [] rfl (fun _ _ => inbL_of rfl) (fun _ _ => blkinb_of rfl) (fun _ _ => Nat.le_of_ble_eq_true rfl) ?_
    clear hx2 h
    rintro ⟨n2, s2⟩ h
    obtain ⟨n2, y2, rfl, h, hk2⟩ := iterB_eq h
    unfold m30_r10_Rise_s2 at h
    refine cseq ?_
    refine cseq ?_
    refine cregion ?_
    refine sv rfl (opv_mv rfl) ?_
    refine sv rfl (opv_mv rfl) ?_
    refine sv rfl (opv_len_sl si28 rfl) ?_
    refine sv rfl (opv_lss rfl rfl) ?_
    refine snil ?_
    refine ccond rfl (fun hc => ?_) (fun hc => ?_)
    · replace h := ite_t hc h
      clear hc
      refine cskip ?_
      refine then_normal ?_
      refine cseq ?_
      refine cblock ?_
      refine cseq ?_
      refine cregion ?_
      refine sv rfl (opv_as rfl) ?_
      refine snil ?_
      refine cseq ?_
      refine cjoin (Int) (fun b3 => [(0, .s (.one (.sl a0.length (a0.flatMap eI)))), (3, .s (.one (.sl s2.1.length (s2.1.flatMap eI)))), (4, .s (.one (.i .i64 s2.2.1))), (5, .s (.one (.i .i64 b3)))]) (fun b3 => [.arr 3 1 (s2.2.2.flatMap eI).length (s2.2.2.flatMap eI)]) (fun b3 => m30_r10_Rise_k3 a0 s2 b3 = some y2) (fun _ _ => inbL_of rfl) (fun _ _ => blkinb_of rfl) (fun _ _ => Nat.le_of_ble_eq_true rfl) (fun b3 h => ?_) ?_
      · unfold m30_r10_Rise_k3 at h
        refine cseq ?_
        refine cseq ?_
        refine cjoin3 (Unit) (fun b4 => [(0, .s (.one (.sl a0.length (a0.flatMap eI)))), (3, .s (.one (.sl s2.1.length (s2.1.flatMap eI)))), (4, .s (.one (.i .i64 s2.2.1))), (5, .s (.one (.i .i64 b3)))]) (fun b4 => [.arr 3 1 (s2.2.2.flatMap eI).length (s2.2.2.flatMap eI)]) (fun b4 => m30_r10_Rise_k4 a0 s2 b3 b4 = some y2) (fun _ _ => inbL_of rfl) (fun _ _ => blkinb_of rfl) (fun _ _ => Nat.le_of_ble_eq_true rfl) (fun b4 h => ?_) ?_
        · unfold m30_r10_Rise_k4 at h
          refine cseq ?_
          refine cregion ?_
          refine sv rfl (opv_as rfl) ?_
          refine snil ?_
          refine cseq ?_
          refine cregion ?_
          refine sv rfl (opv_mv rfl) ?_
          refine sv rfl (opv_mv rfl) ?_
          refine sv rfl (opv_mv rfl) ?_
          obtain ⟨c5, hc5, h⟩ := bind_eq h
          refine sv rfl (opv_cut (f := eI) (lo := 0) (hi := b3) si28 (fun _ => rfl) rfl rfl rfl bound_none (bound_some rfl (Int.le_trans (cut_eq hc5).1.1 (cut_eq hc5).1.2.1)) hc5) ?_
          refine sadopt 3 1 45 (by decide) rfl ?_
          obtain ⟨hb6, h⟩ := chk_eq h
          refine sapp (f := eI) (xs := ([] : List Int)) (us := c5) rfl Try.underlying28 ei3 ni28 (fun _ => rfl) rfl rfl (.one _ _ _ _ (.id _ rfl)) rfl rfl rfl (.sl _ _ _ (flat_len (f := eI) (fun _ => rfl) _)) rfl rfl hb6 (by decide) ?_
          refine sv rfl (opv_as rfl) ?_
          refine snil ?_
          refine cseq ?_
          refine cregion ?_
          refine sv rfl (opv_mv rfl) ?_
          refine sv rfl (opv_mv rfl) ?_
          refine sv rfl (opv_mv rfl) ?_
          obtain ⟨u7, hu7, h⟩ := bind_eq h
          refine sv rfl (opv_ix (f := eI) si28 (fun _ => rfl) rfl rfl rfl rfl hu7) ?_
          refine sv rfl (opv_load1 ti3 rfl (.cp _) rfl) ?_
          refine sbuild1 rfl Try.underlying28 ei3 rfl rfl (List.all_eq_true.1 rfl) (by decide) ?_
          refine smem [.arr 3 1 (s2.2.2.flatMap eI).length (s2.2.2.flatMap eI), .arr 3 1 0 ((([] : List Int) ++ c5).flatMap eI), .arr 3 1 0 ([u7].flatMap eI)] rfl ?_
          obtain ⟨hb8, h⟩ := chk_eq h
          refine sapp (f := eI) (xs := (([] : List Int) ++ c5)) (us := [u7]) rfl Try.underlying28 ei3 ni28 (fun _ => rfl) rfl rfl (.one _ _ _ _ (.ls _ _ _ _ _ _ rfl (flat_len (f := eI) (fun _ => rfl) [u7]).symm)) rfl rfl rfl (.sl _ _ _ (flat_len (f := eI) (fun _ => rfl) _)) rfl rfl hb8 (by decide) ?_
          refine sv rfl (opv_as rfl) ?_
          refine snil ?_
          refine cseq ?_
          refine cregion ?_
          refine sv rfl (opv_mv rfl) ?_
          refine sv rfl (opv_mv rfl) ?_
          refine sv rfl (opv_mv rfl) ?_
          obtain ⟨c9, hc9, h⟩ := bind_eq h
          refine sv rfl (opv_cut (f := eI) (lo := b3) (hi := (s2.1.length : Int)) si28 (fun _ => rfl) rfl rfl rfl (bound_some rfl (cut_eq hc9).1.1) (by exact rfl) hc9) ?_
          obtain ⟨hb10, h⟩ := chk_eq h
          refine sapp (f := eI) (xs := ((([] : List Int) ++ c5) ++ [u7])) (us := c9) rfl Try.underlying28 ei3 ni28 (fun _ => rfl) rfl rfl (.one _ _ _ _ (.id _ rfl)) rfl rfl rfl (.sl _ _ _ (flat_len (f := eI) (fun _ => rfl) _)) rfl rfl hb10 (by decide) ?_
          refine sv rfl (opv_as rfl) ?_
          refine snil ?_
          refine cregion ?_
          refine sv rfl (opv_mv rfl) ?_
          refine sv rfl (opv_as rfl) ?_
          refine snil0 ?_
          refine block_normal ?_
          refine then_normal ?_
          refine cregion ?_
          refine sv rfl (opv_mv rfl) ?_
          refine sv rfl (opv_add rfl rfl) ?_
          refine sv rfl (opv_as rfl) ?_
          refine spub 3 rfl (by (repeat' first | exact PubA.nil _ | apply PubA.cons | apply PubV.one | apply PubV.agg | exact PubL.nil | exact PubL.ls _ _ _ _ _ _ rfl (flat_len (f := eI) (fun _ => rfl) _).symm | exact PubL.id _ rfl | exact PubLs.nil _ | apply PubLs.cons)) ?_
          refine snil ?_
          obtain rfl := Option.some.inj h
          exact ⟨(n2, ((((([] : List Int) ++ c5) ++ [u7]) ++ c9), (wI (s2.2.1 + 1)), s2.2.2)), _, hk2, ⟨rfl, rfl, rfl, trivial⟩, rfl, Nat.lt_succ_self _⟩
        · skip
          refine cdraw mixed (by kernel_rfl) ?_
          refine dv rfl (opv_mv rfl) ?_
          refine dv rfl (opv_mv rfl) ?_
          refine dv rfl (opv_len_sl si28 rfl) ?_
          refine dv rfl (opv_lss rfl rfl) ?_
          refine dv rfl (opv_mv rfl) ?_
          refine dsplit 34 rfl (fun hc => ?_) (fun hc => ?_)
          · replace h := ite_t hc h
            clear hc
            refine dvg rfl rfl rfl (opv_mv rfl) ?_
            refine dvg rfl rfl rfl (opv_mv rfl) ?_
            obtain ⟨u11, hu11, h⟩ := bind_eq h
            refine dvg rfl rfl rfl (opv_ix (f := eI) si28 (fun _ => rfl) rfl rfl rfl rfl hu11) ?_
            refine dvg rfl rfl rfl (opv_load1 ti3 rfl (.cp _) rfl) ?_
            refine dvg rfl rfl rfl (opv_mv rfl) ?_
            refine dvg rfl rfl rfl (opv_mv rfl) ?_
            obtain ⟨u12, hu12, h⟩ := bind_eq h
            refine dvg rfl rfl rfl (opv_ix (f := eI) si28 (fun _ => rfl) rfl rfl rfl rfl hu12) ?_
            refine dvg rfl rfl rfl (opv_load1 ti3 rfl (.cp _) rfl) ?_
            refine dvg rfl rfl rfl (opv_ieql rfl rfl) ?_
            refine dv rfl (opv_pick_t rfl rfl) ?_
            refine dnil ?_
            refine then_normal ?_
            refine ccond rfl (fun hc => ?_) (fun hc => ?_)
            · replace h := ite_t hc h
              clear hc
              refine cexit ?_
              refine then_exit ?_
              refine block_hit ?_
              refine then_normal ?_
              refine cregion ?_
              refine sv rfl (opv_mv rfl) ?_
              refine sv rfl (opv_add rfl rfl) ?_
              refine sv rfl (opv_as rfl) ?_
              refine snil ?_
              obtain rfl := Option.some.inj h
              exact ⟨(n2, (s2.1, (wI (s2.2.1 + 1)), s2.2.2)), _, hk2, ⟨rfl, rfl, rfl, trivial⟩, rfl, Nat.lt_succ_self _⟩
            · replace h := ite_f hc h
              clear hc
              refine cskip ?_
              refine then_normal ?_
              exact ⟨(), _, h, ⟨rfl, rfl, rfl, rfl, trivial⟩, rfl⟩
          · replace h := ite_f hc h
            clear hc
            refine doff rfl rfl rfl rfl ?_
            refine doff rfl rfl rfl rfl ?_
            refine doff rfl rfl rfl rfl ?_
            refine doff rfl rfl rfl rfl ?_
            refine doff rfl rfl rfl rfl ?_
            refine doff rfl rfl rfl rfl ?_
            refine doff rfl rfl rfl rfl ?_
            refine doff rfl rfl rfl rfl ?_
            refine doff rfl rfl rfl rfl ?_
            refine dv rfl (opv_pick_f rfl rfl) ?_
            refine dnil ?_
            refine then_normal ?_
            refine ccond rfl (fun hx => Bool.noConfusion hx) (fun _ => ?_)
            refine cskip ?_
            refine then_normal ?_
            exact ⟨(), _, h, ⟨rfl, rfl, rfl, rfl, trivial⟩, rfl⟩
      · skip
        refine cblock ?_
        obtain ⟨x13, hx13, ho13⟩ := bind_eq h
        refine awc_loop (G := Nat × (Int)) (fun g => [(0, .s (.one (.sl a0.length (a0.flatMap eI)))), (3, .s (.one (.sl s2.1.length (s2.1.flatMap eI)))), (4, .s (.one (.i .i64 s2.2.1))), (5, .s (.one (.i .i64 g.2)))]) (fun g => [.arr 3 1 (s2.2.2.flatMap eI).length (s2.2.2.flatMap eI)]) (fun g => iterB (m30_r10_Rise_s13 a0 s2) g.1 g.2 = some x13) (fun g => g.1) (fuel, 0) hx13 ⟨rfl, rfl, rfl, rfl, trivial⟩ [] rfl (fun _ _ => inbL_of rfl) (fun _ _ => blkinb_of rfl) (fun _ _ => Nat.le_of_ble_eq_true rfl) ?_
        clear hx13 h
        rintro ⟨n13, s13⟩ h
        obtain ⟨n13, y13, rfl, h, hk13⟩ := iterB_eq h
        unfold m30_r10_Rise_s13 at h
        refine cseq ?_
        refine cseq ?_
        refine cdraw mixed (by kernel_rfl) ?_
        refine dv rfl (opv_mv rfl) ?_
        refine dv rfl (opv_mv rfl) ?_
        refine dv rfl (opv_len_sl si28 rfl) ?_
        refine dv rfl (opv_lss rfl rfl) ?_
        refine dv rfl (opv_mv rfl) ?_
        refine dsplit 17 rfl (fun hc => ?_) (fun hc => ?_)
        · replace h := ite_t hc h
          clear hc
          refine dvg rfl rfl rfl (opv_mv rfl) ?_
          refine dvg rfl rfl rfl (opv_mv rfl) ?_
          obtain ⟨u14, hu14, h⟩ := bind_eq h
          refine dvg rfl rfl rfl (opv_ix (f := eI) si28 (fun _ => rfl) rfl rfl rfl rfl hu14) ?_
          refine dvg rfl rfl rfl (opv_load1 ti3 rfl (.cp _) rfl) ?_
          refine dvg rfl rfl rfl (opv_mv rfl) ?_
          refine dvg rfl rfl rfl (opv_mv rfl) ?_
          obtain ⟨u15, hu15, h⟩ := bind_eq h
          refine dvg rfl rfl rfl (opv_ix (f := eI) si28 (fun _ => rfl) rfl rfl rfl rfl hu15) ?_
          refine dvg rfl rfl rfl (opv_load1 ti3 rfl (.cp _) rfl) ?_
          refine dvg rfl rfl rfl (opv_lss rfl rfl) ?_
          refine dv rfl (opv_pick_t rfl rfl) ?_
          refine dnil ?_
          refine then_normal ?_
          refine ccond rfl (fun hc => ?_) (fun hc => ?_)
          · replace h := ite_t hc h
            clear hc
            refine cskip ?_
            refine then_normal ?_
            refine cblock ?_
            refine cregion ?_
            refine sv rfl (opv_mv rfl) ?_
            refine sv rfl (opv_add rfl rfl) ?_
            refine sv rfl (opv_as rfl) ?_
            refine snil0 ?_
            refine block_normal ?_
            refine then_normal ?_
            obtain rfl := Option.some.inj h
            exact ⟨(n13, (wI (s13 + 1))), _, hk13, ⟨rfl, rfl, rfl, rfl, trivial⟩, rfl, Nat.lt_succ_self _⟩
          · replace h := ite_f hc h
            clear hc
            refine cexit ?_
            refine then_exit ?_
            refine then_exit ?_
            refine block_hit ?_
            refine then_normal ?_
            obtain rfl := Option.some.inj h
            obtain rfl : _ = x13 := hk13
            exact ⟨s13, _, ho13, ⟨rfl, rfl, rfl, rfl, trivial⟩, rfl⟩
        · replace h := ite_f hc h
          clear hc
          refine doff rfl rfl rfl rfl ?_
          refine doff rfl rfl rfl rfl ?_
          refine doff rfl rfl rfl rfl ?_
          refine doff rfl rfl rfl rfl ?_
          refine doff rfl rfl rfl rfl ?_
          refine doff rfl rfl rfl rfl ?_
          refine doff rfl rfl rfl rfl ?_
          refine doff rfl rfl rfl rfl ?_
          refine doff rfl rfl rfl rfl ?_
          refine dv rfl (opv_pick_f rfl rfl) ?_
          refine dnil ?_
          refine then_normal ?_
          refine ccond rfl (fun hx => Bool.noConfusion hx) (fun _ => ?_)
          refine cexit ?_
          refine then_exit ?_
          refine then_exit ?_
          refine block_hit ?_
          refine then_normal ?_
          obtain rfl := Option.some.inj h
          obtain rfl : _ = x13 := hk13
          exact ⟨s13, _, ho13, ⟨rfl, rfl, rfl, rfl, trivial⟩, rfl⟩
    · replace h := ite_f hc h
      clear hc
      refine cexit ?_
      refine then_exit ?_
      refine then_exit ?_
      refine block_hit ?_
      refine then_normal ?_
      obtain rfl := Option.some.inj h
      obtain rfl : _ = x2 := hk2
      exact ⟨s2.1, _, ho2, ⟨rfl, trivial⟩, rfl⟩

def m20_r10_Hits_k1 (b1 : (List Int)) : Option (List Int) :=
  (m30_r10_Rise b1).bind fun v2 => some v2

def m20_r10_Hits_s3 (a0 : GR10Table) (a1 : List UInt8) (s3 : Int × (List Int)) : Option (LB (Int × (List Int)) ((List Int))) :=
  if (decide (s3.1 < (a0.L.length : Int))) then ((idx a0.L s3.1).bind fun u4 => (m29_r06_Has (GApiRange.mk u4.Rng.Lo u4.Rng.Hi u4.Rng.Open) a1).bind fun v5 => if v5 then ((idx a0.L s3.1).bind fun u6 => if (s3.2.length + [u6.Tx].length) * 8 ≤ 140737488355328 then (some (.cont ((wI (s3.1 + 1)), (s3.2 ++ [u6.Tx])))) else none) else (some (.cont ((wI (s3.1 + 1)), s3.2)))) else (some (.brk s3.2))
def m20_r10_Hits (a0 : GR10Table) (a1 : List UInt8) : Option (List Int) :=
  (iterB (m20_r10_Hits_s3 a0 a1) fuel (0, ([] : List Int))).bind fun e8 => m20_r10_Hits_k1 e8

set_option maxRecDepth 100000 in
theorem m20_r10_Hits_c {a0 : GR10Table} {a1 : List UInt8} {r : (List Int)} (h : m20_r10_Hits a0 a1 = some r) : CallsA Try.prog 20 [.agg [.sl a0.L.length (a0.L.flatMap eGR10Read)], .one (.sl a1.length (a1.flatMap eU8))] (· = .s (.one (.sl r.length (r.flatMap eI)))) := by
  unfold m20_r10_Hits at h
  refine callsA_of Try.func20 rfl (nt := 33) rfl (Nat.le_of_ble_eq_true rfl) ?_
  intro w0 S0
  refine cseq ?_
  refine cregion ?_
  refine sbox rfl rfl ?_
  refine sv rfl (opv_as rfl) ?_
  refine snil ?_
  refine cseq ?_
  refine cregion ?_
  refine sv rfl (opv_as rfl) ?_
  refine snil ?_
  refine cseq ?_
  refine cseq ?_
  refine cregion ?_
  refine sv rfl (opv_as rfl) ?_
  refine snil ?_
  refine sadopt_c 3 1 5 (by decide) rfl ?_
  refine cjoin ((List Int)) (fun b1 => [(5, .s (.one (.ls 1 b1.length)))]) (fun b1 => [.box [.sl a0.L.length (a0.L.flatMap eGR10Read)], .arr 3 1 0 (b1.flatMap eI)]) (fun b1 => m20_r10_Hits_k1 b1 = some r) (fun _ _ => inbL_of rfl) (fun _ _ => blkinb_of rfl) (fun _ _ => Nat.le_of_ble_eq_true rfl) (fun b1 h => ?_) ?_
  · unfold m20_r10_Hits_k1 at h
    refine cseq ?_
    refine cregion ?_
    refine sv rfl (opv_mv rfl) ?_
    refine spub 31 rfl (by (repeat' first | exact PubA.nil _ | apply PubA.cons | apply PubV.one | apply PubV.agg | exact PubL.nil | exact PubL.ls _ _ _ _ _ _ rfl (flat_len (f := eI) (fun _ => rfl) _).symm | exact PubL.id _ rfl | exact PubLs.nil _ | apply PubLs.cons)) ?_
    obtain ⟨v2, hv2, h⟩ := bind_eq h
    refine scall1 rfl fn30 (opnds_cons rfl opnds_nil) (pubA_id rfl) (m30_r10_Rise_c hv2) ?_
    refine sv rfl (opv_as rfl) ?_
    refine snil ?_
    refine cret ?_
    obtain rfl := Option.some.inj h
    refine ⟨Or.inr rfl, _, _, _, (resVs_cons (ResV.tmp _ _ rfl) resVs_nil), (pubA_id rfl), ?_⟩
    rfl
  · skip
    refine cblock ?_
    obtain ⟨x3, hx3, ho3⟩ := bind_eq h
    refine awc_loop (G := Nat × (Int × (List Int))) (fun g => [(1, .s (.one (.sl a1.length (a1.flatMap eU8)))), (2, .s (.one (.lp 0 0))), (5, .s (.one (.ls 1 g.2.2.length))), (6, .s (.one (.i .i64 g.2.1)))]) (fun g => [.box [.sl a0.L.length (a0.L.flatMap eGR10Read)], .arr 3 1 0 (g.2.2.flatMap eI)]) (fun g => iterB (m20_r10_Hits_s3 a0 a1) g.1 g.2 = some x3) (fun g => g.1) (fuel, (0, ([] : List Int))) hx3 ⟨rfl, rfl, rfl, rfl, trivial⟩ [] rfl (fun _ _ => inbL_of rfl) (fun _ _ => blkinb_of rfl) (fun _ _ => Nat.le_of_ble_eq_true rfl) ?_
    clear hx3 h
    rintro ⟨n3, s3⟩ h
    obtain ⟨n3, y3, rfl, h, hk3⟩ := iterB_eq h
    unfold m20_r10_Hits_s3 at h
    refine cseq ?_
    refine cseq ?_
    refine cregion ?_
    refine sv rfl (opv_mv rfl) ?_
    refine sv rfl (opv_fieldAddr_lp fi24_0 rfl) ?_
    refine sv rfl (opv_load1 ti22 rfl (.lp _ _ _ rfl) rfl) ?_
    refine sv rfl (opv_len_sl si22 rfl) ?_
    refine sv rfl (opv_lss rfl rfl) ?_
    refine snil ?_
    refine ccond rfl (fun hc => ?_) (fun hc => ?_)
    · replace h := ite_t hc h
      clear hc
      refine cskip ?_
      refine then_normal ?_
      refine cseq ?_
      refine cblock ?_
      refine cseq ?_
      refine cregion ?_
      refine sv rfl (opv_fieldAddr_lp fi24_0 rfl) ?_
      refine sv rfl (opv_load1 ti22 rfl (.lp _ _ _ rfl) rfl) ?_
      refine sv rfl (opv_mv rfl) ?_
      obtain ⟨u4, hu4, h⟩ := bind_eq h
      refine sv rfl (opv_ix (f := eGR10Read) si22 (fun _ => rfl) rfl rfl rfl rfl hu4) ?_
      refine sv rfl (opv_fieldAddr_cp fi56_1 rfl) ?_
      refine sv rfl (opv_loadNe (ys := [.sl u4.Rng.Lo.length (u4.Rng.Lo.flatMap eU8), .sl u4.Rng.Hi.length (u4.Rng.Hi.flatMap eU8), .b u4.Rng.Open]) ti27 rfl (.cp _) rfl rfl) ?_
      refine sv rfl (opv_mv rfl) ?_
      obtain ⟨v5, hv5, h⟩ := bind_eq h
      refine scall1 rfl fn29 (opnds_cons rfl (opnds_cons rfl opnds_nil)) (pubA_id rfl) (m29_r06_Has_c hv5) ?_
      refine snil ?_
      refine ccond rfl (fun hc => ?_) (fun hc => ?_)
      · replace h := ite_t hc h
        clear hc
        refine cregion ?_
        refine sv rfl (opv_mv rfl) ?_
        refine sv rfl (opv_fieldAddr_lp fi24_0 rfl) ?_
        refine sv rfl (opv_load1 ti22 rfl (.lp _ _ _ rfl) rfl) ?_
        refine sv rfl (opv_mv rfl) ?_
        obtain ⟨u6, hu6, h⟩ := bind_eq h
        refine sv rfl (opv_ix (f := eGR10Read) si22 (fun _ => rfl) rfl rfl rfl rfl hu6) ?_
        refine sv rfl (opv_fieldAddr_cp fi56_0 rfl) ?_
        refine sv rfl (opv_load1 ti3 rfl (.cp _) rfl) ?_
        refine sbuild1 rfl Try.underlying28 ei3 rfl rfl (List.all_eq_true.1 rfl) (by decide) ?_
        refine smem [.box [.sl a0.L.length (a0.L.flatMap eGR10Read)], .arr 3 1 0 (s3.2.flatMap eI), .arr 3 1 0 ([u6.Tx].flatMap eI)] rfl ?_
        obtain ⟨hb7, h⟩ := chk_eq h
        refine sapp (f := eI) (xs := s3.2) (us := [u6.Tx]) rfl Try.underlying28 ei3 ni28 (fun _ => rfl) rfl rfl (.one _ _ _ _ (.ls _ _ _ _ _ _ rfl (flat_len (f := eI) (fun _ => rfl) [u6.Tx]).symm)) rfl rfl rfl (.sl _ _ _ (flat_len (f := eI) (fun _ => rfl) _)) rfl rfl hb7 (by decide) ?_
        refine sv rfl (opv_as rfl) ?_
        refine snil0 ?_
        refine block_normal ?_
        refine then_normal ?_
        refine cregion ?_
        refine sv rfl (opv_mv rfl) ?_
        refine sv rfl (opv_add rfl rfl) ?_
        refine sv rfl (opv_as rfl) ?_
        refine snil ?_
        obtain rfl := Option.some.inj h
        exact ⟨(n3, ((wI (s3.1 + 1)), (s3.2 ++ [u6.Tx]))), _, hk3, ⟨rfl, rfl, rfl, rfl, trivial⟩, rfl, Nat.lt_succ_self _⟩
      · replace h := ite_f hc h
        clear hc
        refine cskip ?_
        refine block_normal ?_
        refine then_normal ?_
        refine cregion ?_
        refine sv rfl (opv_mv rfl) ?_
        refine sv rfl (opv_add rfl rfl) ?_
        refine sv rfl (opv_as rfl) ?_
        refine snil ?_
        obtain rfl := Option.some.inj h
        exact ⟨(n3, ((wI (s3.1 + 1)), s3.2)), _, hk3, ⟨rfl, rfl, rfl, rfl, trivial⟩, rfl, Nat.lt_succ_self _⟩
    · replace h := ite_f hc h
      clear hc
      refine cexit ?_
      refine then_exit ?_
      refine then_exit ?_
      refine block_hit ?_
      refine then_normal ?_
      obtain rfl := Option.some.inj h
      obtain rfl : _ = x3 := hk3
      exact ⟨s3.2, _, ho3, ⟨rfl, trivial⟩, rfl⟩

def m18_r10_Ints_k1 (b1 : Unit) : Option Bool :=
  some true

def m18_r10_Ints_s2 (a0 : List Int) (a1 : List Int) (s2 : Int) : Option (LR (Int) (Unit) (Bool)) :=
  if (decide (s2 < (a0.length : Int))) then ((idx a0 s2).bind fun u3 => (idx a1 s2).bind fun u4 => if (!decide (u3 = u4)) then (some (.ret false)) else (some (.cont (wI (s2 + 1))))) else (some (.brk ()))
def m18_r10_Ints (a0 : List Int) (a1 : List Int) : Option Bool :=
  if (!decide ((a0.length : Int) = (a1.length : Int))) then (some false) else ((iter (m18_r10_Ints_s2 a0 a1) fuel 0).bind fun x => match x with | .inl r => some r | .inr e5 => m18_r10_Ints_k1 e5)

set_option maxRecDepth 100000 in
theorem m18_r10_Ints_c {a0 : List Int} {a1 : List Int} {r : Bool} (h : m18_r10_Ints a0 a1 = some r) : CallsA Try.prog 18 [.one (.sl a0.length (a0.flatMap eI)), .one (.sl a1.length (a1.flatMap eI))] (· = .s (.one (.b r))) := by
  unfold m18_r10_Ints at h
  refine callsA_of Try.func18 rfl (nt := 26) rfl (Nat.le_of_ble_eq_true rfl) ?_
  intro w0 S0
  refine cseq ?_
  refine cregion ?_
  refine sv rfl (opv_as rfl) ?_
  refine snil ?_
  refine cseq ?_
  refine cseq ?_
  refine cregion ?_
  refine sv rfl (opv_mv rfl) ?_
  refine sv rfl (opv_len_sl si28 rfl) ?_
  refine sv rfl (opv_mv rfl) ?_
  refine sv rfl (opv_len_sl si28 rfl) ?_
  refine sv rfl (opv_ineq rfl rfl) ?_
  refine snil ?_
  refine ccond rfl (fun hc => ?_) (fun hc => ?_)
  · replace h := ite_t hc h
    clear hc
    refine cseq ?_
    refine cregion ?_
    refine sv rfl (opv_as rfl) ?_
    refine snil ?_
    refine cret ?_
    refine then_ret ?_
    obtain rfl := Option.some.inj h
    refine ⟨Or.inr rfl, _, _, _, (resVs_cons (ResV.tmp _ _ rfl) resVs_nil), (pubA_id rfl), ?_⟩
    rfl
  · replace h := ite_f hc h
    clear hc
    refine cskip ?_
    refine then_normal ?_
    refine cseq ?_
    refine cseq ?_
    refine cregion ?_
    refine sv rfl (opv_as rfl) ?_
    refine snil ?_
    refine cjoin (Unit) (fun b1 => []) (fun b1 => []) (fun b1 => m18_r10_Ints_k1 b1 = some r) (fun _ _ => inbL_of rfl) (fun _ _ => blkinb_of rfl) (fun _ _ => Nat.le_of_ble_eq_true rfl) (fun b1 h => ?_) ?_
    · unfold m18_r10_Ints_k1 at h
      refine cseq ?_
      refine cregion ?_
      refine sv rfl (opv_as rfl) ?_
      refine snil ?_
      refine cret ?_
      obtain rfl := Option.some.inj h
      refine ⟨Or.inr rfl, _, _, _, (resVs_cons (ResV.tmp _ _ rfl) resVs_nil), (pubA_id rfl), ?_⟩
      rfl
    · skip
      refine cblock ?_
      obtain ⟨x2, hx2, ho2⟩ := bind_eq h
      refine awc_loop (G := Nat × (Int)) (fun g => [(0, .s (.one (.sl a0.length (a0.flatMap eI)))), (1, .s (.one (.sl a1.length (a1.flatMap eI)))), (5, .s (.one (.i .i64 g.2)))]) (fun g => []) (fun g => iter (m18_r10_Ints_s2 a0 a1) g.1 g.2 = some x2) (fun g => g.1) (fuel, 0) hx2 ⟨rfl, rfl, rfl, trivial⟩ [] rfl (fun _ _ => inbL_of rfl) (fun _ _ => blkinb_of rfl) (fun _ _ => Nat.le_of_ble_eq_true rfl) ?_
      clear hx2 h
      rintro ⟨n2, s2⟩ h
      obtain ⟨n2, y2, rfl, h, hk2⟩ := iter_eq h
      unfold m18_r10_Ints_s2 at h
      refine cseq ?_
      refine cseq ?_
      refine cregion ?_
      refine sv rfl (opv_mv rfl) ?_
      refine sv rfl (opv_mv rfl) ?_
      refine sv rfl (opv_len_sl si28 rfl) ?_
      refine sv rfl (opv_lss rfl rfl) ?_
      refine snil ?_
      refine ccond rfl (fun hc => ?_) (fun hc => ?_)
      · replace h := ite_t hc h
        clear hc
        refine cskip ?_
        refine then_normal ?_
        refine cseq ?_
        refine cblock ?_
        refine cseq ?_
        refine cdraw mixed (by kernel_rfl) ?_
        refine dv rfl (opv_mv rfl) ?_
        refine dv rfl (opv_mv rfl) ?_
        obtain ⟨u3, hu3, h⟩ := bind_eq h
        refine dv rfl (opv_ix (f := eI) si28 (fun _ => rfl) rfl rfl rfl rfl hu3) ?_
        refine dv rfl (opv_load1 ti3 rfl (.cp _) rfl) ?_
        refine dv rfl (opv_mv rfl) ?_
        refine dv rfl (opv_mv rfl) ?_
        obtain ⟨u4, hu4, h⟩ := bind_eq h
        refine dv rfl (opv_ix (f := eI) si28 (fun _ => rfl) rfl rfl rfl rfl hu4) ?_
        refine dv rfl (opv_load1 ti3 rfl (.cp _) rfl) ?_
        refine dv rfl (opv_ineq rfl rfl) ?_
        refine dnil ?_
        refine then_normal ?_
        refine ccond rfl (fun hc => ?_) (fun hc => ?_)
        · replace h := ite_t hc h
          clear hc
          refine cseq ?_
          refine cregion ?_
          refine sv rfl (opv_as rfl) ?_
          refine snil ?_
          refine cret ?_
          refine block_ret ?_
          refine then_ret ?_
          refine then_ret ?_
          refine block_ret ?_
          refine then_ret ?_
          obtain rfl := Option.some.inj h
          obtain rfl : Sum.inl _ = x2 := hk2
          replace ho2 : some _ = some _ := ho2
          obtain rfl := Option.some.inj ho2
          refine ⟨Or.inr rfl, _, _, _, (resVs_cons (ResV.tmp _ _ rfl) resVs_nil), (pubA_id rfl), ?_⟩
          rfl
        · replace h := ite_f hc h
          clear hc
          refine cskip ?_
          refine block_normal ?_
          refine then_normal ?_
          refine cregion ?_
          refine sv rfl (opv_mv rfl) ?_
          refine sv rfl (opv_add rfl rfl) ?_
          refine sv rfl (opv_as rfl) ?_
          refine snil ?_
          obtain rfl := Option.some.inj h
          exact ⟨(n2, (wI (s2 + 1))), _, hk2, ⟨rfl, rfl, rfl, trivial⟩, rfl, Nat.lt_succ_self _⟩
      · replace h := ite_f hc h
        clear hc
        refine cexit ?_
        refine then_exit ?_
        refine then_exit ?_
        refine block_hit ?_
        refine then_normal ?_
        obtain rfl := Option.some.inj h
        obtain rfl : _ = x2 := hk2
        exact ⟨(), _, ho2, trivial, rfl⟩

def m67_slices_Index_k1 (b1 : Unit) : Option Int :=
  some (-1)

def m67_slices_Index_s2 (a0 : List Int) (a1 : Int) (s2 : Int) : Option (LR (Int) (Unit) (Int)) :=
  if (decide (s2 < (a0.length : Int))) then ((idx a0 s2).bind fun u3 => if (decide (a1 = u3)) then (some (.ret s2)) else (some (.cont (wI (s2 + 1))))) else (some (.brk ()))
def m67_slices_Index (a0 : List Int) (a1 : Int) : Option Int :=
  (iter (m67_slices_Index_s2 a0 a1) fuel 0).bind fun x => match x with | .inl r => some r | .inr e4 => m67_slices_Index_k1 e4

set_option maxRecDepth 100000 in
theorem m67_slices_Index_c {a0 : List Int} {a1 : Int} {r : Int} (h : m67_slices_Index a0 a1 = some r) : CallsA Try.prog 67 [.one (.sl a0.length (a0.flatMap eI)), .one (.i .i64 a1)] (· = .s (.one (.i .i64 r))) := by
  unfold m67_slices_Index at h
  refine callsA_of Try.func67 rfl (nt := 19) rfl (Nat.le_of_ble_eq_true rfl) ?_
  intro w0 S0
  refine cseq ?_
  refine cregion ?_
  refine sv rfl (opv_as rfl) ?_
  refine snil ?_
  refine cseq ?_
  refine cseq ?_
  refine cregion ?_
  refine sv rfl (opv_mv rfl) ?_
  refine sv rfl (opv_len_sl si28 rfl) ?_
  refine sv rfl (opv_mv rfl) ?_
  refine snil ?_
  refine cjoin (Unit) (fun b1 => []) (fun b1 => []) (fun b1 => m67_slices_Index_k1 b1 = some r) (fun _ _ => inbL_of rfl) (fun _ _ => blkinb_of rfl) (fun _ _ => Nat.le_of_ble_eq_true rfl) (fun b1 h => ?_) ?_
  · unfold m67_slices_Index_k1 at h
    refine cseq ?_
    refine cregion ?_
    refine sv rfl (opv_as rfl) ?_
    refine snil ?_
    refine cret ?_
    obtain rfl := Option.some.inj h
    refine ⟨Or.inr rfl, _, _, _, (resVs_cons (ResV.tmp _ _ rfl) resVs_nil), (pubA_id rfl), ?_⟩
    rfl
  · skip
    refine cblock ?_
    obtain ⟨x2, hx2, ho2⟩ := bind_eq h
    refine awc_loop (G := Nat × (Int)) (fun g => [(0, .s (.one (.sl a0.length (a0.flatMap eI)))), (1, .s (.one (.i .i64 a1))), (7, .s (.one (.i .i64 (a0.length : Int)))), (8, .s (.one (.i .i64 g.2)))]) (fun g => []) (fun g => iter (m67_slices_Index_s2 a0 a1) g.1 g.2 = some x2) (fun g => g.1) (fuel, 0) hx2 ⟨rfl, rfl, rfl, rfl, trivial⟩ [] rfl (fun _ _ => inbL_of rfl) (fun _ _ => blkinb_of rfl) (fun _ _ => Nat.le_of_ble_eq_true rfl) ?_
    clear hx2 h
    rintro ⟨n2, s2⟩ h
    obtain ⟨n2, y2, rfl, h, hk2⟩ := iter_eq h
    unfold m67_slices_Index_s2 at h
    refine cseq ?_
    refine cregion ?_
    refine sv rfl (opv_lss rfl rfl) ?_
    refine snil ?_
    refine cseq ?_
    refine ccond rfl (fun hc => ?_) (fun hc => ?_)
    · replace h := ite_t hc h
      clear hc
      refine cskip ?_
      refine then_normal ?_
      refine cseq ?_
      refine cblock ?_
      refine cseq ?_
      refine cregion ?_
      refine sv rfl (opv_mv rfl) ?_
      refine sv rfl (opv_as rfl) ?_
      refine snil ?_
      refine cseq ?_
      refine cregion ?_
      refine sv rfl (opv_mv rfl) ?_
      refine sv rfl (opv_mv rfl) ?_
      refine sv rfl (opv_mv rfl) ?_
      obtain ⟨u3, hu3, h⟩ := bind_eq h
      refine sv rfl (opv_ix (f := eI) si28 (fun _ => rfl) rfl rfl rfl rfl hu3) ?_
      refine sv rfl (opv_load1 ti3 rfl (.cp _) rfl) ?_
      refine sv rfl (opv_ieql rfl rfl) ?_
      refine snil ?_
      refine ccond rfl (fun hc => ?_) (fun hc => ?_)
      · replace h := ite_t hc h
        clear hc
        refine cseq ?_
        refine cregion ?_
        refine sv rfl (opv_mv rfl) ?_
        refine sv rfl (opv_as rfl) ?_
        refine snil ?_
        refine cret ?_
        refine block_ret ?_
        refine then_ret ?_
        refine then_ret ?_
        refine block_ret ?_
        refine then_ret ?_
        obtain rfl := Option.some.inj h
        obtain rfl : Sum.inl _ = x2 := hk2
        replace ho2 : some _ = some _ := ho2
        obtain rfl := Option.some.inj ho2
        refine ⟨Or.inr rfl, _, _, _, (resVs_cons (ResV.tmp _ _ rfl) resVs_nil), (pubA_id rfl), ?_⟩
        rfl
      · replace h := ite_f hc h
        clear hc
        refine cskip ?_
        refine block_normal ?_
        refine then_normal ?_
        refine cregion ?_
        refine sv rfl (opv_add rfl rfl) ?_
        refine sv rfl (opv_mv rfl) ?_
        refine snil ?_
        obtain rfl := Option.some.inj h
        exact ⟨(n2, (wI (s2 + 1))), _, hk2, ⟨rfl, rfl, rfl, rfl, trivial⟩, rfl, Nat.lt_succ_self _⟩
    · replace h := ite_f hc h
      clear hc
      refine cexit ?_
      refine then_exit ?_
      refine then_exit ?_
      refine block_hit ?_
      refine then_normal ?_
      obtain rfl := Option.some.inj h
      obtain rfl : _ = x2 := hk2
      exact ⟨(), _, ho2, trivial, rfl⟩

def m53_slices_Contains (a0 : List Int) (a1 : Int) : Option Bool :=
  (m67_slices_Index a0 a1).bind fun v1 => some (decide (0 ≤ v1))

set_option maxRecDepth 100000 in
theorem m53_slices_Contains_c {a0 : List Int} {a1 : Int} {r : Bool} (h : m53_slices_Contains a0 a1 = some r) : CallsA Try.prog 53 [.one (.sl a0.length (a0.flatMap eI)), .one (.i .i64 a1)] (· = .s (.one (.b r))) := by
  unfold m53_slices_Contains at h
  refine callsA_of Try.func53 rfl (nt := 9) rfl (Nat.le_of_ble_eq_true rfl) ?_
  intro w0 S0
  refine cseq ?_
  refine cregion ?_
  refine sv rfl (opv_as rfl) ?_
  refine snil ?_
  refine cseq ?_
  refine cregion ?_
  refine sv rfl (opv_mv rfl) ?_
  refine sv rfl (opv_mv rfl) ?_
  obtain ⟨v1, hv1, h⟩ := bind_eq h
  refine scall1 rfl fn67 (opnds_cons rfl (opnds_cons rfl opnds_nil)) (pubA_id rfl) (m67_slices_Index_c hv1) ?_
  refine sv rfl (opv_geq rfl rfl) ?_
  refine sv rfl (opv_as rfl) ?_
  refine snil ?_
  refine cret ?_
  obtain rfl := Option.some.inj h
  refine ⟨Or.inr rfl, _, _, _, (resVs_cons (ResV.tmp _ _ rfl) resVs_nil), (pubA_id rfl), ?_⟩
  rfl

def m41_reads_only_k1 (b1 : (List GReadsRead)) : Option GReadsTable :=
  some (GReadsTable.mk b1)

def m41_reads_only_s2 (a0 : GReadsTable) (a1 : List Int) (a2 : Bool) (s2 : Int × (List GReadsRead)) : Option (LB (Int × (List GReadsRead)) ((List GReadsRead))) :=
  if (decide (s2.1 < (a0.L.length : Int))) then ((idx a0.L s2.1).bind fun u3 => (m53_slices_Contains a1 u3.Tx).bind fun v4 => if (v4 == a2) then (if (s2.2.length + [(GReadsRead.mk u3.Tx (GApiRange.mk u3.Rng.Lo u3.Rng.Hi u3.Rng.Open))].length) * 64 ≤ 140737488355328 then (some (.cont ((wI (s2.1 + 1)), (s2.2 ++ [(GReadsRead.mk u3.Tx (GApiRange.mk u3.Rng.Lo u3.Rng.Hi u3.Rng.Open))])))) else none) else (some (.cont ((wI (s2.1 + 1)), s2.2)))) else (some (.brk s2.2))
def m41_reads_only (a0 : GReadsTable) (a1 : List Int) (a2 : Bool) : Option GReadsTable :=
  (iterB (m41_reads_only_s2 a0 a1 a2) fuel (0, ([] : List GReadsRead))).bind fun e6 => m41_reads_only_k1 e6

set_option maxRecDepth 100000 in
theorem m41_reads_only_c {a0 : GReadsTable} {a1 : List Int} {a2 : Bool} {r : GReadsTable} (h : m41_reads_only a0 a1 a2 = some r) : CallsA Try.prog 41 [.agg [.sl a0.L.length (a0.L.flatMap eGReadsRead)], .one (.sl a1.length (a1.flatMap eI)), .one (.b a2)] (· = .s (.agg [.sl r.L.length (r.L.flatMap eGReadsRead)])) := by
  unfold m41_reads_only at h
  refine callsA_of Try.func41 rfl (nt := 30) rfl (Nat.le_of_ble_eq_true rfl) ?_
  intro w0 S0
  refine cseq ?_
  refine cregion ?_
  refine sbox rfl rfl ?_
  refine salloc rfl zi34 ?_
  refine snil ?_
  refine cseq ?_
  refine cregion ?_
  refine sv rfl (opv_as rfl) ?_
  refine snil ?_
  refine cseq ?_
  refine cseq ?_
  refine cregion ?_
  refine sv rfl (opv_fieldAddr_lp fi34_0 rfl) ?_
  refine sv rfl (opv_load1 ti32 rfl (.lp _ _ _ rfl) rfl) ?_
  refine sv rfl (opv_len_sl si32 rfl) ?_
  refine sv rfl (opv_mv rfl) ?_
  refine snil ?_
  refine sadopt_c 63 4 7 (by decide) rfl ?_
  refine cjoin ((List GReadsRead)) (fun b1 => [(6, .s (.one (.lp 1 0))), (7, .s (.one (.ls 2 b1.length)))]) (fun b1 => [.box [.sl a0.L.length (a0.L.flatMap eGReadsRead)], .box [.raw (.slice none 0 0)], .arr 63 4 0 (b1.flatMap eGReadsRead)]) (fun b1 => m41_reads_only_k1 b1 = some r) (fun _ _ => inbL_of rfl) (fun _ _ => blkinb_of rfl) (fun _ _ => Nat.le_of_ble_eq_true rfl) (fun b1 h => ?_) ?_
  · unfold m41_reads_only_k1 at h
    refine cseq ?_
    refine cregion ?_
    refine sv rfl (opv_mv rfl) ?_
    refine sv rfl (opv_build zi34 pi34 (parts_cons rfl parts_nil) (.cons _ _ _ _ _ _ _ rfl rfl (Nat.le_of_ble_eq_true rfl) (.nil _))) ?_
    refine sstore sz34 rfl rfl rfl rfl (Nat.le_of_ble_eq_true rfl) ?_
    refine smem [.box [.sl a0.L.length (a0.L.flatMap eGReadsRead)], .box [.ls 2 b1.length], .arr 63 4 0 (b1.flatMap eGReadsRead)] rfl ?_
    refine snil ?_
    refine cret ?_
    obtain rfl := Option.some.inj h
    refine ⟨Or.inr rfl, _, _, _, (resVs_cons (ResV.agg _ _ _ _ _ ti34 rfl (.lp _ _ _ rfl) (Nat.le_of_ble_eq_true rfl)) resVs_nil), (by (repeat' first | exact PubA.nil _ | apply PubA.cons | apply PubV.one | apply PubV.agg | exact PubL.nil | exact PubL.ls _ _ _ _ _ _ rfl (flat_len (f := eGReadsRead) (fun _ => rfl) _).symm | exact PubL.id _ rfl | exact PubLs.nil _ | apply PubLs.cons)), ?_⟩
    rfl
  · skip
    refine cblock ?_
    obtain ⟨x2, hx2, ho2⟩ := bind_eq h
    refine awc_loop (G := Nat × (Int × (List GReadsRead))) (fun g => [(1, .s (.one (.sl a1.length (a1.flatMap eI)))), (2, .s (.one (.b a2))), (6, .s (.one (.lp 1 0))), (7, .s (.one (.ls 2 g.2.2.length))), (11, .s (.one (.sl a0.L.length (a0.L.flatMap eGReadsRead)))), (12, .s (.one (.i .i64 (a0.L.length : Int)))), (13, .s (.one (.i .i64 g.2.1)))]) (fun g => [.box [.sl a0.L.length (a0.L.flatMap eGReadsRead)], .box [.raw (.slice none 0 0)], .arr 63 4 0 (g.2.2.flatMap eGReadsRead)]) (fun g => iterB (m41_reads_only_s2 a0 a1 a2) g.1 g.2 = some x2) (fun g => g.1) (fuel, (0, ([] : List GReadsRead))) hx2 ⟨rfl, rfl, rfl, rfl, rfl, rfl, rfl, trivial⟩ [] rfl (fun _ _ => inbL_of rfl) (fun _ _ => blkinb_of rfl) (fun _ _ => Nat.le_of_ble_eq_true rfl) ?_
    clear hx2 h
    rintro ⟨n2, s2⟩ h
    obtain ⟨n2, y2, rfl, h, hk2⟩ := iterB_eq h
    unfold m41_reads_only_s2 at h
    refine cseq ?_
    refine cregion ?_
    refine sv rfl (opv_lss rfl rfl) ?_
    refine snil ?_
    refine cseq ?_
    refine ccond rfl (fun hc => ?_) (fun hc => ?_)
    · replace h := ite_t hc h
      clear hc
      refine cskip ?_
      refine then_normal ?_
      refine cseq ?_
      refine cblock ?_
      refine cseq ?_
      refine cregion ?_
      obtain ⟨u3, hu3, h⟩ := bind_eq h
      refine sv rfl (opv_ix (f := eGReadsRead) si32 (fun _ => rfl) rfl rfl rfl rfl hu3) ?_
      refine sv rfl (opv_loadNe (ys := [.i .i64 u3.Tx, .sl u3.Rng.Lo.length (u3.Rng.Lo.flatMap eU8), .sl u3.Rng.Hi.length (u3.Rng.Hi.flatMap eU8), .b u3.Rng.Open]) ti63 rfl (.cp _) rfl rfl) ?_
      refine salloc rfl zi63 ?_
      refine sstore sz63 rfl rfl rfl rfl (Nat.le_of_ble_eq_true rfl) ?_
      refine smem [.box [.sl a0.L.length (a0.L.flatMap eGReadsRead)], .box [.raw (.slice none 0 0)], .arr 63 4 0 (s2.2.flatMap eGReadsRead), .box u3] rfl ?_
      refine snil ?_
      refine cseq ?_
      refine cregion ?_
      refine sv rfl (opv_mv rfl) ?_
      refine sv rfl (opv_fieldAddr_lp fi63_0 rfl) ?_
      refine sv rfl (opv_load1 ti3 rfl (.lp _ _ _ rfl) rfl) ?_
      obtain ⟨v4, hv4, h⟩ := bind_eq h
      refine scall1 rfl fn53 (opnds_cons rfl (opnds_cons rfl opnds_nil)) (pubA_id rfl) (m53_slices_Contains_c hv4) ?_
      refine sv rfl (opv_mv rfl) ?_
      refine sv rfl (opv_beql Try.underlying4 rfl rfl) ?_
      refine snil ?_
      refine ccond rfl (fun hc => ?_) (fun hc => ?_)
      · replace h := ite_t hc h
        clear hc
        refine cregion ?_
        refine sv rfl (opv_mv rfl) ?_
        refine sv rfl (opv_loadN ti63 rfl (.lp _ _ _ rfl) (Nat.le_of_ble_eq_true rfl)) ?_
        refine sbuild1 rfl Try.underlying32 ei63 rfl rfl (List.all_eq_true.1 rfl) (by decide) ?_
        refine smem [.box [.sl a0.L.length (a0.L.flatMap eGReadsRead)], .box [.raw (.slice none 0 0)], .arr 63 4 0 (s2.2.flatMap eGReadsRead), .box u3, .arr 63 4 0 ([(GReadsRead.mk u3.Tx (GApiRange.mk u3.Rng.Lo u3.Rng.Hi u3.Rng.Open))].flatMap eGReadsRead)] rfl ?_
        obtain ⟨hb5, h⟩ := chk_eq h
        refine sapp (f := eGReadsRead) (xs := s2.2) (us := [(GReadsRead.mk u3.Tx (GApiRange.mk u3.Rng.Lo u3.Rng.Hi u3.Rng.Open))]) rfl Try.underlying32 ei63 ni32 (fun _ => rfl) rfl rfl (.one _ _ _ _ (.ls _ _ _ _ _ _ rfl (flat_len (f := eGReadsRead) (fun _ => rfl) [(GReadsRead.mk u3.Tx (GApiRange.mk u3.Rng.Lo u3.Rng.Hi u3.Rng.Open))]).symm)) rfl rfl rfl (.sl _ _ _ (flat_len (f := eGReadsRead) (fun _ => rfl) _)) rfl rfl hb5 (by decide) ?_
        refine sv rfl (opv_as rfl) ?_
        refine snil0 ?_
        refine block_normal ?_
        refine then_normal ?_
        refine cregion ?_
        refine sv rfl (opv_add rfl rfl) ?_
        refine sv rfl (opv_mv rfl) ?_
        refine snil ?_
        obtain rfl := Option.some.inj h
        exact ⟨(n2, ((wI (s2.1 + 1)), (s2.2 ++ [(GReadsRead.mk u3.Tx (GApiRange.mk u3.Rng.Lo u3.Rng.Hi u3.Rng.Open))]))), _, hk2, ⟨rfl, rfl, rfl, rfl, rfl, rfl, rfl, trivial⟩, rfl, Nat.lt_succ_self _⟩
      · replace h := ite_f hc h
        clear hc
        refine cskip ?_
        refine block_normal ?_
        refine then_normal ?_
        refine cregion ?_
        refine sv rfl (opv_add rfl rfl) ?_
        refine sv rfl (opv_mv rfl) ?_
        refine snil ?_
        obtain rfl := Option.some.inj h
        exact ⟨(n2, ((wI (s2.1 + 1)), s2.2)), _, hk2, ⟨rfl, rfl, rfl, rfl, rfl, rfl, rfl, trivial⟩, rfl, Nat.lt_succ_self _⟩
    · replace h := ite_f hc h
      clear hc
      refine cexit ?_
      refine then_exit ?_
      refine then_exit ?_
      refine block_hit ?_
      refine then_normal ?_
      obtain rfl := Option.some.inj h
      obtain rfl : _ = x2 := hk2
      exact ⟨s2.2, _, ho2, ⟨rfl, rfl, trivial⟩, rfl⟩

def m21_reads_Drop (a0 : GReadsTable) (a1 : List Int) : Option GReadsTable :=
  (m41_reads_only (GReadsTable.mk a0.L) a1 false).bind fun v1 => some v1

set_option maxRecDepth 100000 in
theorem m21_reads_Drop_c {a0 : GReadsTable} {a1 : List Int} {r : GReadsTable} (h : m21_reads_Drop a0 a1 = some r) : CallsA Try.prog 21 [.agg [.sl a0.L.length (a0.L.flatMap eGReadsRead)], .one (.sl a1.length (a1.flatMap eI))] (· = .s (.agg [.sl r.L.length (r.L.flatMap eGReadsRead)])) := by
  unfold m21_reads_Drop at h
  refine callsA_of Try.func21 rfl (nt := 8) rfl (Nat.le_of_ble_eq_true rfl) ?_
  intro w0 S0
  refine cseq ?_
  refine cregion ?_
  refine sbox rfl rfl ?_
  refine salloc rfl zi34 ?_
  refine snil ?_
  refine cseq ?_
  refine cregion ?_
  refine sv rfl (opv_loadN ti34 rfl (.lp _ _ _ rfl) (Nat.le_of_ble_eq_true rfl)) ?_
  refine sv rfl (opv_mv rfl) ?_
  obtain ⟨v1, hv1, h⟩ := bind_eq h
  refine scall1 rfl fn41 (opnds_cons rfl (opnds_cons rfl (opnds_cons rfl opnds_nil))) (pubA_id rfl) (m41_reads_only_c hv1) ?_
  refine sstore sz34 rfl rfl rfl rfl (Nat.le_of_ble_eq_true rfl) ?_
  refine smem [.box [.sl a0.L.length (a0.L.flatMap eGReadsRead)], .box [.sl v1.L.length (v1.L.flatMap eGReadsRead)]] rfl ?_
  refine snil ?_
  refine cret ?_
  obtain rfl := Option.some.inj h
  refine ⟨Or.inr rfl, _, _, _, (resVs_cons (ResV.agg _ _ _ _ _ ti34 rfl (.lp _ _ _ rfl) (Nat.le_of_ble_eq_true rfl)) resVs_nil), (pubA_id rfl), ?_⟩
  rfl

def m54_r10_among_k1 (b1 : Unit) : Option Bool :=
  some false

def m54_r10_among_s2 (a0 : Int) (a1 : List Int) (s2 : Int) : Option (LR (Int) (Unit) (Bool)) :=
  if (decide (s2 < (a1.length : Int))) then ((idx a1 s2).bind fun u3 => if (decide (u3 = a0)) then (some (.ret true)) else (some (.cont (wI (s2 + 1))))) else (some (.brk ()))
def m54_r10_among (a0 : Int) (a1 : List Int) : Option Bool :=
  (iter (m54_r10_among_s2 a0 a1) fuel 0).bind fun x => match x with | .inl r => some r | .inr e4 => m54_r10_among_k1 e4

set_option maxRecDepth 100000 in
theorem m54_r10_among_c {a0 : Int} {a1 : List Int} {r : Bool} (h : m54_r10_among a0 a1 = some r) : CallsA Try.prog 54 [.one (.i .i64 a0), .one (.sl a1.length (a1.flatMap eI))] (· = .s (.one (.b r))) := by
  unfold m54_r10_among at h
  refine callsA_of Try.func54 rfl (nt := 18) rfl (Nat.le_of_ble_eq_true rfl) ?_
  intro w0 S0
  refine cseq ?_
  refine cregion ?_
  refine sv rfl (opv_as rfl) ?_
  refine snil ?_
  refine cseq ?_
  refine cseq ?_
  refine cregion ?_
  refine sv rfl (opv_as rfl) ?_
  refine snil ?_
  refine cjoin (Unit) (fun b1 => []) (fun b1 => []) (fun b1 => m54_r10_among_k1 b1 = some r) (fun _ _ => inbL_of rfl) (fun _ _ => blkinb_of rfl) (fun _ _ => Nat.le_of_ble_eq_true rfl) (fun b1 h => ?_) ?_
  · unfold m54_r10_among_k1 at h
    refine cseq ?_
    refine cregion ?_
    refine sv rfl (opv_as rfl) ?_
    refine snil ?_
    refine cret ?_
    obtain rfl := Option.some.inj h
    refine ⟨Or.inr rfl, _, _, _, (resVs_cons (ResV.tmp _ _ rfl) resVs_nil), (pubA_id rfl), ?_⟩
    rfl
  · skip
    refine cblock ?_
    obtain ⟨x2, hx2, ho2⟩ := bind_eq h
    refine awc_loop (G := Nat × (Int)) (fun g => [(0, .s (.one (.i .i64 a0))), (1, .s (.one (.sl a1.length (a1.flatMap eI)))), (5, .s (.one (.i .i64 g.2)))]) (fun g => []) (fun g => iter (m54_r10_among_s2 a0 a1) g.1 g.2 = some x2) (fun g => g.1) (fuel, 0) hx2 ⟨rfl, rfl, rfl, trivial⟩ [] rfl (fun _ _ => inbL_of rfl) (fun _ _ => blkinb_of rfl) (fun _ _ => Nat.le_of_ble_eq_true rfl) ?_
    clear hx2 h
    rintro ⟨n2, s2⟩ h
    obtain ⟨n2, y2, rfl, h, hk2⟩ := iter_eq h
    unfold m54_r10_among_s2 at h
    refine cseq ?_
    refine cseq ?_
    refine cregion ?_
    refine sv rfl (opv_mv rfl) ?_
    refine sv rfl (opv_mv rfl) ?_
    refine sv rfl (opv_len_sl si28 rfl) ?_
    refine sv rfl (opv_lss rfl rfl) ?_
    refine snil ?_
    refine ccond rfl (fun hc => ?_) (fun hc => ?_)
    · replace h := ite_t hc h
      clear hc
      refine cskip ?_
      refine then_normal ?_
      refine cseq ?_
      refine cblock ?_
      refine cseq ?_
      refine cregion ?_
      refine sv rfl (opv_mv rfl) ?_
      refine sv rfl (opv_mv rfl) ?_
      obtain ⟨u3, hu3, h⟩ := bind_eq h
      refine sv rfl (opv_ix (f := eI) si28 (fun _ => rfl) rfl rfl rfl rfl hu3) ?_
      refine sv rfl (opv_load1 ti3 rfl (.cp _) rfl) ?_
      refine sv rfl (opv_mv rfl) ?_
      refine sv rfl (opv_ieql rfl rfl) ?_
      refine snil ?_
      refine ccond rfl (fun hc => ?_) (fun hc => ?_)
      · replace h := ite_t hc h
        clear hc
        refine cseq ?_
        refine cregion ?_
        refine sv rfl (opv_as rfl) ?_
        refine snil ?_
        refine cret ?_
        refine block_ret ?_
        refine then_ret ?_
        refine then_ret ?_
        refine block_ret ?_
        refine then_ret ?_
        obtain rfl := Option.some.inj h
        obtain rfl : Sum.inl _ = x2 := hk2
        replace ho2 : some _ = some _ := ho2
        obtain rfl := Option.some.inj ho2
        refine ⟨Or.inr rfl, _, _, _, (resVs_cons (ResV.tmp _ _ rfl) resVs_nil), (pubA_id rfl), ?_⟩
        rfl
      · replace h := ite_f hc h
        clear hc
        refine cskip ?_
        refine block_normal ?_
        refine then_normal ?_
        refine cregion ?_
        refine sv rfl (opv_mv rfl) ?_
        refine sv rfl (opv_add rfl rfl) ?_
        refine sv rfl (opv_as rfl) ?_
        refine snil ?_
        obtain rfl := Option.some.inj h
        exact ⟨(n2, (wI (s2 + 1))), _, hk2, ⟨rfl, rfl, rfl, trivial⟩, rfl, Nat.lt_succ_self _⟩
    · replace h := ite_f hc h
      clear hc
      refine cexit ?_
      refine then_exit ?_
      refine then_exit ?_
      refine block_hit ?_
      refine then_normal ?_
      obtain rfl := Option.some.inj h
      obtain rfl : _ = x2 := hk2
      exact ⟨(), _, ho2, trivial, rfl⟩

def m42_r10_filter_k1 (b1 : (List GR10Read)) : Option GR10Table :=
  some (GR10Table.mk b1)

def m42_r10_filter_s2 (a0 : GR10Table) (a1 : List Int) (a2 : Bool) (s2 : Int × (List GR10Read)) : Option (LB (Int × (List GR10Read)) ((List GR10Read))) :=
  if (decide (s2.1 < (a0.L.length : Int))) then ((idx a0.L s2.1).bind fun u3 => (m54_r10_among u3.Tx a1).bind fun v4 => if (v4 == a2) then ((idx a0.L s2.1).bind fun u5 => if (s2.2.length + [(GR10Read.mk u5.Tx (GApiRange.mk u5.Rng.Lo u5.Rng.Hi u5.Rng.Open))].length) * 64 ≤ 140737488355328 then (some (.cont ((wI (s2.1 + 1)), (s2.2 ++ [(GR10Read.mk u5.Tx (GApiRange.mk u5.Rng.Lo u5.Rng.Hi u5.Rng.Open))])))) else none) else (some (.cont ((wI (s2.1 + 1)), s2.2)))) else (some (.brk s2.2))
def m42_r10_filter (a0 : GR10Table) (a1 : List Int) (a2 : Bool) : Option GR10Table :=
  (iterB (m42_r10_filter_s2 a0 a1 a2) fuel (0, ([] : List GR10Read))).bind fun e7 => m42_r10_filter_k1 e7

set_option maxRecDepth 100000 in
theorem m42_r10_filter_c {a0 : GR10Table} {a1 : List Int} {a2 : Bool} {r : GR10Table} (h : m42_r10_filter a0 a1 a2 = some r) : CallsA Try.prog 42 [.agg [.sl a0.L.length (a0.L.flatMap eGR10Read)], .one (.sl a1.length (a1.flatMap eI)), .one (.b a2)] (· = .s (.agg [.sl r.L.length (r.L.flatMap eGR10Read)])) := by
  unfold m42_r10_filter at h
  refine callsA_of Try.func42 rfl (nt := 36) rfl (Nat.le_of_ble_eq_true rfl) ?_
  intro w0 S0
  refine cseq ?_
  refine cregion ?_
  refine sbox rfl rfl ?_
  refine salloc rfl zi24 ?_
  refine snil ?_
  refine cseq ?_
  refine cregion ?_
  refine sv rfl (opv_as rfl) ?_
  refine snil ?_
  refine cseq ?_
  refine cseq ?_
  refine cregion ?_
  refine sv rfl (opv_as rfl) ?_
  refine snil ?_
  refine sadopt_c 56 4 7 (by decide) rfl ?_
  refine cjoin ((List GR10Read)) (fun b1 => [(6, .s (.one (.lp 1 0))), (7, .s (.one (.ls 2 b1.length)))]) (fun b1 => [.box [.sl a0.L.length (a0.L.flatMap eGR10Read)], .box [.raw (.slice none 0 0)], .arr 56 4 0 (b1.flatMap eGR10Read)]) (fun b1 => m42_r10_filter_k1 b1 = some r) (fun _ _ => inbL_of rfl) (fun _ _ => blkinb_of rfl) (fun _ _ => Nat.le_of_ble_eq_true rfl) (fun b1 h => ?_) ?_
  · unfold m42_r10_filter_k1 at h
    refine cseq ?_
    refine cregion ?_
    refine sv rfl (opv_mv rfl) ?_
    refine sv rfl (opv_build zi24 pi24 (parts_cons rfl parts_nil) (.cons _ _ _ _ _ _ _ rfl rfl (Nat.le_of_ble_eq_true rfl) (.nil _))) ?_
    refine sstore sz24 rfl rfl rfl rfl (Nat.le_of_ble_eq_true rfl) ?_
    refine smem [.box [.sl a0.L.length (a0.L.flatMap eGR10Read)], .box [.ls 2 b1.length], .arr 56 4 0 (b1.flatMap eGR10Read)] rfl ?_
    refine snil ?_
    refine cret ?_
    obtain rfl := Option.some.inj h
    refine ⟨Or.inr rfl, _, _, _, (resVs_cons (ResV.agg _ _ _ _ _ ti24 rfl (.lp _ _ _ rfl) (Nat.le_of_ble_eq_true rfl)) resVs_nil), (by (repeat' first | exact PubA.nil _ | apply PubA.cons | apply PubV.one | apply PubV.agg | exact PubL.nil | exact PubL.ls _ _ _ _ _ _ rfl (flat_len (f := eGR10Read) (fun _ => rfl) _).symm | exact PubL.id _ rfl | exact PubLs.nil _ | apply PubLs.cons)), ?_⟩
    rfl
  · skip
    refine cblock ?_
    obtain ⟨x2, hx2, ho2⟩ := bind_eq h
    refine awc_loop (G := Nat × (Int × (List GR10Read))) (fun g => [(1, .s (.one (.sl a1.length (a1.flatMap eI)))), (2, .s (.one (.b a2))), (3, .s (.one (.lp 0 0))), (6, .s (.one (.lp 1 0))), (7, .s (.one (.ls 2 g.2.2.length))), (8, .s (.one (.i .i64 g.2.1)))]) (fun g => [.box [.sl a0.L.length (a0.L.flatMap eGR10Read)], .box [.raw (.slice none 0 0)], .arr 56 4 0 (g.2.2.flatMap eGR10Read)]) (fun g => iterB (m42_r10_filter_s2 a0 a1 a2) g.1 g.2 = some x2) (fun g => g.1) (fuel, (0, ([] : List GR10Read))) hx2 ⟨rfl, rfl, rfl, rfl, rfl, rfl, trivial⟩ [] rfl (fun _ _ => inbL_of rfl) (fun _ _ => blkinb_of rfl) (fun _ _ => Nat.le_of_ble_eq_true rfl) ?_
    clear hx2 h
    rintro ⟨n2, s2⟩ h
    obtain ⟨n2, y2, rfl, h, hk2⟩ := iterB_eq h
    unfold m42_r10_filter_s2 at h
    refine cseq ?_
    refine cseq ?_
    refine cregion ?_
    refine sv rfl (opv_mv rfl) ?_
    refine sv rfl (opv_fieldAddr_lp fi24_0 rfl) ?_
    refine sv rfl (opv_load1 ti22 rfl (.lp _ _ _ rfl) rfl) ?_
    refine sv rfl (opv_len_sl si22 rfl) ?_
    refine sv rfl (opv_lss rfl rfl) ?_
    refine snil ?_
    refine ccond rfl (fun hc => ?_) (fun hc => ?_)
    · replace h := ite_t hc h
      clear hc
      refine cskip ?_
      refine then_normal ?_
      refine cseq ?_
      refine cblock ?_
      refine cseq ?_
      refine cregion ?_
      refine sv rfl (opv_fieldAddr_lp fi24_0 rfl) ?_
      refine sv rfl (opv_load1 ti22 rfl (.lp _ _ _ rfl) rfl) ?_
      refine sv rfl (opv_mv rfl) ?_
      obtain ⟨u3, hu3, h⟩ := bind_eq h
      refine sv rfl (opv_ix (f := eGR10Read) si22 (fun _ => rfl) rfl rfl rfl rfl hu3) ?_
      refine sv rfl (opv_fieldAddr_cp fi56_0 rfl) ?_
      refine sv rfl (opv_load1 ti3 rfl (.cp _) rfl) ?_
      refine sv rfl (opv_mv rfl) ?_
      obtain ⟨v4, hv4, h⟩ := bind_eq h
      refine scall1 rfl fn54 (opnds_cons rfl (opnds_cons rfl opnds_nil)) (pubA_id rfl) (m54_r10_among_c hv4) ?_
      refine sv rfl (opv_mv rfl) ?_
      refine sv rfl (opv_beql Try.underlying4 rfl rfl) ?_
      refine snil ?_
      refine ccond rfl (fun hc => ?_) (fun hc => ?_)
      · replace h := ite_t hc h
        clear hc
        refine cregion ?_
        refine sv rfl (opv_mv rfl) ?_
        refine sv rfl (opv_fieldAddr_lp fi24_0 rfl) ?_
        refine sv rfl (opv_load1 ti22 rfl (.lp _ _ _ rfl) rfl) ?_
        refine sv rfl (opv_mv rfl) ?_
        obtain ⟨u5, hu5, h⟩ := bind_eq h
        refine sv rfl (opv_ix (f := eGR10Read) si22 (fun _ => rfl) rfl rfl rfl rfl hu5) ?_
        refine sv rfl (opv_loadNe (ys := [.i .i64 u5.Tx, .sl u5.Rng.Lo.length (u5.Rng.Lo.flatMap eU8), .sl u5.Rng.Hi.length (u5.Rng.Hi.flatMap eU8), .b u5.Rng.Open]) ti56 rfl (.cp _) rfl rfl) ?_
        refine sbuild1 rfl Try.underlying22 ei56 rfl rfl (List.all_eq_true.1 rfl) (by decide) ?_
        refine smem [.box [.sl a0.L.length (a0.L.flatMap eGR10Read)], .box [.raw (.slice none 0 0)], .arr 56 4 0 (s2.2.flatMap eGR10Read), .arr 56 4 0 ([(GR10Read.mk u5.Tx (GApiRange.mk u5.Rng.Lo u5.Rng.Hi u5.Rng.Open))].flatMap eGR10Read)] rfl ?_
        obtain ⟨hb6, h⟩ := chk_eq h
        refine sapp (f := eGR10Read) (xs := s2.2) (us := [(GR10Read.mk u5.Tx (GApiRange.mk u5.Rng.Lo u5.Rng.Hi u5.Rng.Open))]) rfl Try.underlying22 ei56 ni22 (fun _ => rfl) rfl rfl (.one _ _ _ _ (.ls _ _ _ _ _ _ rfl (flat_len (f := eGR10Read) (fun _ => rfl) [(GR10Read.mk u5.Tx (GApiRange.mk u5.Rng.Lo u5.Rng.Hi u5.Rng.Open))]).symm)) rfl rfl rfl (.sl _ _ _ (flat_len (f := eGR10Read) (fun _ => rfl) _)) rfl rfl hb6 (by decide) ?_
        refine sv rfl (opv_as rfl) ?_
        refine snil0 ?_
        refine block_normal ?_
        refine then_normal ?_
        refine cregion ?_
        refine sv rfl (opv_mv rfl) ?_
        refine sv rfl (opv_add rfl rfl) ?_
        refine sv rfl (opv_as rfl) ?_
        refine snil ?_
        obtain rfl := Option.some.inj h
        exact ⟨(n2, ((wI (s2.1 + 1)), (s2.2 ++ [(GR10Read.mk u5.Tx (GApiRange.mk u5.Rng.Lo u5.Rng.Hi u5.Rng.Open))]))), _, hk2, ⟨rfl, rfl, rfl, rfl, rfl, rfl, trivial⟩, rfl, Nat.lt_succ_self _⟩
      · replace h := ite_f hc h
        clear hc
        refine cskip ?_
        refine block_normal ?_
        refine then_normal ?_
        refine cregion ?_
        refine sv rfl (opv_mv rfl) ?_
        refine sv rfl (opv_add rfl rfl) ?_
        refine sv rfl (opv_as rfl) ?_
        refine snil ?_
        obtain rfl := Option.some.inj h
        exact ⟨(n2, ((wI (s2.1 + 1)), s2.2)), _, hk2, ⟨rfl, rfl, rfl, rfl, rfl, rfl, trivial⟩, rfl, Nat.lt_succ_self _⟩
    · replace h := ite_f hc h
      clear hc
      refine cexit ?_
      refine then_exit ?_
      refine then_exit ?_
      refine block_hit ?_
      refine then_normal ?_
      obtain rfl := Option.some.inj h
      obtain rfl : _ = x2 := hk2
      exact ⟨s2.2, _, ho2, ⟨rfl, rfl, trivial⟩, rfl⟩

def m22_r10_Drop (a0 : GR10Table) (a1 : List Int) : Option GR10Table :=
  (m42_r10_filter (GR10Table.mk a0.L) a1 false).bind fun v1 => some v1

set_option maxRecDepth 100000 in
theorem m22_r10_Drop_c {a0 : GR10Table} {a1 : List Int} {r : GR10Table} (h : m22_r10_Drop a0 a1 = some r) : CallsA Try.prog 22 [.agg [.sl a0.L.length (a0.L.flatMap eGR10Read)], .one (.sl a1.length (a1.flatMap eI))] (· = .s (.agg [.sl r.L.length (r.L.flatMap eGR10Read)])) := by
  unfold m22_r10_Drop at h
  refine callsA_of Try.func22 rfl (nt := 8) rfl (Nat.le_of_ble_eq_true rfl) ?_
  intro w0 S0
  refine cseq ?_
  refine cregion ?_
  refine sbox rfl rfl ?_
  refine salloc rfl zi24 ?_
  refine snil ?_
  refine cseq ?_
  refine cregion ?_
  refine sv rfl (opv_loadN ti24 rfl (.lp _ _ _ rfl) (Nat.le_of_ble_eq_true rfl)) ?_
  refine sv rfl (opv_mv rfl) ?_
  obtain ⟨v1, hv1, h⟩ := bind_eq h
  refine scall1 rfl fn42 (opnds_cons rfl (opnds_cons rfl (opnds_cons rfl opnds_nil))) (pubA_id rfl) (m42_r10_filter_c hv1) ?_
  refine sstore sz24 rfl rfl rfl rfl (Nat.le_of_ble_eq_true rfl) ?_
  refine smem [.box [.sl a0.L.length (a0.L.flatMap eGR10Read)], .box [.sl v1.L.length (v1.L.flatMap eGR10Read)]] rfl ?_
  refine snil ?_
  refine cret ?_
  obtain rfl := Option.some.inj h
  refine ⟨Or.inr rfl, _, _, _, (resVs_cons (ResV.agg _ _ _ _ _ ti24 rfl (.lp _ _ _ rfl) (Nat.le_of_ble_eq_true rfl)) resVs_nil), (pubA_id rfl), ?_⟩
  rfl

def m23_reads_Keep (a0 : GReadsTable) (a1 : List Int) : Option GReadsTable :=
  (m41_reads_only a0 a1 true).bind fun v1 => some v1

set_option maxRecDepth 100000 in
theorem m23_reads_Keep_c {a0 : GReadsTable} {a1 : List Int} {r : GReadsTable} (h : m23_reads_Keep a0 a1 = some r) : CallsA Try.prog 23 [.agg [.sl a0.L.length (a0.L.flatMap eGReadsRead)], .one (.sl a1.length (a1.flatMap eI))] (· = .s (.agg [.sl r.L.length (r.L.flatMap eGReadsRead)])) := by
  unfold m23_reads_Keep at h
  refine callsA_of Try.func23 rfl (nt := 8) rfl (Nat.le_of_ble_eq_true rfl) ?_
  intro w0 S0
  refine cseq ?_
  refine cregion ?_
  refine sbox rfl rfl ?_
  refine salloc rfl zi34 ?_
  refine snil ?_
  refine cseq ?_
  refine cregion ?_
  refine sv rfl (opv_loadN ti34 rfl (.lp _ _ _ rfl) (Nat.le_of_ble_eq_true rfl)) ?_
  refine sv rfl (opv_mv rfl) ?_
  obtain ⟨v1, hv1, h⟩ := bind_eq h
  refine scall1 rfl fn41 (opnds_cons rfl (opnds_cons rfl (opnds_cons rfl opnds_nil))) (pubA_id rfl) (m41_reads_only_c hv1) ?_
  refine sstore sz34 rfl rfl rfl rfl (Nat.le_of_ble_eq_true rfl) ?_
  refine smem [.box [.sl a0.L.length (a0.L.flatMap eGReadsRead)], .box [.sl v1.L.length (v1.L.flatMap eGReadsRead)]] rfl ?_
  refine snil ?_
  refine cret ?_
  obtain rfl := Option.some.inj h
  refine ⟨Or.inr rfl, _, _, _, (resVs_cons (ResV.agg _ _ _ _ _ ti34 rfl (.lp _ _ _ rfl) (Nat.le_of_ble_eq_true rfl)) resVs_nil), (pubA_id rfl), ?_⟩
  rfl

end Go.Proofs.Ytkbkpafidgfhdaa.Abs
