/-
  t
-/
import Derived.Test.YtoajiidocnoopaaAbsD
import Derived.Test.YtoajiidocnoopaaProg
namespace Go.Proofs.Ytoajiidocnoopaa.Abs
open Go.RowKit Go.Proofs
structure GApiRange where
  Lo : List UInt8
  Hi : List UInt8
  Open : Bool
def eGApiRange (x : GApiRange) : List Lf := [.sl x.Lo.length (x.Lo.flatMap eU8), .sl x.Hi.length (x.Hi.flatMap eU8), .b x.Open]

structure GApiWrite where
  Key : List UInt8
  Val : List UInt8
  Del : Bool
def eGApiWrite (x : GApiWrite) : List Lf := [.sl x.Key.length (x.Key.flatMap eU8), .sl x.Val.length (x.Val.flatMap eU8), .b x.Del]

structure GR24Tx where
  Token : Int
  Snap : Int
  Ts : Int
  Reads : List GApiRange
  Writes : List GApiWrite
def eGR24Tx (x : GR24Tx) : List Lf := [.i .i64 x.Token, .i .i64 x.Snap, .i .i64 x.Ts, .sl x.Reads.length (x.Reads.flatMap eGApiRange), .sl x.Writes.length (x.Writes.flatMap eGApiWrite)]

structure GSerialTx where
  Token : Int
  Snap : Int
  Ts : Int
  Reads : List GApiRange
  Writes : List GApiWrite
def eGSerialTx (x : GSerialTx) : List Lf := [.i .i64 x.Token, .i .i64 x.Snap, .i .i64 x.Ts, .sl x.Reads.length (x.Reads.flatMap eGApiRange), .sl x.Writes.length (x.Writes.flatMap eGApiWrite)]

theorem zi46 : ZI Try.prog 46 ([.raw (.slice none 0 0), .raw (.slice none 0 0), .b false]) := zi_of (by kernel_rfl)
theorem ei5 : EI Try.prog 5 1 1 [.i .u8 0] := ei_of (by kernel_rfl) (by decide)
theorem ni37 : NI Try.prog 37 := ⟨.inl ⟨_, Try.underlying37⟩⟩
theorem pi46 : PI Try.prog 46 [(0, 1), (1, 1), (2, 1)] := pi_of Try.underlying46 (by kernel_rfl) (by kernel_rfl)
theorem sz46 : (Try.prog.info? 46).map (·.size) = some 3 := by kernel_rfl
theorem ti46 : TI Try.prog 46 true 3 := ⟨⟨_, Try.underlying46, rfl⟩, by kernel_rfl⟩
theorem fn25 : FnI Try.prog 25 := ⟨⟨_, Try.func25, by kernel_rfl, by kernel_rfl⟩⟩
theorem ei46 : EI Try.prog 46 3 56 [.raw (.slice none 0 0), .raw (.slice none 0 0), .b false] := ei_of (by kernel_rfl) (by decide)
theorem fn12 : FnI Try.prog 12 := ⟨⟨_, Try.func12, by kernel_rfl, by kernel_rfl⟩⟩
theorem zi39 : ZI Try.prog 39 ([.raw (.slice none 0 0), .raw (.slice none 0 0), .b false]) := zi_of (by kernel_rfl)
theorem pi39 : PI Try.prog 39 [(0, 1), (1, 1), (2, 1)] := pi_of Try.underlying39 (by kernel_rfl) (by kernel_rfl)
theorem ei39 : EI Try.prog 39 3 56 [.raw (.slice none 0 0), .raw (.slice none 0 0), .b false] := ei_of (by kernel_rfl) (by decide)
theorem zi35 : ZI Try.prog 35 ([.i .i64 0, .i .i64 0, .i .i64 0, .raw (.slice none 0 0), .raw (.slice none 0 0)]) := zi_of (by kernel_rfl)
theorem pi35 : PI Try.prog 35 [(0, 1), (1, 1), (2, 1), (3, 1), (4, 1)] := pi_of Try.underlying35 (by kernel_rfl) (by kernel_rfl)
theorem sz35 : (Try.prog.info? 35).map (·.size) = some 5 := by kernel_rfl
theorem ti35 : TI Try.prog 35 true 5 := ⟨⟨_, Try.underlying35, rfl⟩, by kernel_rfl⟩
theorem ei35 : EI Try.prog 35 5 72 [.i .i64 0, .i .i64 0, .i .i64 0, .raw (.slice none 0 0), .raw (.slice none 0 0)] := ei_of (by kernel_rfl) (by decide)
theorem ti26 : TI Try.prog 26 false 1 := ⟨⟨_, Try.underlying26, rfl⟩, by kernel_rfl⟩
theorem si26 : SI Try.prog 26 35 5 := ⟨Try.underlying26, by kernel_rfl, by decide⟩
theorem fi35_4 : FI Try.prog 35 4 4 := ⟨⟨_, _, 1, Try.underlying35, rfl, rfl, by kernel_rfl, by decide⟩⟩
theorem ti33 : TI Try.prog 33 false 1 := ⟨⟨_, Try.underlying33, rfl⟩, by kernel_rfl⟩
theorem si33 : SI Try.prog 33 39 3 := ⟨Try.underlying33, by kernel_rfl, by decide⟩
theorem ti39 : TI Try.prog 39 true 3 := ⟨⟨_, Try.underlying39, rfl⟩, by kernel_rfl⟩
theorem sz39 : (Try.prog.info? 39).map (·.size) = some 3 := by kernel_rfl
theorem fi39_0 : FI Try.prog 39 0 0 := ⟨⟨_, _, 1, Try.underlying39, rfl, rfl, by kernel_rfl, by decide⟩⟩
theorem ti37 : TI Try.prog 37 false 1 := ⟨⟨_, Try.underlying37, rfl⟩, by kernel_rfl⟩
theorem si37 : SI Try.prog 37 5 1 := ⟨Try.underlying37, by kernel_rfl, by decide⟩
theorem fn40 : FnI Try.prog 40 := ⟨⟨_, Try.func40, by kernel_rfl, by kernel_rfl⟩⟩
theorem fi39_1 : FI Try.prog 39 1 1 := ⟨⟨_, _, 1, Try.underlying39, rfl, rfl, by kernel_rfl, by decide⟩⟩
theorem fi39_2 : FI Try.prog 39 2 2 := ⟨⟨_, _, 1, Try.underlying39, rfl, rfl, by kernel_rfl, by decide⟩⟩
theorem ti4 : TI Try.prog 4 false 1 := ⟨⟨_, Try.underlying4, rfl⟩, by kernel_rfl⟩
theorem fn26 : FnI Try.prog 26 := ⟨⟨_, Try.func26, by kernel_rfl, by kernel_rfl⟩⟩
theorem ei37 : EI Try.prog 37 1 24 [.raw (.slice none 0 0)] := ei_of (by kernel_rfl) (by decide)
theorem ni56 : NI Try.prog 56 := ⟨.inl ⟨_, Try.underlying56⟩⟩
theorem fi35_3 : FI Try.prog 35 3 3 := ⟨⟨_, _, 1, Try.underlying35, rfl, rfl, by kernel_rfl, by decide⟩⟩
theorem ti32 : TI Try.prog 32 false 1 := ⟨⟨_, Try.underlying32, rfl⟩, by kernel_rfl⟩
theorem si32 : SI Try.prog 32 46 3 := ⟨Try.underlying32, by kernel_rfl, by decide⟩
theorem fi46_0 : FI Try.prog 46 0 0 := ⟨⟨_, _, 1, Try.underlying46, rfl, rfl, by kernel_rfl, by decide⟩⟩
theorem fi46_1 : FI Try.prog 46 1 1 := ⟨⟨_, _, 1, Try.underlying46, rfl, rfl, by kernel_rfl, by decide⟩⟩
theorem fi46_2 : FI Try.prog 46 2 2 := ⟨⟨_, _, 1, Try.underlying46, rfl, rfl, by kernel_rfl, by decide⟩⟩
theorem fn27 : FnI Try.prog 27 := ⟨⟨_, Try.func27, by kernel_rfl, by kernel_rfl⟩⟩
theorem fi35_1 : FI Try.prog 35 1 1 := ⟨⟨_, _, 1, Try.underlying35, rfl, rfl, by kernel_rfl, by decide⟩⟩
theorem ti3 : TI Try.prog 3 false 1 := ⟨⟨_, Try.underlying3, rfl⟩, by kernel_rfl⟩
theorem fi35_2 : FI Try.prog 35 2 2 := ⟨⟨_, _, 1, Try.underlying35, rfl, rfl, by kernel_rfl, by decide⟩⟩
theorem si56 : SI Try.prog 56 37 1 := ⟨Try.underlying56, by kernel_rfl, by decide⟩
theorem mixed : Try.prog.follows .mixedOrders = true := by kernel_rfl
theorem xi49 : XI Try.prog 49 Extern.BytealgCompare.compare := ⟨⟨Try.f49, Try.func49, by kernel_rfl, by kernel_rfl, by kernel_rfl, by kernel_rfl⟩⟩
theorem fn46 : FnI Try.prog 46 := ⟨⟨_, Try.func46, by kernel_rfl, by kernel_rfl⟩⟩
theorem fn41 : FnI Try.prog 41 := ⟨⟨_, Try.func41, by kernel_rfl, by kernel_rfl⟩⟩
theorem fn28 : FnI Try.prog 28 := ⟨⟨_, Try.func28, by kernel_rfl, by kernel_rfl⟩⟩
theorem fn16 : FnI Try.prog 16 := ⟨⟨_, Try.func16, by kernel_rfl, by kernel_rfl⟩⟩
theorem si48 : SI Try.prog 48 35 5 := ⟨Try.underlying48, by kernel_rfl, by decide⟩
theorem fi35_0 : FI Try.prog 35 0 0 := ⟨⟨_, _, 1, Try.underlying35, rfl, rfl, by kernel_rfl, by decide⟩⟩
theorem fn15 : FnI Try.prog 15 := ⟨⟨_, Try.func15, by kernel_rfl, by kernel_rfl⟩⟩
theorem fn42 : FnI Try.prog 42 := ⟨⟨_, Try.func42, by kernel_rfl, by kernel_rfl⟩⟩
theorem fn29 : FnI Try.prog 29 := ⟨⟨_, Try.func29, by kernel_rfl, by kernel_rfl⟩⟩
theorem fn17 : FnI Try.prog 17 := ⟨⟨_, Try.func17, by kernel_rfl, by kernel_rfl⟩⟩
theorem fn8 : FnI Try.prog 8 := ⟨⟨_, Try.func8, by kernel_rfl, by kernel_rfl⟩⟩
theorem zi50 : ZI Try.prog 50 ([.raw (.slice none 0 0)]) := zi_of (by kernel_rfl)
theorem ti50 : TI Try.prog 50 false 1 := ⟨⟨_, Try.underlying50, rfl⟩, by kernel_rfl⟩
theorem ei3 : EI Try.prog 3 1 8 [.i .i64 0] := ei_of (by kernel_rfl) (by decide)
theorem ni50 : NI Try.prog 50 := ⟨.inl ⟨_, Try.underlying50⟩⟩
theorem sz50 : (Try.prog.info? 50).map (·.size) = some 1 := by kernel_rfl
theorem si50 : SI Try.prog 50 3 1 := ⟨Try.underlying50, by kernel_rfl, by decide⟩
theorem si62 : SI Try.prog 62 39 3 := ⟨Try.underlying62, by kernel_rfl, by decide⟩
theorem fn35 : FnI Try.prog 35 := ⟨⟨_, Try.func35, by kernel_rfl, by kernel_rfl⟩⟩
theorem fn34 : FnI Try.prog 34 := ⟨⟨_, Try.func34, by kernel_rfl, by kernel_rfl⟩⟩
theorem fn47 : FnI Try.prog 47 := ⟨⟨_, Try.func47, by kernel_rfl, by kernel_rfl⟩⟩
theorem fn44 : FnI Try.prog 44 := ⟨⟨_, Try.func44, by kernel_rfl, by kernel_rfl⟩⟩
theorem fn32 : FnI Try.prog 32 := ⟨⟨_, Try.func32, by kernel_rfl, by kernel_rfl⟩⟩
theorem fn33 : FnI Try.prog 33 := ⟨⟨_, Try.func33, by kernel_rfl, by kernel_rfl⟩⟩
theorem fn23 : FnI Try.prog 23 := ⟨⟨_, Try.func23, by kernel_rfl, by kernel_rfl⟩⟩
theorem si65 : SI Try.prog 65 46 3 := ⟨Try.underlying65, by kernel_rfl, by decide⟩
theorem fn39 : FnI Try.prog 39 := ⟨⟨_, Try.func39, by kernel_rfl, by kernel_rfl⟩⟩
theorem fn38 : FnI Try.prog 38 := ⟨⟨_, Try.func38, by kernel_rfl, by kernel_rfl⟩⟩
theorem fn48 : FnI Try.prog 48 := ⟨⟨_, Try.func48, by kernel_rfl, by kernel_rfl⟩⟩
theorem fn45 : FnI Try.prog 45 := ⟨⟨_, Try.func45, by kernel_rfl, by kernel_rfl⟩⟩
theorem fn37 : FnI Try.prog 37 := ⟨⟨_, Try.func37, by kernel_rfl, by kernel_rfl⟩⟩
theorem fn36 : FnI Try.prog 36 := ⟨⟨_, Try.func36, by kernel_rfl, by kernel_rfl⟩⟩
theorem fn24 : FnI Try.prog 24 := ⟨⟨_, Try.func24, by kernel_rfl, by kernel_rfl⟩⟩
theorem fn11 : FnI Try.prog 11 := ⟨⟨_, Try.func11, by kernel_rfl, by kernel_rfl⟩⟩
theorem fn21 : FnI Try.prog 21 := ⟨⟨_, Try.func21, by kernel_rfl, by kernel_rfl⟩⟩
theorem fn30 : FnI Try.prog 30 := ⟨⟨_, Try.func30, by kernel_rfl, by kernel_rfl⟩⟩
theorem fn18 : FnI Try.prog 18 := ⟨⟨_, Try.func18, by kernel_rfl, by kernel_rfl⟩⟩
theorem fn20 : FnI Try.prog 20 := ⟨⟨_, Try.func20, by kernel_rfl, by kernel_rfl⟩⟩
theorem fn19 : FnI Try.prog 19 := ⟨⟨_, Try.func19, by kernel_rfl, by kernel_rfl⟩⟩
theorem ni28 : NI Try.prog 28 := ⟨.inl ⟨_, Try.underlying28⟩⟩
theorem ei50 : EI Try.prog 50 1 24 [.raw (.slice none 0 0)] := ei_of (by kernel_rfl) (by decide)
theorem si71 : SI Try.prog 71 50 1 := ⟨Try.underlying71, by kernel_rfl, by decide⟩
theorem fn43 : FnI Try.prog 43 := ⟨⟨_, Try.func43, by kernel_rfl, by kernel_rfl⟩⟩
theorem fn31 : FnI Try.prog 31 := ⟨⟨_, Try.func31, by kernel_rfl, by kernel_rfl⟩⟩
theorem fn22 : FnI Try.prog 22 := ⟨⟨_, Try.func22, by kernel_rfl, by kernel_rfl⟩⟩
theorem fn10 : FnI Try.prog 10 := ⟨⟨_, Try.func10, by kernel_rfl, by kernel_rfl⟩⟩
theorem sz3 : (Try.prog.info? 3).map (·.size) = some 1 := by kernel_rfl
theorem si28 : SI Try.prog 28 3 1 := ⟨Try.underlying28, by kernel_rfl, by decide⟩
theorem fn6 : FnI Try.prog 6 := ⟨⟨_, Try.func6, by kernel_rfl, by kernel_rfl⟩⟩
theorem si22 : SI Try.prog 22 36 5 := ⟨Try.underlying22, by kernel_rfl, by decide⟩
theorem fi36_3 : FI Try.prog 36 3 3 := ⟨⟨_, _, 1, Try.underlying36, rfl, rfl, by kernel_rfl, by decide⟩⟩
theorem fi36_4 : FI Try.prog 36 4 4 := ⟨⟨_, _, 1, Try.underlying36, rfl, rfl, by kernel_rfl, by decide⟩⟩
theorem fn13 : FnI Try.prog 13 := ⟨⟨_, Try.func13, by kernel_rfl, by kernel_rfl⟩⟩
theorem fn14 : FnI Try.prog 14 := ⟨⟨_, Try.func14, by kernel_rfl, by kernel_rfl⟩⟩
theorem fn7 : FnI Try.prog 7 := ⟨⟨_, Try.func7, by kernel_rfl, by kernel_rfl⟩⟩
theorem ti36 : TI Try.prog 36 true 5 := ⟨⟨_, Try.underlying36, rfl⟩, by kernel_rfl⟩
theorem zi36 : ZI Try.prog 36 ([.i .i64 0, .i .i64 0, .i .i64 0, .raw (.slice none 0 0), .raw (.slice none 0 0)]) := zi_of (by kernel_rfl)
theorem sz36 : (Try.prog.info? 36).map (·.size) = some 5 := by kernel_rfl
theorem fi36_0 : FI Try.prog 36 0 0 := ⟨⟨_, _, 1, Try.underlying36, rfl, rfl, by kernel_rfl, by decide⟩⟩
theorem fi36_1 : FI Try.prog 36 1 1 := ⟨⟨_, _, 1, Try.underlying36, rfl, rfl, by kernel_rfl, by decide⟩⟩
theorem fi36_2 : FI Try.prog 36 2 2 := ⟨⟨_, _, 1, Try.underlying36, rfl, rfl, by kernel_rfl, by decide⟩⟩
theorem ni26 : NI Try.prog 26 := ⟨.inl ⟨_, Try.underlying26⟩⟩
theorem fn9 : FnI Try.prog 9 := ⟨⟨_, Try.func9, by kernel_rfl, by kernel_rfl⟩⟩
theorem ei36 : EI Try.prog 36 5 72 [.i .i64 0, .i .i64 0, .i .i64 0, .raw (.slice none 0 0), .raw (.slice none 0 0)] := ei_of (by kernel_rfl) (by decide)

def m25_r06_One (a0 : List UInt8) : Option GApiRange :=
  if (([] : List UInt8).length + a0.length) * 1 ≤ 140737488355328 then (if ((([] : List UInt8) ++ a0).length + [(UInt8.ofBitVec (0#8))].length) * 1 ≤ 140737488355328 then (some (GApiRange.mk a0 ((([] : List UInt8) ++ a0) ++ [(UInt8.ofBitVec (0#8))]) false)) else none) else none

set_option maxRecDepth 100000 in
theorem m25_r06_One_c {a0 : List UInt8} {r : GApiRange} (h : m25_r06_One a0 = some r) : CallsA Try.prog 25 [.one (.sl a0.length (a0.flatMap eU8))] (· = .s (.agg [.sl r.Lo.length (r.Lo.flatMap eU8), .sl r.Hi.length (r.Hi.flatMap eU8), .b r.Open])) := by
  unfold m25_r06_One at h
  refine callsA_of Try.func25 rfl (nt := 13) rfl (Nat.le_of_ble_eq_true rfl) ?_
  intro w0 S0
  refine cseq ?_
  refine cregion ?_
  refine salloc rfl zi46 ?_
  refine snil ?_
  refine cseq ?_
  refine cregion ?_
  refine sbuild0 rfl Try.underlying37 ei5 ?_
  refine sv rfl (opv_mv rfl) ?_
  obtain ⟨hb1, h⟩ := chk_eq h
  refine sapp (f := eU8) (xs := ([] : List UInt8)) (us := a0) rfl Try.underlying37 ei5 ni37 (fun _ => rfl) rfl rfl (.one _ _ _ _ (.id _ rfl)) rfl rfl rfl (.sl _ _ _ (flat_len (f := eU8) (fun _ => rfl) _)) rfl rfl hb1 (by decide) ?_
  refine sv rfl (opv_as rfl) ?_
  refine snil ?_
  refine cseq ?_
  refine cregion ?_
  refine sv rfl (opv_mv rfl) ?_
  refine sbuild1 rfl Try.underlying37 ei5 rfl rfl (List.all_eq_true.1 rfl) (by decide) ?_
  refine smem [.box [.raw (.slice none 0 0), .raw (.slice none 0 0), .b false], .arr 5 1 0 ((([] : List UInt8) ++ a0).flatMap eU8), .arr 5 1 0 ([(UInt8.ofBitVec (0#8))].flatMap eU8)] rfl ?_
  obtain ⟨hb2, h⟩ := chk_eq h
  refine sapp (f := eU8) (xs := (([] : List UInt8) ++ a0)) (us := [(UInt8.ofBitVec (0#8))]) rfl Try.underlying37 ei5 ni37 (fun _ => rfl) rfl rfl (.one _ _ _ _ (.ls _ _ _ _ _ _ rfl (flat_len (f := eU8) (fun _ => rfl) [(UInt8.ofBitVec (0#8))]).symm)) rfl rfl rfl (.sl _ _ _ (flat_len (f := eU8) (fun _ => rfl) _)) rfl rfl hb2 (by decide) ?_
  refine sv rfl (opv_as rfl) ?_
  refine snil ?_
  refine cseq ?_
  refine cregion ?_
  refine sv rfl (opv_mv rfl) ?_
  refine sv rfl (opv_mv rfl) ?_
  refine sv rfl (opv_build zi46 pi46 (parts_cons rfl (parts_cons rfl parts_nil)) (.cons _ _ _ _ _ _ _ rfl rfl (Nat.le_of_ble_eq_true rfl) (.cons _ _ _ _ _ _ _ rfl rfl (Nat.le_of_ble_eq_true rfl) (.nil _)))) ?_
  refine sstore sz46 rfl rfl rfl rfl (Nat.le_of_ble_eq_true rfl) ?_
  refine smem [.box [.sl a0.length (a0.flatMap eU8), .ls 1 ((([] : List UInt8) ++ a0) ++ [(UInt8.ofBitVec (0#8))]).length, .b false], .arr 5 1 0 (((([] : List UInt8) ++ a0) ++ [(UInt8.ofBitVec (0#8))]).flatMap eU8), .arr 5 1 ([(UInt8.ofBitVec (0#8))].flatMap eU8).length ([(UInt8.ofBitVec (0#8))].flatMap eU8)] rfl ?_
  refine snil ?_
  refine cret ?_
  obtain rfl := Option.some.inj h
  refine ⟨Or.inr rfl, _, _, _, (resVs_cons (ResV.agg _ _ _ _ _ ti46 rfl (.lp _ _ _ rfl) (Nat.le_of_ble_eq_true rfl)) resVs_nil), (by (repeat' first | exact PubA.nil _ | apply PubA.cons | apply PubV.one | apply PubV.agg | exact PubL.nil | exact PubL.ls _ _ _ _ _ _ rfl (flat_len (f := eU8) (fun _ => rfl) _).symm | exact PubL.id _ rfl | exact PubLs.nil _ | apply PubLs.cons)), ?_⟩
  rfl

def m12_l24_key (a0 : List UInt8) : Option (List GApiRange) :=
  if a0.length ≤ 140737488355328 then ((m25_r06_One a0).bind fun v2 => some [v2]) else none

set_option maxRecDepth 100000 in
theorem m12_l24_key_c {a0 : List UInt8} {r : (List GApiRange)} (h : m12_l24_key a0 = some r) : CallsA Try.prog 12 [.one (.s ⟨a0.toArray⟩)] (· = .s (.one (.sl r.length (r.flatMap eGApiRange)))) := by
  unfold m12_l24_key at h
  refine callsA_of Try.func12 rfl (nt := 7) rfl (Nat.le_of_ble_eq_true rfl) ?_
  intro w0 S0
  refine cseq ?_
  refine cregion ?_
  refine sv rfl (opv_as rfl) ?_
  refine snil ?_
  refine cseq ?_
  refine cregion ?_
  refine sv rfl (opv_mv rfl) ?_
  obtain ⟨hm1, h⟩ := chk_eq h
  refine sd rfl (opD_sb (l := a0) Try.underlying9 Try.underlying37 Try.underlying5 rfl hm1) ?_
  obtain ⟨v2, hv2, h⟩ := bind_eq h
  refine scall1 rfl fn25 (opnds_cons rfl opnds_nil) (pubA_id rfl) (m25_r06_One_c hv2) ?_
  refine sbuild1 rfl Try.underlying32 ei46 rfl rfl (List.all_eq_true.1 rfl) (by decide) ?_
  refine smem [.arr 46 3 0 ([v2].flatMap eGApiRange)] rfl ?_
  refine sv rfl (opv_as rfl) ?_
  refine snil ?_
  refine cret ?_
  obtain rfl := Option.some.inj h
  refine ⟨Or.inr rfl, _, _, _, (resVs_cons (ResV.tmp _ _ rfl) resVs_nil), (by (repeat' first | exact PubA.nil _ | apply PubA.cons | apply PubV.one | apply PubV.agg | exact PubL.nil | exact PubL.ls _ _ _ _ _ _ rfl (flat_len (f := eGApiRange) (fun _ => rfl) ([v2] : List GApiRange)).symm | exact PubL.ls _ _ _ _ _ _ rfl (flat_len (f := eGApiRange) (fun _ => rfl) _).symm | exact PubL.id _ rfl | exact PubLs.nil _ | apply PubLs.cons)), ?_⟩
  rfl

def m40_keys_Sane (a0 : List UInt8) : Option Bool :=
  if (decide (1 ≤ (a0.length : Int))) then (some (decide ((a0.length : Int) ≤ 16))) else (some false)

set_option maxRecDepth 100000 in
theorem m40_keys_Sane_c {a0 : List UInt8} {r : Bool} (h : m40_keys_Sane a0 = some r) : CallsA Try.prog 40 [.one (.sl a0.length (a0.flatMap eU8))] (· = .s (.one (.b r))) := by
  unfold m40_keys_Sane at h
  refine callsA_of Try.func40 rfl (nt := 11) rfl (Nat.le_of_ble_eq_true rfl) ?_
  intro w0 S0
  refine cseq ?_
  refine cregion ?_
  refine sv rfl (opv_as rfl) ?_
  refine snil ?_
  refine cseq ?_
  refine cregion ?_
  refine sv rfl (opv_mv rfl) ?_
  refine sv rfl (opv_len_sl si37 rfl) ?_
  refine sv rfl (opv_geq rfl rfl) ?_
  refine sv rfl (opv_mv rfl) ?_
  refine ssplit 6 rfl (fun hc => ?_) (fun hc => ?_)
  · replace h := ite_t hc h
    clear hc
    refine son rfl rfl rfl ?_
    refine sv rfl (opv_mv rfl) ?_
    refine son rfl rfl rfl ?_
    refine sv rfl (opv_len_sl si37 rfl) ?_
    refine son rfl rfl rfl ?_
    refine sv rfl (opv_leq rfl rfl) ?_
    refine sv rfl (opv_pick_t rfl rfl) ?_
    refine sv rfl (opv_as rfl) ?_
    refine snil ?_
    refine cret ?_
    obtain rfl := Option.some.inj h
    refine ⟨Or.inr rfl, _, _, _, (resVs_cons (ResV.tmp _ _ rfl) resVs_nil), (pubA_id rfl), ?_⟩
    rfl
  · replace h := ite_f hc h
    clear hc
    refine soff rfl rfl rfl rfl ?_
    refine soff rfl rfl rfl rfl ?_
    refine soff rfl rfl rfl rfl ?_
    refine sv rfl (opv_pick_f rfl rfl) ?_
    refine sv rfl (opv_as rfl) ?_
    refine snil ?_
    refine cret ?_
    obtain rfl := Option.some.inj h
    refine ⟨Or.inr rfl, _, _, _, (resVs_cons (ResV.tmp _ _ rfl) resVs_nil), (pubA_id rfl), ?_⟩
    rfl

def m26_serial_saneWrite (a0 : GApiWrite) : Option Bool :=
  (m40_keys_Sane a0.Key).bind fun v1 => if v1 then (if (decide ((a0.Val.length : Int) ≤ 32)) then (if a0.Del then (some (!(decide (0 < (a0.Val.length : Int))))) else (some true)) else (some false)) else (some false)

set_option maxRecDepth 100000 in
theorem m26_serial_saneWrite_c {a0 : GApiWrite} {r : Bool} (h : m26_serial_saneWrite a0 = some r) : CallsA Try.prog 26 [.agg [.sl a0.Key.length (a0.Key.flatMap eU8), .sl a0.Val.length (a0.Val.flatMap eU8), .b a0.Del]] (· = .s (.one (.b r))) := by
  unfold m26_serial_saneWrite at h
  refine callsA_of Try.func26 rfl (nt := 23) rfl (Nat.le_of_ble_eq_true rfl) ?_
  intro w0 S0
  refine cseq ?_
  refine cregion ?_
  refine sbox rfl rfl ?_
  refine sv rfl (opv_as rfl) ?_
  refine snil ?_
  refine cseq ?_
  refine cregion ?_
  refine sv rfl (opv_fieldAddr_lp fi39_0 rfl) ?_
  refine sv rfl (opv_load1 ti37 rfl (.lp _ _ _ rfl) rfl) ?_
  obtain ⟨v1, hv1, h⟩ := bind_eq h
  refine scall1 rfl fn40 (opnds_cons rfl opnds_nil) (pubA_id rfl) (m40_keys_Sane_c hv1) ?_
  refine sv rfl (opv_mv rfl) ?_
  refine ssplit 6 rfl (fun hc => ?_) (fun hc => ?_)
  · replace h := ite_t hc h
    clear hc
    refine son rfl rfl rfl ?_
    refine sv rfl (opv_fieldAddr_lp fi39_1 rfl) ?_
    refine son rfl rfl rfl ?_
    refine sv rfl (opv_load1 ti37 rfl (.lp _ _ _ rfl) rfl) ?_
    refine son rfl rfl rfl ?_
    refine sv rfl (opv_len_sl si37 rfl) ?_
    refine son rfl rfl rfl ?_
    refine sv rfl (opv_leq rfl rfl) ?_
    refine sv rfl (opv_pick_t rfl rfl) ?_
    refine sv rfl (opv_mv rfl) ?_
    refine ssplit 12 rfl (fun hc => ?_) (fun hc => ?_)
    · replace h := ite_t hc h
      clear hc
      refine son rfl rfl rfl ?_
      refine sv rfl (opv_fieldAddr_lp fi39_2 rfl) ?_
      refine son rfl rfl rfl ?_
      refine sv rfl (opv_load1 ti4 rfl (.lp _ _ _ rfl) rfl) ?_
      refine son rfl rfl rfl ?_
      refine sv rfl (opv_mv rfl) ?_
      refine ssplit 15 rfl (fun hc => ?_) (fun hc => ?_)
      · replace h := ite_t hc h
        clear hc
        refine son rfl rfl rfl ?_
        refine sv rfl (opv_fieldAddr_lp fi39_1 rfl) ?_
        refine son rfl rfl rfl ?_
        refine sv rfl (opv_load1 ti37 rfl (.lp _ _ _ rfl) rfl) ?_
        refine son rfl rfl rfl ?_
        refine sv rfl (opv_len_sl si37 rfl) ?_
        refine son rfl rfl rfl ?_
        refine sv rfl (opv_gtr rfl rfl) ?_
        refine son rfl rfl rfl ?_
        refine sv rfl (opv_pick_t rfl rfl) ?_
        refine son rfl rfl rfl ?_
        refine sv rfl (opv_not rfl) ?_
        refine sv rfl (opv_pick_t rfl rfl) ?_
        refine sv rfl (opv_as rfl) ?_
        refine snil ?_
        refine cret ?_
        obtain rfl := Option.some.inj h
        refine ⟨Or.inr rfl, _, _, _, (resVs_cons (ResV.tmp _ _ rfl) resVs_nil), (pubA_id rfl), ?_⟩
        rfl
      · replace h := ite_f hc h
        clear hc
        refine soff rfl rfl rfl rfl ?_
        refine soff rfl rfl rfl rfl ?_
        refine soff rfl rfl rfl rfl ?_
        refine soff rfl rfl rfl rfl ?_
        refine son rfl rfl rfl ?_
        refine sv rfl (opv_pick_f rfl rfl) ?_
        refine son rfl rfl rfl ?_
        refine sv rfl (opv_not rfl) ?_
        refine sv rfl (opv_pick_t rfl rfl) ?_
        refine sv rfl (opv_as rfl) ?_
        refine snil ?_
        refine cret ?_
        obtain rfl := Option.some.inj h
        refine ⟨Or.inr rfl, _, _, _, (resVs_cons (ResV.tmp _ _ rfl) resVs_nil), (pubA_id rfl), ?_⟩
        rfl
    · replace h := ite_f hc h
      clear hc
      refine soff rfl rfl rfl rfl ?_
      refine soff rfl rfl rfl rfl ?_
      refine soff rfl rfl rfl rfl ?_
      refine soffu rfl rfl rfl ?_
      refine soffu rfl rfl rfl ?_
      refine soffu rfl rfl rfl ?_
      refine soffu rfl rfl rfl ?_
      refine soff rfl rfl rfl rfl ?_
      refine soff rfl rfl rfl rfl ?_
      refine sv rfl (opv_pick_f rfl rfl) ?_
      refine sv rfl (opv_as rfl) ?_
      refine snil ?_
      refine cret ?_
      obtain rfl := Option.some.inj h
      refine ⟨Or.inr rfl, _, _, _, (resVs_cons (ResV.tmp _ _ rfl) resVs_nil), (pubA_id rfl), ?_⟩
      rfl
  · replace h := ite_f hc h
    clear hc
    refine soff rfl rfl rfl rfl ?_
    refine soff rfl rfl rfl rfl ?_
    refine soff rfl rfl rfl rfl ?_
    refine soff rfl rfl rfl rfl ?_
    refine sv rfl (opv_pick_f rfl rfl) ?_
    refine sv rfl (opv_mv rfl) ?_
    refine soff rfl rfl rfl rfl ?_
    refine soff rfl rfl rfl rfl ?_
    refine soff rfl rfl rfl rfl ?_
    refine soffu rfl rfl rfl ?_
    refine soffu rfl rfl rfl ?_
    refine soffu rfl rfl rfl ?_
    refine soffu rfl rfl rfl ?_
    refine soff rfl rfl rfl rfl ?_
    refine soff rfl rfl rfl rfl ?_
    refine sv rfl (opv_pick_f rfl rfl) ?_
    refine sv rfl (opv_as rfl) ?_
    refine snil ?_
    refine cret ?_
    obtain rfl := Option.some.inj h
    refine ⟨Or.inr rfl, _, _, _, (resVs_cons (ResV.tmp _ _ rfl) resVs_nil), (pubA_id rfl), ?_⟩
    rfl

def m27_keys_SaneRange (a0 : GApiRange) : Option Bool :=
  if (decide ((a0.Lo.length : Int) ≤ 17)) then (if (decide ((a0.Hi.length : Int) ≤ 17)) then (if a0.Open then (some (!(decide (0 < (a0.Hi.length : Int))))) else (some true)) else (some false)) else (some false)

set_option maxRecDepth 100000 in
theorem m27_keys_SaneRange_c {a0 : GApiRange} {r : Bool} (h : m27_keys_SaneRange a0 = some r) : CallsA Try.prog 27 [.agg [.sl a0.Lo.length (a0.Lo.flatMap eU8), .sl a0.Hi.length (a0.Hi.flatMap eU8), .b a0.Open]] (· = .s (.one (.b r))) := by
  unfold m27_keys_SaneRange at h
  refine callsA_of Try.func27 rfl (nt := 24) rfl (Nat.le_of_ble_eq_true rfl) ?_
  intro w0 S0
  refine cseq ?_
  refine cregion ?_
  refine sbox rfl rfl ?_
  refine sv rfl (opv_as rfl) ?_
  refine snil ?_
  refine cseq ?_
  refine cregion ?_
  refine sv rfl (opv_fieldAddr_lp fi46_0 rfl) ?_
  refine sv rfl (opv_load1 ti37 rfl (.lp _ _ _ rfl) rfl) ?_
  refine sv rfl (opv_len_sl si37 rfl) ?_
  refine sv rfl (opv_leq rfl rfl) ?_
  refine sv rfl (opv_mv rfl) ?_
  refine ssplit 7 rfl (fun hc => ?_) (fun hc => ?_)
  · replace h := ite_t hc h
    clear hc
    refine son rfl rfl rfl ?_
    refine sv rfl (opv_fieldAddr_lp fi46_1 rfl) ?_
    refine son rfl rfl rfl ?_
    refine sv rfl (opv_load1 ti37 rfl (.lp _ _ _ rfl) rfl) ?_
    refine son rfl rfl rfl ?_
    refine sv rfl (opv_len_sl si37 rfl) ?_
    refine son rfl rfl rfl ?_
    refine sv rfl (opv_leq rfl rfl) ?_
    refine sv rfl (opv_pick_t rfl rfl) ?_
    refine sv rfl (opv_mv rfl) ?_
    refine ssplit 13 rfl (fun hc => ?_) (fun hc => ?_)
    · replace h := ite_t hc h
      clear hc
      refine son rfl rfl rfl ?_
      refine sv rfl (opv_fieldAddr_lp fi46_2 rfl) ?_
      refine son rfl rfl rfl ?_
      refine sv rfl (opv_load1 ti4 rfl (.lp _ _ _ rfl) rfl) ?_
      refine son rfl rfl rfl ?_
      refine sv rfl (opv_mv rfl) ?_
      refine ssplit 16 rfl (fun hc => ?_) (fun hc => ?_)
      · replace h := ite_t hc h
        clear hc
        refine son rfl rfl rfl ?_
        refine sv rfl (opv_fieldAddr_lp fi46_1 rfl) ?_
        refine son rfl rfl rfl ?_
        refine sv rfl (opv_load1 ti37 rfl (.lp _ _ _ rfl) rfl) ?_
        refine son rfl rfl rfl ?_
        refine sv rfl (opv_len_sl si37 rfl) ?_
        refine son rfl rfl rfl ?_
        refine sv rfl (opv_gtr rfl rfl) ?_
        refine son rfl rfl rfl ?_
        refine sv rfl (opv_pick_t rfl rfl) ?_
        refine son rfl rfl rfl ?_
        refine sv rfl (opv_not rfl) ?_
        refine sv rfl (opv_pick_t rfl rfl) ?_
        refine sv rfl (opv_as rfl) ?_
        refine snil ?_
        refine cret ?_
        obtain rfl := Option.some.inj h
        refine ⟨Or.inr rfl, _, _, _, (resVs_cons (ResV.tmp _ _ rfl) resVs_nil), (pubA_id rfl), ?_⟩
        rfl
      · replace h := ite_f hc h
        clear hc
        refine soff rfl rfl rfl rfl ?_
        refine soff rfl rfl rfl rfl ?_
        refine soff rfl rfl rfl rfl ?_
        refine soff rfl rfl rfl rfl ?_
        refine son rfl rfl rfl ?_
        refine sv rfl (opv_pick_f rfl rfl) ?_
        refine son rfl rfl rfl ?_
        refine sv rfl (opv_not rfl) ?_
        refine sv rfl (opv_pick_t rfl rfl) ?_
        refine sv rfl (opv_as rfl) ?_
        refine snil ?_
        refine cret ?_
        obtain rfl := Option.some.inj h
        refine ⟨Or.inr rfl, _, _, _, (resVs_cons (ResV.tmp _ _ rfl) resVs_nil), (pubA_id rfl), ?_⟩
        rfl
    · replace h := ite_f hc h
      clear hc
      refine soff rfl rfl rfl rfl ?_
      refine soff rfl rfl rfl rfl ?_
      refine soff rfl rfl rfl rfl ?_
      refine soffu rfl rfl rfl ?_
      refine soffu rfl rfl rfl ?_
      refine soffu rfl rfl rfl ?_
      refine soffu rfl rfl rfl ?_
      refine soff rfl rfl rfl rfl ?_
      refine soff rfl rfl rfl rfl ?_
      refine sv rfl (opv_pick_f rfl rfl) ?_
      refine sv rfl (opv_as rfl) ?_
      refine snil ?_
      refine cret ?_
      obtain rfl := Option.some.inj h
      refine ⟨Or.inr rfl, _, _, _, (resVs_cons (ResV.tmp _ _ rfl) resVs_nil), (pubA_id rfl), ?_⟩
      rfl
  · replace h := ite_f hc h
    clear hc
    refine soff rfl rfl rfl rfl ?_
    refine soff rfl rfl rfl rfl ?_
    refine soff rfl rfl rfl rfl ?_
    refine soff rfl rfl rfl rfl ?_
    refine sv rfl (opv_pick_f rfl rfl) ?_
    refine sv rfl (opv_mv rfl) ?_
    refine soff rfl rfl rfl rfl ?_
    refine soff rfl rfl rfl rfl ?_
    refine soff rfl rfl rfl rfl ?_
    refine soffu rfl rfl rfl ?_
    refine soffu rfl rfl rfl ?_
    refine soffu rfl rfl rfl ?_
    refine soffu rfl rfl rfl ?_
    refine soff rfl rfl rfl rfl ?_
    refine soff rfl rfl rfl rfl ?_
    refine sv rfl (opv_pick_f rfl rfl) ?_
    refine sv rfl (opv_as rfl) ?_
    refine snil ?_
    refine cret ?_
    obtain rfl := Option.some.inj h
    refine ⟨Or.inr rfl, _, _, _, (resVs_cons (ResV.tmp _ _ rfl) resVs_nil), (pubA_id rfl), ?_⟩
    rfl

def m46_bytes_Compare (a0 : List UInt8) (a1 : List UInt8) : Option Int :=
  some (cmpL a0 a1)

set_option maxRecDepth 100000 in
theorem m46_bytes_Compare_c {a0 : List UInt8} {a1 : List UInt8} {r : Int} (h : m46_bytes_Compare a0 a1 = some r) : CallsA Try.prog 46 [.one (.sl a0.length (a0.flatMap eU8)), .one (.sl a1.length (a1.flatMap eU8))] (· = .s (.one (.i .i64 r))) := by
  unfold m46_bytes_Compare at h
  refine callsA_of Try.func46 rfl (nt := 8) rfl (Nat.le_of_ble_eq_true rfl) ?_
  intro w0 S0
  refine cseq ?_
  refine cregion ?_
  refine sv rfl (opv_as rfl) ?_
  refine snil ?_
  refine cseq ?_
  refine cregion ?_
  refine sv rfl (opv_mv rfl) ?_
  refine sv rfl (opv_mv rfl) ?_
  refine sv rfl (opv_cmp' (a := a0) (b := a1) xi49 rfl rfl rfl rfl rfl rfl) ?_
  refine sv rfl (opv_as rfl) ?_
  refine snil ?_
  refine cret ?_
  obtain rfl := Option.some.inj h
  refine ⟨Or.inr rfl, _, _, _, (resVs_cons (ResV.tmp _ _ rfl) resVs_nil), (pubA_id rfl), ?_⟩
  rfl

def m41_keys_Cmp (a0 : List UInt8) (a1 : List UInt8) : Option Int :=
  (m46_bytes_Compare a0 a1).bind fun v1 => some v1

set_option maxRecDepth 100000 in
theorem m41_keys_Cmp_c {a0 : List UInt8} {a1 : List UInt8} {r : Int} (h : m41_keys_Cmp a0 a1 = some r) : CallsA Try.prog 41 [.one (.sl a0.length (a0.flatMap eU8)), .one (.sl a1.length (a1.flatMap eU8))] (· = .s (.one (.i .i64 r))) := by
  unfold m41_keys_Cmp at h
  refine callsA_of Try.func41 rfl (nt := 8) rfl (Nat.le_of_ble_eq_true rfl) ?_
  intro w0 S0
  refine cseq ?_
  refine cregion ?_
  refine sv rfl (opv_as rfl) ?_
  refine snil ?_
  refine cseq ?_
  refine cregion ?_
  refine sv rfl (opv_mv rfl) ?_
  refine sv rfl (opv_mv rfl) ?_
  obtain ⟨v1, hv1, h⟩ := bind_eq h
  refine scall1 rfl fn46 (opnds_cons rfl (opnds_cons rfl opnds_nil)) (pubA_id rfl) (m46_bytes_Compare_c hv1) ?_
  refine sv rfl (opv_as rfl) ?_
  refine snil ?_
  refine cret ?_
  obtain rfl := Option.some.inj h
  refine ⟨Or.inr rfl, _, _, _, (resVs_cons (ResV.tmp _ _ rfl) resVs_nil), (pubA_id rfl), ?_⟩
  rfl

def m28_keys_Sorted_k1 (b1 : Unit) : Option Bool :=
  some true

def m28_keys_Sorted_s2 (a0 : List (List UInt8)) (s2 : Int) : Option (LR (Int) (Unit) (Bool)) :=
  if (decide (s2 < (a0.length : Int))) then ((idx a0 (wI (s2 - 1))).bind fun u3 => (idx a0 s2).bind fun u4 => (m41_keys_Cmp u3 u4).bind fun v5 => if (decide (0 ≤ v5)) then (some (.ret false)) else (some (.cont (wI (s2 + 1))))) else (some (.brk ()))
def m28_keys_Sorted (a0 : List (List UInt8)) : Option Bool :=
  (iter (m28_keys_Sorted_s2 a0) fuel 1).bind fun x => match x with | .inl r => some r | .inr e6 => m28_keys_Sorted_k1 e6

set_option maxRecDepth 100000 in
theorem m28_keys_Sorted_c {a0 : List (List UInt8)} {r : Bool} (h : m28_keys_Sorted a0 = some r) : CallsA Try.prog 28 [.one (.sl a0.length (a0.flatMap (eL eU8)))] (· = .s (.one (.b r))) := by
  unfold m28_keys_Sorted at h
  refine callsA_of Try.func28 rfl (nt := 21) rfl (Nat.le_of_ble_eq_true rfl) ?_
  intro w0 S0
  refine cseq ?_
  refine cregion ?_
  refine sv rfl (opv_as rfl) ?_
  refine snil ?_
  refine cseq ?_
  refine cseq ?_
  refine cregion ?_
  refine sv rfl (opv_as rfl) ?_
  refine snil ?_
  refine cjoin (Unit) (fun b1 => []) (fun b1 => []) (fun b1 => m28_keys_Sorted_k1 b1 = some r) (fun _ _ => inbL_of rfl) (fun _ _ => blkinb_of rfl) (fun _ _ => Nat.le_of_ble_eq_true rfl) (fun b1 h => ?_) ?_
  · unfold m28_keys_Sorted_k1 at h
    refine cseq ?_
    refine cregion ?_
    refine sv rfl (opv_as rfl) ?_
    refine snil ?_
    refine cret ?_
    obtain rfl := Option.some.inj h
    refine ⟨Or.inr rfl, _, _, _, (resVs_cons (ResV.tmp _ _ rfl) resVs_nil), (pubA_id rfl), ?_⟩
    rfl
  · skip
    refine cblock ?_
    obtain ⟨x2, hx2, ho2⟩ := bind_eq h
    refine awc_loop (G := Nat × (Int)) (fun g => [(0, .s (.one (.sl a0.length (a0.flatMap (eL eU8))))), (3, .s (.one (.i .i64 g.2)))]) (fun g => []) (fun g => iter (m28_keys_Sorted_s2 a0) g.1 g.2 = some x2) (fun g => g.1) (fuel, 1) hx2 ⟨rfl, rfl, trivial⟩ [] rfl (fun _ _ => inbL_of rfl) (fun _ _ => blkinb_of rfl) (fun _ _ => Nat.le_of_ble_eq_true rfl) ?_
    clear hx2 h
    rintro ⟨n2, s2⟩ h
    obtain ⟨n2, y2, rfl, h, hk2⟩ := iter_eq h
    unfold m28_keys_Sorted_s2 at h
    refine cseq ?_
    refine cseq ?_
    refine cregion ?_
    refine sv rfl (opv_mv rfl) ?_
    refine sv rfl (opv_mv rfl) ?_
    refine sv rfl (opv_len_sl si56 rfl) ?_
    refine sv rfl (opv_lss rfl rfl) ?_
    refine snil ?_
    refine ccond rfl (fun hc => ?_) (fun hc => ?_)
    · replace h := ite_t hc h
      clear hc
      refine cskip ?_
      refine then_normal ?_
      refine cseq ?_
      refine cblock ?_
      refine cseq ?_
      refine cdraw mixed (by kernel_rfl) ?_
      refine dv rfl (opv_mv rfl) ?_
      refine dv rfl (opv_mv rfl) ?_
      refine dv rfl (opv_sub rfl rfl) ?_
      obtain ⟨u3, hu3, h⟩ := bind_eq h
      refine dv rfl (opv_ix (f := (eL eU8)) si56 (fun _ => rfl) rfl rfl rfl rfl hu3) ?_
      refine dv rfl (opv_load1 ti37 rfl (.cp _) rfl) ?_
      refine dv rfl (opv_mv rfl) ?_
      refine dv rfl (opv_mv rfl) ?_
      obtain ⟨u4, hu4, h⟩ := bind_eq h
      refine dv rfl (opv_ix (f := (eL eU8)) si56 (fun _ => rfl) rfl rfl rfl rfl hu4) ?_
      refine dv rfl (opv_load1 ti37 rfl (.cp _) rfl) ?_
      obtain ⟨v5, hv5, h⟩ := bind_eq h
      refine dd rfl (opD_call fn41 (opnds_cons rfl (opnds_cons rfl opnds_nil)) rfl (m41_keys_Cmp_c hv5)) ?_
      refine dv rfl (opv_geq rfl rfl) ?_
      refine dnil ?_
      refine then_normal ?_
      refine ccond rfl (fun hc => ?_) (fun hc => ?_)
      · replace h := ite_t hc h
        clear hc
        refine cseq ?_
        refine cregion ?_
        refine sv rfl (opv_as rfl) ?_
        refine snil ?_
        refine cret ?_
        refine block_ret ?_
        refine then_ret ?_
        refine then_ret ?_
        refine block_ret ?_
        refine then_ret ?_
        obtain rfl := Option.some.inj h
        obtain rfl : Sum.inl _ = x2 := hk2
        replace ho2 : some _ = some _ := ho2
        obtain rfl := Option.some.inj ho2
        refine ⟨Or.inr rfl, _, _, _, (resVs_cons (ResV.tmp _ _ rfl) resVs_nil), (pubA_id rfl), ?_⟩
        rfl
      · replace h := ite_f hc h
        clear hc
        refine cskip ?_
        refine block_normal ?_
        refine then_normal ?_
        refine cregion ?_
        refine sv rfl (opv_mv rfl) ?_
        refine sv rfl (opv_add rfl rfl) ?_
        refine sv rfl (opv_as rfl) ?_
        refine snil ?_
        obtain rfl := Option.some.inj h
        exact ⟨(n2, (wI (s2 + 1))), _, hk2, ⟨rfl, rfl, trivial⟩, rfl, Nat.lt_succ_self _⟩
    · replace h := ite_f hc h
      clear hc
      refine cexit ?_
      refine then_exit ?_
      refine then_exit ?_
      refine block_hit ?_
      refine then_normal ?_
      obtain rfl := Option.some.inj h
      obtain rfl : _ = x2 := hk2
      exact ⟨(), _, ho2, trivial, rfl⟩

def m16_serial_saneTx_k2 (a0 : GSerialTx) (b1 : (List (List UInt8))) (b2 : Unit) : Option Bool :=
  if (decide (0 ≤ a0.Snap)) then (if (decide (a0.Snap < a0.Ts)) then ((m28_keys_Sorted b1).bind fun v3 => some v3) else (some false)) else (some false)

def m16_serial_saneTx_s4 (a0 : GSerialTx) (s4 : Int) : Option (LR (Int) (Unit) (Bool)) :=
  if (decide (s4 < (a0.Reads.length : Int))) then ((idx a0.Reads s4).bind fun u5 => (m27_keys_SaneRange u5).bind fun v6 => if (!v6) then (some (.ret false)) else (some (.cont (wI (s4 + 1))))) else (some (.brk ()))

def m16_serial_saneTx_k1 (a0 : GSerialTx) (b1 : (List (List UInt8))) : Option Bool :=
  (iter (m16_serial_saneTx_s4 a0) fuel 0).bind fun x => match x with | .inl r => some r | .inr e7 => m16_serial_saneTx_k2 a0 b1 e7

def m16_serial_saneTx_s8 (a0 : GSerialTx) (s8 : Int × (List (List UInt8))) : Option (LR (Int × (List (List UInt8))) ((List (List UInt8))) (Bool)) :=
  if (decide (s8.1 < (a0.Writes.length : Int))) then ((idx a0.Writes s8.1).bind fun u9 => (m26_serial_saneWrite u9).bind fun v10 => if (!v10) then (some (.ret false)) else (if (s8.2.length + [u9.Key].length) * 24 ≤ 140737488355328 then (some (.cont ((wI (s8.1 + 1)), (s8.2 ++ [u9.Key])))) else none)) else (some (.brk s8.2))
def m16_serial_saneTx (a0 : GSerialTx) : Option Bool :=
  (iter (m16_serial_saneTx_s8 a0) fuel (0, ([] : List (List UInt8)))).bind fun x => match x with | .inl r => some r | .inr e12 => m16_serial_saneTx_k1 a0 e12

set_option maxRecDepth 100000 in
theorem m16_serial_saneTx_c {a0 : GSerialTx} {r : Bool} (h : m16_serial_saneTx a0 = some r) : CallsA Try.prog 16 [.agg [.i .i64 a0.Token, .i .i64 a0.Snap, .i .i64 a0.Ts, .sl a0.Reads.length (a0.Reads.flatMap eGApiRange), .sl a0.Writes.length (a0.Writes.flatMap eGApiWrite)]] (· = .s (.one (.b r))) := by
  unfold m16_serial_saneTx at h
  refine callsA_of Try.func16 rfl (nt := 49) rfl (Nat.le_of_ble_eq_true rfl) ?_
  intro w0 S0
  refine cseq ?_
  refine cregion ?_
  refine sbox rfl rfl ?_
  refine sv rfl (opv_as rfl) ?_
  refine snil ?_
  refine cseq ?_
  refine cregion ?_
  refine sv rfl (opv_as rfl) ?_
  refine snil ?_
  refine cseq ?_
  refine cseq ?_
  refine cregion ?_
  refine sv rfl (opv_fieldAddr_lp fi35_4 rfl) ?_
  refine sv rfl (opv_load1 ti33 rfl (.lp _ _ _ rfl) rfl) ?_
  refine sv rfl (opv_len_sl si33 rfl) ?_
  refine sv rfl (opv_mv rfl) ?_
  refine snil ?_
  refine sadopt_c 37 1 3 (by decide) rfl ?_
  refine cjoin ((List (List UInt8))) (fun b1 => [(1, .s (.one (.lp 0 0))), (3, .s (.one (.ls 1 b1.length)))]) (fun b1 => [.box [.i .i64 a0.Token, .i .i64 a0.Snap, .i .i64 a0.Ts, .sl a0.Reads.length (a0.Reads.flatMap eGApiRange), .sl a0.Writes.length (a0.Writes.flatMap eGApiWrite)], .arr 37 1 0 (b1.flatMap (eL eU8))]) (fun b1 => m16_serial_saneTx_k1 a0 b1 = some r) (fun _ _ => inbL_of rfl) (fun _ _ => blkinb_of rfl) (fun _ _ => Nat.le_of_ble_eq_true rfl) (fun b1 h => ?_) ?_
  · unfold m16_serial_saneTx_k1 at h
    refine cseq ?_
    refine cseq ?_
    refine cregion ?_
    refine sv rfl (opv_fieldAddr_lp fi35_3 rfl) ?_
    refine sv rfl (opv_load1 ti32 rfl (.lp _ _ _ rfl) rfl) ?_
    refine sv rfl (opv_len_sl si32 rfl) ?_
    refine sv rfl (opv_mv rfl) ?_
    refine snil ?_
    refine cjoin (Unit) (fun b2 => [(1, .s (.one (.lp 0 0))), (3, .s (.one (.ls 1 b1.length)))]) (fun b2 => [.box [.i .i64 a0.Token, .i .i64 a0.Snap, .i .i64 a0.Ts, .sl a0.Reads.length (a0.Reads.flatMap eGApiRange), .sl a0.Writes.length (a0.Writes.flatMap eGApiWrite)], .arr 37 1 0 (b1.flatMap (eL eU8))]) (fun b2 => m16_serial_saneTx_k2 a0 b1 b2 = some r) (fun _ _ => inbL_of rfl) (fun _ _ => blkinb_of rfl) (fun _ _ => Nat.le_of_ble_eq_true rfl) (fun b2 h => ?_) ?_
    · unfold m16_serial_saneTx_k2 at h
      refine cseq ?_
      refine cregion ?_
      refine sv rfl (opv_fieldAddr_lp fi35_1 rfl) ?_
      refine sv rfl (opv_load1 ti3 rfl (.lp _ _ _ rfl) rfl) ?_
      refine sv rfl (opv_geq rfl rfl) ?_
      refine sv rfl (opv_mv rfl) ?_
      refine ssplit 38 rfl (fun hc => ?_) (fun hc => ?_)
      · replace h := ite_t hc h
        clear hc
        refine son rfl rfl rfl ?_
        refine sv rfl (opv_fieldAddr_lp fi35_2 rfl) ?_
        refine son rfl rfl rfl ?_
        refine sv rfl (opv_load1 ti3 rfl (.lp _ _ _ rfl) rfl) ?_
        refine son rfl rfl rfl ?_
        refine sv rfl (opv_fieldAddr_lp fi35_1 rfl) ?_
        refine son rfl rfl rfl ?_
        refine sv rfl (opv_load1 ti3 rfl (.lp _ _ _ rfl) rfl) ?_
        refine son rfl rfl rfl ?_
        refine sv rfl (opv_gtr rfl rfl) ?_
        refine sv rfl (opv_pick_t rfl rfl) ?_
        refine sv rfl (opv_mv rfl) ?_
        refine ssplit 45 rfl (fun hc => ?_) (fun hc => ?_)
        · replace h := ite_t hc h
          clear hc
          refine son rfl rfl rfl ?_
          refine sv rfl (opv_mv rfl) ?_
          refine son rfl rfl rfl ?_
          refine spub 46 rfl (by (repeat' first | exact PubA.nil _ | apply PubA.cons | apply PubV.one | apply PubV.agg | exact PubL.nil | exact PubL.ls _ _ _ _ _ _ rfl (flat_len (f := (eL eU8)) (fun _ => rfl) _).symm | exact PubL.id _ rfl | exact PubLs.nil _ | apply PubLs.cons)) ?_
          obtain ⟨v3, hv3, h⟩ := bind_eq h
          refine scall1 rfl fn28 (opnds_cons rfl opnds_nil) (pubA_id rfl) (m28_keys_Sorted_c hv3) ?_
          refine sv rfl (opv_pick_t rfl rfl) ?_
          refine sv rfl (opv_as rfl) ?_
          refine snil ?_
          refine cret ?_
          obtain rfl := Option.some.inj h
          refine ⟨Or.inr rfl, _, _, _, (resVs_cons (ResV.tmp _ _ rfl) resVs_nil), (pubA_id rfl), ?_⟩
          rfl
        · replace h := ite_f hc h
          clear hc
          refine soff rfl rfl rfl rfl ?_
          refine soff rfl rfl rfl rfl ?_
          refine sv rfl (opv_pick_f rfl rfl) ?_
          refine sv rfl (opv_as rfl) ?_
          refine snil ?_
          refine cret ?_
          obtain rfl := Option.some.inj h
          refine ⟨Or.inr rfl, _, _, _, (resVs_cons (ResV.tmp _ _ rfl) resVs_nil), (pubA_id rfl), ?_⟩
          rfl
      · replace h := ite_f hc h
        clear hc
        refine soff rfl rfl rfl rfl ?_
        refine soff rfl rfl rfl rfl ?_
        refine soff rfl rfl rfl rfl ?_
        refine soff rfl rfl rfl rfl ?_
        refine soff rfl rfl rfl rfl ?_
        refine sv rfl (opv_pick_f rfl rfl) ?_
        refine sv rfl (opv_mv rfl) ?_
        refine soff rfl rfl rfl rfl ?_
        refine soff rfl rfl rfl rfl ?_
        refine sv rfl (opv_pick_f rfl rfl) ?_
        refine sv rfl (opv_as rfl) ?_
        refine snil ?_
        refine cret ?_
        obtain rfl := Option.some.inj h
        refine ⟨Or.inr rfl, _, _, _, (resVs_cons (ResV.tmp _ _ rfl) resVs_nil), (pubA_id rfl), ?_⟩
        rfl
    · skip
      refine cblock ?_
      obtain ⟨x4, hx4, ho4⟩ := bind_eq h
      refine awc_loop (G := Nat × (Int)) (fun g => [(1, .s (.one (.lp 0 0))), (3, .s (.one (.ls 1 b1.length))), (25, .s (.one (.sl a0.Reads.length (a0.Reads.flatMap eGApiRange)))), (26, .s (.one (.i .i64 (a0.Reads.length : Int)))), (27, .s (.one (.i .i64 g.2)))]) (fun g => [.box [.i .i64 a0.Token, .i .i64 a0.Snap, .i .i64 a0.Ts, .sl a0.Reads.length (a0.Reads.flatMap eGApiRange), .sl a0.Writes.length (a0.Writes.flatMap eGApiWrite)], .arr 37 1 0 (b1.flatMap (eL eU8))]) (fun g => iter (m16_serial_saneTx_s4 a0) g.1 g.2 = some x4) (fun g => g.1) (fuel, 0) hx4 ⟨rfl, rfl, rfl, rfl, rfl, trivial⟩ [] rfl (fun _ _ => inbL_of rfl) (fun _ _ => blkinb_of rfl) (fun _ _ => Nat.le_of_ble_eq_true rfl) ?_
      clear hx4 h
      rintro ⟨n4, s4⟩ h
      obtain ⟨n4, y4, rfl, h, hk4⟩ := iter_eq h
      unfold m16_serial_saneTx_s4 at h
      refine cseq ?_
      refine cregion ?_
      refine sv rfl (opv_lss rfl rfl) ?_
      refine snil ?_
      refine cseq ?_
      refine ccond rfl (fun hc => ?_) (fun hc => ?_)
      · replace h := ite_t hc h
        clear hc
        refine cskip ?_
        refine then_normal ?_
        refine cseq ?_
        refine cblock ?_
        refine cseq ?_
        refine cregion ?_
        obtain ⟨u5, hu5, h⟩ := bind_eq h
        refine sv rfl (opv_ix (f := eGApiRange) si32 (fun _ => rfl) rfl rfl rfl rfl hu5) ?_
        refine sv rfl (opv_loadNe (ys := [.sl u5.Lo.length (u5.Lo.flatMap eU8), .sl u5.Hi.length (u5.Hi.flatMap eU8), .b u5.Open]) ti46 rfl (.cp _) rfl rfl) ?_
        refine salloc rfl zi46 ?_
        refine sstore sz46 rfl rfl rfl rfl (Nat.le_of_ble_eq_true rfl) ?_
        refine smem [.box [.i .i64 a0.Token, .i .i64 a0.Snap, .i .i64 a0.Ts, .sl a0.Reads.length (a0.Reads.flatMap eGApiRange), .sl a0.Writes.length (a0.Writes.flatMap eGApiWrite)], .arr 37 1 0 (b1.flatMap (eL eU8)), .box [.sl u5.Lo.length (u5.Lo.flatMap eU8), .sl u5.Hi.length (u5.Hi.flatMap eU8), .b u5.Open]] rfl ?_
        refine snil ?_
        refine cseq ?_
        refine cregion ?_
        refine sv rfl (opv_loadN ti46 rfl (.lp _ _ _ rfl) (Nat.le_of_ble_eq_true rfl)) ?_
        obtain ⟨v6, hv6, h⟩ := bind_eq h
        refine scall1 rfl fn27 (opnds_cons rfl opnds_nil) (pubA_id rfl) (m27_keys_SaneRange_c hv6) ?_
        refine sv rfl (opv_not rfl) ?_
        refine snil ?_
        refine ccond rfl (fun hc => ?_) (fun hc => ?_)
        · replace h := ite_t hc h
          clear hc
          refine cseq ?_
          refine cregion ?_
          refine sv rfl (opv_as rfl) ?_
          refine snil ?_
          refine cret ?_
          refine block_ret ?_
          refine then_ret ?_
          refine then_ret ?_
          refine block_ret ?_
          refine then_ret ?_
          obtain rfl := Option.some.inj h
          obtain rfl : Sum.inl _ = x4 := hk4
          replace ho4 : some _ = some _ := ho4
          obtain rfl := Option.some.inj ho4
          refine ⟨Or.inr rfl, _, _, _, (resVs_cons (ResV.tmp _ _ rfl) resVs_nil), (pubA_id rfl), ?_⟩
          rfl
        · replace h := ite_f hc h
          clear hc
          refine cskip ?_
          refine block_normal ?_
          refine then_normal ?_
          refine cregion ?_
          refine sv rfl (opv_add rfl rfl) ?_
          refine sv rfl (opv_mv rfl) ?_
          refine snil ?_
          obtain rfl := Option.some.inj h
          exact ⟨(n4, (wI (s4 + 1))), _, hk4, ⟨rfl, rfl, rfl, rfl, rfl, trivial⟩, rfl, Nat.lt_succ_self _⟩
      · replace h := ite_f hc h
        clear hc
        refine cexit ?_
        refine then_exit ?_
        refine then_exit ?_
        refine block_hit ?_
        refine then_normal ?_
        obtain rfl := Option.some.inj h
        obtain rfl : _ = x4 := hk4
        exact ⟨(), _, ho4, ⟨rfl, rfl, trivial⟩, rfl⟩
  · skip
    refine cblock ?_
    obtain ⟨x8, hx8, ho8⟩ := bind_eq h
    refine awc_loop (G := Nat × (Int × (List (List UInt8)))) (fun g => [(1, .s (.one (.lp 0 0))), (3, .s (.one (.ls 1 g.2.2.length))), (9, .s (.one (.sl a0.Writes.length (a0.Writes.flatMap eGApiWrite)))), (10, .s (.one (.i .i64 (a0.Writes.length : Int)))), (11, .s (.one (.i .i64 g.2.1)))]) (fun g => [.box [.i .i64 a0.Token, .i .i64 a0.Snap, .i .i64 a0.Ts, .sl a0.Reads.length (a0.Reads.flatMap eGApiRange), .sl a0.Writes.length (a0.Writes.flatMap eGApiWrite)], .arr 37 1 0 (g.2.2.flatMap (eL eU8))]) (fun g => iter (m16_serial_saneTx_s8 a0) g.1 g.2 = some x8) (fun g => g.1) (fuel, (0, ([] : List (List UInt8)))) hx8 ⟨rfl, rfl, rfl, rfl, rfl, trivial⟩ [] rfl (fun _ _ => inbL_of rfl) (fun _ _ => blkinb_of rfl) (fun _ _ => Nat.le_of_ble_eq_true rfl) ?_
    clear hx8 h
    rintro ⟨n8, s8⟩ h
    obtain ⟨n8, y8, rfl, h, hk8⟩ := iter_eq h
    unfold m16_serial_saneTx_s8 at h
    refine cseq ?_
    refine cregion ?_
    refine sv rfl (opv_lss rfl rfl) ?_
    refine snil ?_
    refine cseq ?_
    refine ccond rfl (fun hc => ?_) (fun hc => ?_)
    · replace h := ite_t hc h
      clear hc
      refine cskip ?_
      refine then_normal ?_
      refine cseq ?_
      refine cblock ?_
      refine cseq ?_
      refine cregion ?_
      obtain ⟨u9, hu9, h⟩ := bind_eq h
      refine sv rfl (opv_ix (f := eGApiWrite) si33 (fun _ => rfl) rfl rfl rfl rfl hu9) ?_
      refine sv rfl (opv_loadNe (ys := [.sl u9.Key.length (u9.Key.flatMap eU8), .sl u9.Val.length (u9.Val.flatMap eU8), .b u9.Del]) ti39 rfl (.cp _) rfl rfl) ?_
      refine salloc rfl zi39 ?_
      refine sstore sz39 rfl rfl rfl rfl (Nat.le_of_ble_eq_true rfl) ?_
      refine smem [.box [.i .i64 a0.Token, .i .i64 a0.Snap, .i .i64 a0.Ts, .sl a0.Reads.length (a0.Reads.flatMap eGApiRange), .sl a0.Writes.length (a0.Writes.flatMap eGApiWrite)], .arr 37 1 0 (s8.2.flatMap (eL eU8)), .box [.sl u9.Key.length (u9.Key.flatMap eU8), .sl u9.Val.length (u9.Val.flatMap eU8), .b u9.Del]] rfl ?_
      refine snil ?_
      refine cseq ?_
      refine cseq ?_
      refine cregion ?_
      refine sv rfl (opv_loadN ti39 rfl (.lp _ _ _ rfl) (Nat.le_of_ble_eq_true rfl)) ?_
      obtain ⟨v10, hv10, h⟩ := bind_eq h
      refine scall1 rfl fn26 (opnds_cons rfl opnds_nil) (pubA_id rfl) (m26_serial_saneWrite_c hv10) ?_
      refine sv rfl (opv_not rfl) ?_
      refine snil ?_
      refine ccond rfl (fun hc => ?_) (fun hc => ?_)
      · replace h := ite_t hc h
        clear hc
        refine cseq ?_
        refine cregion ?_
        refine sv rfl (opv_as rfl) ?_
        refine snil ?_
        refine cret ?_
        refine then_ret ?_
        refine block_ret ?_
        refine then_ret ?_
        refine then_ret ?_
        refine block_ret ?_
        refine then_ret ?_
        obtain rfl := Option.some.inj h
        obtain rfl : Sum.inl _ = x8 := hk8
        replace ho8 : some _ = some _ := ho8
        obtain rfl := Option.some.inj ho8
        refine ⟨Or.inr rfl, _, _, _, (resVs_cons (ResV.tmp _ _ rfl) resVs_nil), (pubA_id rfl), ?_⟩
        rfl
      · replace h := ite_f hc h
        clear hc
        refine cskip ?_
        refine then_normal ?_
        refine cregion ?_
        refine sv rfl (opv_mv rfl) ?_
        refine sv rfl (opv_fieldAddr_lp fi39_0 rfl) ?_
        refine sv rfl (opv_load1 ti37 rfl (.lp _ _ _ rfl) rfl) ?_
        refine sbuild1 rfl Try.underlying56 ei37 rfl rfl (List.all_eq_true.1 rfl) (by decide) ?_
        refine smem [.box [.i .i64 a0.Token, .i .i64 a0.Snap, .i .i64 a0.Ts, .sl a0.Reads.length (a0.Reads.flatMap eGApiRange), .sl a0.Writes.length (a0.Writes.flatMap eGApiWrite)], .arr 37 1 0 (s8.2.flatMap (eL eU8)), .box [.sl u9.Key.length (u9.Key.flatMap eU8), .sl u9.Val.length (u9.Val.flatMap eU8), .b u9.Del], .arr 37 1 0 ([u9.Key].flatMap (eL eU8))] rfl ?_
        obtain ⟨hb11, h⟩ := chk_eq h
        refine sapp (f := (eL eU8)) (xs := s8.2) (us := [u9.Key]) rfl Try.underlying56 ei37 ni56 (fun _ => rfl) rfl rfl (.one _ _ _ _ (.ls _ _ _ _ _ _ rfl (flat_len (f := (eL eU8)) (fun _ => rfl) [u9.Key]).symm)) rfl rfl rfl (.sl _ _ _ (flat_len (f := (eL eU8)) (fun _ => rfl) _)) rfl rfl hb11 (by decide) ?_
        refine sv rfl (opv_as rfl) ?_
        refine snil0 ?_
        refine block_normal ?_
        refine then_normal ?_
        refine cregion ?_
        refine sv rfl (opv_add rfl rfl) ?_
        refine sv rfl (opv_mv rfl) ?_
        refine snil ?_
        obtain rfl := Option.some.inj h
        exact ⟨(n8, ((wI (s8.1 + 1)), (s8.2 ++ [u9.Key]))), _, hk8, ⟨rfl, rfl, rfl, rfl, rfl, trivial⟩, rfl, Nat.lt_succ_self _⟩
    · replace h := ite_f hc h
      clear hc
      refine cexit ?_
      refine then_exit ?_
      refine then_exit ?_
      refine block_hit ?_
      refine then_normal ?_
      obtain rfl := Option.some.inj h
      obtain rfl : _ = x8 := hk8
      exact ⟨s8.2, _, ho8, ⟨rfl, rfl, trivial⟩, rfl⟩

def m15_serial_Sane_1s (a0 : GSerialTx) (a1 : Int) (a2 : Int) (a3 : Int) (a4 : List GApiRange) (a5 : List GApiWrite) : Option Bool :=
  if (decide (a0.Token = a1)) then (some true) else (some (decide (a0.Ts = a3)))

set_option maxRecDepth 100000 in
theorem m15_serial_Sane_1s_c {a0 : GSerialTx} {a1 : Int} {a2 : Int} {a3 : Int} {a4 : List GApiRange} {a5 : List GApiWrite} {r : Bool} (h : m15_serial_Sane_1s a0 a1 a2 a3 a4 a5 = some r) : CallsB Try.prog 15 [.box [.i .i64 a1, .i .i64 a2, .i .i64 a3, .sl a4.length (a4.flatMap eGApiRange), .sl a5.length (a5.flatMap eGApiWrite)]] [.agg [.i .i64 a0.Token, .i .i64 a0.Snap, .i .i64 a0.Ts, .sl a0.Reads.length (a0.Reads.flatMap eGApiRange), .sl a0.Writes.length (a0.Writes.flatMap eGApiWrite)], .one (.lp 0 0)] (fun y m' => y = .s (.one (.b r)) ∧ m' = [.box [.i .i64 a1, .i .i64 a2, .i .i64 a3, .sl a4.length (a4.flatMap eGApiRange), .sl a5.length (a5.flatMap eGApiWrite)]]) := by
  unfold m15_serial_Sane_1s at h
  refine callsB_of Try.func15 rfl (nt := 16) rfl (Nat.le_of_ble_eq_true rfl) ?_
  intro w0 S0 X0 H0
  refine cseq ?_
  refine cregion ?_
  refine sbox rfl rfl ?_
  refine sv rfl (opv_as rfl) ?_
  refine snil ?_
  refine cseq ?_
  refine cregion ?_
  refine sv rfl (opv_fieldAddr_lp fi35_0 rfl) ?_
  refine sv rfl (opv_load1 ti3 rfl (.lp _ _ _ rfl) rfl) ?_
  refine sv rfl (opv_fieldAddr_lp fi35_0 rfl) ?_
  refine sv rfl (opv_load1 ti3 rfl (.lp _ _ _ rfl) rfl) ?_
  refine sv rfl (opv_ieql rfl rfl) ?_
  refine sv rfl (opv_mv rfl) ?_
  refine ssplit 9 rfl (fun hc => ?_) (fun hc => ?_)
  · replace h := ite_t hc h
    clear hc
    refine soff rfl rfl rfl rfl ?_
    refine soff rfl rfl rfl rfl ?_
    refine soff rfl rfl rfl rfl ?_
    refine soff rfl rfl rfl rfl ?_
    refine soff rfl rfl rfl rfl ?_
    refine sv rfl (opv_pick_t rfl rfl) ?_
    refine sv rfl (opv_as rfl) ?_
    refine snil ?_
    refine cret ?_
    obtain rfl := Option.some.inj h
    exact ⟨Or.inr rfl, _, [0], [.one (.b true)], [.box [.i .i64 a1, .i .i64 a2, .i .i64 a3, .sl a4.length (a4.flatMap eGApiRange), .sl a5.length (a5.flatMap eGApiWrite)]], (resVs_cons (ResV.tmp _ _ rfl) resVs_nil), rfl, rfl, ⟨by decide, rfl⟩, rfl, rfl, ⟨rfl, rfl⟩⟩
  · replace h := ite_f hc h
    clear hc
    refine son rfl rfl rfl ?_
    refine sv rfl (opv_fieldAddr_lp fi35_2 rfl) ?_
    refine son rfl rfl rfl ?_
    refine sv rfl (opv_load1 ti3 rfl (.lp _ _ _ rfl) rfl) ?_
    refine son rfl rfl rfl ?_
    refine sv rfl (opv_fieldAddr_lp fi35_2 rfl) ?_
    refine son rfl rfl rfl ?_
    refine sv rfl (opv_load1 ti3 rfl (.lp _ _ _ rfl) rfl) ?_
    refine son rfl rfl rfl ?_
    refine sv rfl (opv_ieql rfl rfl) ?_
    refine sv rfl (opv_pick_f rfl rfl) ?_
    refine sv rfl (opv_as rfl) ?_
    refine snil ?_
    refine cret ?_
    obtain rfl := Option.some.inj h
    exact ⟨Or.inr rfl, _, [0], [.one (.b (decide (a0.Ts = a3)))], [.box [.i .i64 a1, .i .i64 a2, .i .i64 a3, .sl a4.length (a4.flatMap eGApiRange), .sl a5.length (a5.flatMap eGApiWrite)]], (resVs_cons (ResV.tmp _ _ rfl) resVs_nil), rfl, rfl, ⟨by decide, rfl⟩, rfl, rfl, ⟨rfl, rfl⟩⟩

def m42_slices_IndexFuncs_k1 (b1 : Unit) : Option Int :=
  some (-1)

def m42_slices_IndexFuncs_s2 (a0 : List GSerialTx) (a1 : Int) (a2 : Int) (a3 : Int) (a4 : List GApiRange) (a5 : List GApiWrite) (s2 : Int) : Option (LR (Int) (Unit) (Int)) :=
  if (decide (s2 < (a0.length : Int))) then ((idx a0 s2).bind fun u3 => (m15_serial_Sane_1s u3 a1 a2 a3 a4 a5).bind fun v4 => if v4 then (some (.ret s2)) else (some (.cont (wI (s2 + 1))))) else (some (.brk ()))
def m42_slices_IndexFuncs (a0 : List GSerialTx) (a1 : Int) (a2 : Int) (a3 : Int) (a4 : List GApiRange) (a5 : List GApiWrite) : Option Int :=
  (iter (m42_slices_IndexFuncs_s2 a0 a1 a2 a3 a4 a5) fuel 0).bind fun x => match x with | .inl r => some r | .inr e5 => m42_slices_IndexFuncs_k1 e5

set_option maxRecDepth 100000 in
theorem m42_slices_IndexFuncs_c {a0 : List GSerialTx} {a1 : Int} {a2 : Int} {a3 : Int} {a4 : List GApiRange} {a5 : List GApiWrite} {r : Int} (h : m42_slices_IndexFuncs a0 a1 a2 a3 a4 a5 = some r) : CallsB Try.prog 42 [.box [.i .i64 a1, .i .i64 a2, .i .i64 a3, .sl a4.length (a4.flatMap eGApiRange), .sl a5.length (a5.flatMap eGApiWrite)]] [.one (.sl a0.length (a0.flatMap eGSerialTx)), .one (.fn 15 [] [.lp 0 0])] (fun y m' => y = .s (.one (.i .i64 r)) ∧ m' = [.box [.i .i64 a1, .i .i64 a2, .i .i64 a3, .sl a4.length (a4.flatMap eGApiRange), .sl a5.length (a5.flatMap eGApiWrite)]]) := by
  unfold m42_slices_IndexFuncs at h
  refine callsB_of Try.func42 rfl (nt := 19) rfl (Nat.le_of_ble_eq_true rfl) ?_
  intro w0 S0 X0 H0
  refine cseq ?_
  refine cregion ?_
  refine sv rfl (opv_as rfl) ?_
  refine snil ?_
  refine cseq ?_
  refine cseq ?_
  refine cregion ?_
  refine sv rfl (opv_mv rfl) ?_
  refine sv rfl (opv_len_sl si48 rfl) ?_
  refine sv rfl (opv_mv rfl) ?_
  refine snil ?_
  refine cjoin (Unit) (fun b1 => []) (fun b1 => [.box [.i .i64 a1, .i .i64 a2, .i .i64 a3, .sl a4.length (a4.flatMap eGApiRange), .sl a5.length (a5.flatMap eGApiWrite)]]) (fun b1 => m42_slices_IndexFuncs_k1 b1 = some r) (fun _ _ => inbL_of rfl) (fun _ _ => blkinb_of rfl) (fun _ _ => Nat.le_of_ble_eq_true rfl) (fun b1 h => ?_) ?_
  · unfold m42_slices_IndexFuncs_k1 at h
    refine cseq ?_
    refine cregion ?_
    refine sv rfl (opv_as rfl) ?_
    refine snil ?_
    refine cret ?_
    obtain rfl := Option.some.inj h
    exact ⟨Or.inr rfl, _, [0], [.one (.i .i64 (-1))], [.box [.i .i64 a1, .i .i64 a2, .i .i64 a3, .sl a4.length (a4.flatMap eGApiRange), .sl a5.length (a5.flatMap eGApiWrite)]], (resVs_cons (ResV.tmp _ _ rfl) resVs_nil), rfl, rfl, ⟨by decide, rfl⟩, rfl, rfl, ⟨rfl, rfl⟩⟩
  · skip
    refine cblock ?_
    obtain ⟨x2, hx2, ho2⟩ := bind_eq h
    refine awc_loop (G := Nat × (Int)) (fun g => [(0, .s (.one (.sl a0.length (a0.flatMap eGSerialTx)))), (1, .s (.one (.fn 15 [] [.lp 0 0]))), (7, .s (.one (.i .i64 (a0.length : Int)))), (8, .s (.one (.i .i64 g.2)))]) (fun g => [.box [.i .i64 a1, .i .i64 a2, .i .i64 a3, .sl a4.length (a4.flatMap eGApiRange), .sl a5.length (a5.flatMap eGApiWrite)]]) (fun g => iter (m42_slices_IndexFuncs_s2 a0 a1 a2 a3 a4 a5) g.1 g.2 = some x2) (fun g => g.1) (fuel, 0) hx2 ⟨rfl, rfl, rfl, rfl, trivial⟩ [] rfl (fun _ _ => inbL_of rfl) (fun _ _ => blkinb_of rfl) (fun _ _ => Nat.le_of_ble_eq_true rfl) ?_
    clear hx2 h
    rintro ⟨n2, s2⟩ h
    obtain ⟨n2, y2, rfl, h, hk2⟩ := iter_eq h
    unfold m42_slices_IndexFuncs_s2 at h
    refine cseq ?_
    refine cregion ?_
    refine sv rfl (opv_lss rfl rfl) ?_
    refine snil ?_
    refine cseq ?_
    refine ccond rfl (fun hc => ?_) (fun hc => ?_)
    · replace h := ite_t hc h
      clear hc
      refine cskip ?_
      refine then_normal ?_
      refine cseq ?_
      refine cblock ?_
      refine cseq ?_
      refine cregion ?_
      refine sv rfl (opv_mv rfl) ?_
      refine sv rfl (opv_as rfl) ?_
      refine snil ?_
      refine cseq ?_
      refine cregion ?_
      refine sv rfl (opv_mv rfl) ?_
      refine sv rfl (opv_mv rfl) ?_
      refine sv rfl (opv_mv rfl) ?_
      obtain ⟨u3, hu3, h⟩ := bind_eq h
      refine sv rfl (opv_ix (f := eGSerialTx) si48 (fun _ => rfl) rfl rfl rfl rfl hu3) ?_
      refine sv rfl (opv_loadNe (ys := [.i .i64 u3.Token, .i .i64 u3.Snap, .i .i64 u3.Ts, .sl u3.Reads.length (u3.Reads.flatMap eGApiRange), .sl u3.Writes.length (u3.Writes.flatMap eGApiWrite)]) ti35 rfl (.cp _) rfl rfl) ?_
      obtain ⟨v4, hv4, h⟩ := bind_eq h
      refine scallB (x' := .s (.one (.b v4))) (M' := [.box [.i .i64 a1, .i .i64 a2, .i .i64 a3, .sl a4.length (a4.flatMap eGApiRange), .sl a5.length (a5.flatMap eGApiWrite)]]) [0] rfl fn15 (.fn _ _ _ _ rfl) (opnds_cons rfl opnds_nil) (m15_serial_Sane_1s_c hv4) rfl rfl (by decide) rfl rfl rfl ?_
      refine snil ?_
      refine ccond rfl (fun hc => ?_) (fun hc => ?_)
      · replace h := ite_t hc h
        clear hc
        refine cseq ?_
        refine cregion ?_
        refine sv rfl (opv_mv rfl) ?_
        refine sv rfl (opv_as rfl) ?_
        refine snil ?_
        refine cret ?_
        refine block_ret ?_
        refine then_ret ?_
        refine then_ret ?_
        refine block_ret ?_
        refine then_ret ?_
        obtain rfl := Option.some.inj h
        obtain rfl : Sum.inl _ = x2 := hk2
        replace ho2 : some _ = some _ := ho2
        obtain rfl := Option.some.inj ho2
        exact ⟨Or.inr rfl, _, [0], [.one (.i .i64 s2)], [.box [.i .i64 a1, .i .i64 a2, .i .i64 a3, .sl a4.length (a4.flatMap eGApiRange), .sl a5.length (a5.flatMap eGApiWrite)]], (resVs_cons (ResV.tmp _ _ rfl) resVs_nil), rfl, rfl, ⟨by decide, rfl⟩, rfl, rfl, ⟨rfl, rfl⟩⟩
      · replace h := ite_f hc h
        clear hc
        refine cskip ?_
        refine block_normal ?_
        refine then_normal ?_
        refine cregion ?_
        refine sv rfl (opv_add rfl rfl) ?_
        refine sv rfl (opv_mv rfl) ?_
        refine snil ?_
        obtain rfl := Option.some.inj h
        exact ⟨(n2, (wI (s2 + 1))), _, hk2, ⟨rfl, rfl, rfl, rfl, trivial⟩, rfl, Nat.lt_succ_self _⟩
    · replace h := ite_f hc h
      clear hc
      refine cexit ?_
      refine then_exit ?_
      refine then_exit ?_
      refine block_hit ?_
      refine then_normal ?_
      obtain rfl := Option.some.inj h
      obtain rfl : _ = x2 := hk2
      exact ⟨(), _, ho2, trivial, rfl⟩

def m29_serial_rows (a0 : List GSerialTx) (a1 : Int) (a2 : Int) (a3 : Int) (a4 : List GApiRange) (a5 : List GApiWrite) : Option Int :=
  (m42_slices_IndexFuncs a0 a1 a2 a3 a4 a5).bind fun v1 => some v1

set_option maxRecDepth 100000 in
theorem m29_serial_rows_c {a0 : List GSerialTx} {a1 : Int} {a2 : Int} {a3 : Int} {a4 : List GApiRange} {a5 : List GApiWrite} {r : Int} (h : m29_serial_rows a0 a1 a2 a3 a4 a5 = some r) : CallsB Try.prog 29 [.box [.i .i64 a1, .i .i64 a2, .i .i64 a3, .sl a4.length (a4.flatMap eGApiRange), .sl a5.length (a5.flatMap eGApiWrite)]] [.one (.sl a0.length (a0.flatMap eGSerialTx)), .one (.fn 15 [] [.lp 0 0])] (fun y m' => y = .s (.one (.i .i64 r)) ∧ m' = [.box [.i .i64 a1, .i .i64 a2, .i .i64 a3, .sl a4.length (a4.flatMap eGApiRange), .sl a5.length (a5.flatMap eGApiWrite)]]) := by
  unfold m29_serial_rows at h
  refine callsB_of Try.func29 rfl (nt := 8) rfl (Nat.le_of_ble_eq_true rfl) ?_
  intro w0 S0 X0 H0
  refine cseq ?_
  refine cregion ?_
  refine sv rfl (opv_as rfl) ?_
  refine snil ?_
  refine cseq ?_
  refine cregion ?_
  refine sv rfl (opv_mv rfl) ?_
  refine sv rfl (opv_mv rfl) ?_
  obtain ⟨v1, hv1, h⟩ := bind_eq h
  refine scallB (x' := .s (.one (.i .i64 v1))) (M' := [.box [.i .i64 a1, .i .i64 a2, .i .i64 a3, .sl a4.length (a4.flatMap eGApiRange), .sl a5.length (a5.flatMap eGApiWrite)]]) [0] rfl fn42 (.func _) (opnds_cons rfl (opnds_cons rfl opnds_nil)) (m42_slices_IndexFuncs_c hv1) rfl rfl (by decide) rfl rfl rfl ?_
  refine sv rfl (opv_as rfl) ?_
  refine snil ?_
  refine cret ?_
  obtain rfl := Option.some.inj h
  exact ⟨Or.inr rfl, _, [0], [.one (.i .i64 v1)], [.box [.i .i64 a1, .i .i64 a2, .i .i64 a3, .sl a4.length (a4.flatMap eGApiRange), .sl a5.length (a5.flatMap eGApiWrite)]], (resVs_cons (ResV.tmp _ _ rfl) resVs_nil), rfl, rfl, ⟨by decide, rfl⟩, rfl, rfl, ⟨rfl, rfl⟩⟩

def m17_serial_rows (a0 : List GSerialTx) (a1 : Int) (a2 : Int) (a3 : Int) (a4 : List GApiRange) (a5 : List GApiWrite) : Option Bool :=
  (m29_serial_rows a0 a1 a2 a3 a4 a5).bind fun v1 => some (decide (0 ≤ v1))

set_option maxRecDepth 100000 in
theorem m17_serial_rows_c {a0 : List GSerialTx} {a1 : Int} {a2 : Int} {a3 : Int} {a4 : List GApiRange} {a5 : List GApiWrite} {r : Bool} (h : m17_serial_rows a0 a1 a2 a3 a4 a5 = some r) : CallsB Try.prog 17 [.box [.i .i64 a1, .i .i64 a2, .i .i64 a3, .sl a4.length (a4.flatMap eGApiRange), .sl a5.length (a5.flatMap eGApiWrite)]] [.one (.sl a0.length (a0.flatMap eGSerialTx)), .one (.fn 15 [] [.lp 0 0])] (fun y m' => y = .s (.one (.b r)) ∧ m' = [.box [.i .i64 a1, .i .i64 a2, .i .i64 a3, .sl a4.length (a4.flatMap eGApiRange), .sl a5.length (a5.flatMap eGApiWrite)]]) := by
  unfold m17_serial_rows at h
  refine callsB_of Try.func17 rfl (nt := 9) rfl (Nat.le_of_ble_eq_true rfl) ?_
  intro w0 S0 X0 H0
  refine cseq ?_
  refine cregion ?_
  refine sv rfl (opv_as rfl) ?_
  refine snil ?_
  refine cseq ?_
  refine cregion ?_
  refine sv rfl (opv_mv rfl) ?_
  refine sv rfl (opv_mv rfl) ?_
  obtain ⟨v1, hv1, h⟩ := bind_eq h
  refine scallB (x' := .s (.one (.i .i64 v1))) (M' := [.box [.i .i64 a1, .i .i64 a2, .i .i64 a3, .sl a4.length (a4.flatMap eGApiRange), .sl a5.length (a5.flatMap eGApiWrite)]]) [0] rfl fn29 (.func _) (opnds_cons rfl (opnds_cons rfl opnds_nil)) (m29_serial_rows_c hv1) rfl rfl (by decide) rfl rfl rfl ?_
  refine sv rfl (opv_geq rfl rfl) ?_
  refine sv rfl (opv_as rfl) ?_
  refine snil ?_
  refine cret ?_
  obtain rfl := Option.some.inj h
  exact ⟨Or.inr rfl, _, [0], [.one (.b (decide (0 ≤ v1)))], [.box [.i .i64 a1, .i .i64 a2, .i .i64 a3, .sl a4.length (a4.flatMap eGApiRange), .sl a5.length (a5.flatMap eGApiWrite)]], (resVs_cons (ResV.tmp _ _ rfl) resVs_nil), rfl, rfl, ⟨by decide, rfl⟩, rfl, rfl, ⟨rfl, rfl⟩⟩

def m8_serial_Sane_k1 (a0 : List GSerialTx) (b1 : Unit) : Option Bool :=
  some (decide ((a0.length : Int) ≤ 64))

def m8_serial_Sane_s2 (a0 : List GSerialTx) (s2 : Int) : Option (LR (Int) (Unit) (Bool)) :=
  if (decide (s2 < (a0.length : Int))) then ((idx a0 s2).bind fun u3 => (m16_serial_saneTx u3).bind fun v4 => if (!v4) then (some (.ret false)) else ((cut a0 0 s2).bind fun c5 => (m17_serial_rows c5 u3.Token u3.Snap u3.Ts u3.Reads u3.Writes).bind fun v6 => if v6 then (some (.ret false)) else (some (.cont (wI (s2 + 1)))))) else (some (.brk ()))
def m8_serial_Sane (a0 : List GSerialTx) : Option Bool :=
  (iter (m8_serial_Sane_s2 a0) fuel 0).bind fun x => match x with | .inl r => some r | .inr e7 => m8_serial_Sane_k1 a0 e7

set_option maxRecDepth 100000 in
theorem m8_serial_Sane_c {a0 : List GSerialTx} {r : Bool} (h : m8_serial_Sane a0 = some r) : CallsA Try.prog 8 [.one (.sl a0.length (a0.flatMap eGSerialTx))] (· = .s (.one (.b r))) := by
  unfold m8_serial_Sane at h
  refine callsA_of Try.func8 rfl (nt := 28) rfl (Nat.le_of_ble_eq_true rfl) ?_
  intro w0 S0
  refine cseq ?_
  refine cregion ?_
  refine sv rfl (opv_as rfl) ?_
  refine snil ?_
  refine cseq ?_
  refine cseq ?_
  refine cregion ?_
  refine sv rfl (opv_mv rfl) ?_
  refine sv rfl (opv_len_sl si26 rfl) ?_
  refine sv rfl (opv_mv rfl) ?_
  refine snil ?_
  refine cjoin (Unit) (fun b1 => [(0, .s (.one (.sl a0.length (a0.flatMap eGSerialTx))))]) (fun b1 => []) (fun b1 => m8_serial_Sane_k1 a0 b1 = some r) (fun _ _ => inbL_of rfl) (fun _ _ => blkinb_of rfl) (fun _ _ => Nat.le_of_ble_eq_true rfl) (fun b1 h => ?_) ?_
  · unfold m8_serial_Sane_k1 at h
    refine cseq ?_
    refine cregion ?_
    refine sv rfl (opv_mv rfl) ?_
    refine sv rfl (opv_len_sl si26 rfl) ?_
    refine sv rfl (opv_leq rfl rfl) ?_
    refine sv rfl (opv_as rfl) ?_
    refine snil ?_
    refine cret ?_
    obtain rfl := Option.some.inj h
    refine ⟨Or.inr rfl, _, _, _, (resVs_cons (ResV.tmp _ _ rfl) resVs_nil), (pubA_id rfl), ?_⟩
    rfl
  · skip
    refine cblock ?_
    obtain ⟨x2, hx2, ho2⟩ := bind_eq h
    refine awc_loop (G := Nat × (Int)) (fun g => [(0, .s (.one (.sl a0.length (a0.flatMap eGSerialTx)))), (6, .s (.one (.sl a0.length (a0.flatMap eGSerialTx)))), (7, .s (.one (.i .i64 (a0.length : Int)))), (8, .s (.one (.i .i64 g.2)))]) (fun g => []) (fun g => iter (m8_serial_Sane_s2 a0) g.1 g.2 = some x2) (fun g => g.1) (fuel, 0) hx2 ⟨rfl, rfl, rfl, rfl, trivial⟩ [] rfl (fun _ _ => inbL_of rfl) (fun _ _ => blkinb_of rfl) (fun _ _ => Nat.le_of_ble_eq_true rfl) ?_
    clear hx2 h
    rintro ⟨n2, s2⟩ h
    obtain ⟨n2, y2, rfl, h, hk2⟩ := iter_eq h
    unfold m8_serial_Sane_s2 at h
    refine cseq ?_
    refine cregion ?_
    refine sv rfl (opv_lss rfl rfl) ?_
    refine snil ?_
    refine cseq ?_
    refine ccond rfl (fun hc => ?_) (fun hc => ?_)
    · replace h := ite_t hc h
      clear hc
      refine cskip ?_
      refine then_normal ?_
      refine cseq ?_
      refine cblock ?_
      refine cseq ?_
      refine cregion ?_
      refine sv rfl (opv_mv rfl) ?_
      obtain ⟨u3, hu3, h⟩ := bind_eq h
      refine sv rfl (opv_ix (f := eGSerialTx) si26 (fun _ => rfl) rfl rfl rfl rfl hu3) ?_
      refine sv rfl (opv_loadNe (ys := [.i .i64 u3.Token, .i .i64 u3.Snap, .i .i64 u3.Ts, .sl u3.Reads.length (u3.Reads.flatMap eGApiRange), .sl u3.Writes.length (u3.Writes.flatMap eGApiWrite)]) ti35 rfl (.cp _) rfl rfl) ?_
      refine salloc rfl zi35 ?_
      refine sv rfl (opv_as rfl) ?_
      refine sstore sz35 rfl rfl rfl rfl (Nat.le_of_ble_eq_true rfl) ?_
      refine smem [.box [.i .i64 u3.Token, .i .i64 u3.Snap, .i .i64 u3.Ts, .sl u3.Reads.length (u3.Reads.flatMap eGApiRange), .sl u3.Writes.length (u3.Writes.flatMap eGApiWrite)]] rfl ?_
      refine snil ?_
      refine cseq ?_
      refine cregion ?_
      refine sv rfl (opv_makeFunc opnds1_nil (opnds1_cons rfl rfl opnds1_nil)) ?_
      refine sv rfl (opv_as rfl) ?_
      refine snil ?_
      refine cseq ?_
      refine cregion ?_
      refine sv rfl (opv_loadN ti35 rfl (.lp _ _ _ rfl) (Nat.le_of_ble_eq_true rfl)) ?_
      obtain ⟨v4, hv4, h⟩ := bind_eq h
      refine scall1 rfl fn16 (opnds_cons rfl opnds_nil) (pubA_id rfl) (m16_serial_saneTx_c hv4) ?_
      refine sv rfl (opv_not rfl) ?_
      refine sv rfl (opv_mv rfl) ?_
      refine ssplit 17 rfl (fun hc => ?_) (fun hc => ?_)
      · replace h := ite_t hc h
        clear hc
        refine soff rfl rfl rfl rfl ?_
        refine soff rfl rfl rfl rfl ?_
        refine soff rfl rfl rfl rfl ?_
        refine soff rfl rfl rfl rfl ?_
        refine soff rfl rfl rfl rfl ?_
        refine sv rfl (opv_pick_t rfl rfl) ?_
        refine snil ?_
        refine ccond rfl (fun _ => ?_) (fun hx => Bool.noConfusion hx)
        refine cseq ?_
        refine cregion ?_
        refine sv rfl (opv_as rfl) ?_
        refine snil ?_
        refine cret ?_
        refine block_ret ?_
        refine then_ret ?_
        refine then_ret ?_
        refine block_ret ?_
        refine then_ret ?_
        obtain rfl := Option.some.inj h
        obtain rfl : Sum.inl _ = x2 := hk2
        replace ho2 : some _ = some _ := ho2
        obtain rfl := Option.some.inj ho2
        refine ⟨Or.inr rfl, _, _, _, (resVs_cons (ResV.tmp _ _ rfl) resVs_nil), (pubA_id rfl), ?_⟩
        rfl
      · replace h := ite_f hc h
        clear hc
        refine son rfl rfl rfl ?_
        refine sv rfl (opv_mv rfl) ?_
        refine son rfl rfl rfl ?_
        refine sv rfl (opv_mv rfl) ?_
        refine son rfl rfl rfl ?_
        obtain ⟨c5, hc5, h⟩ := bind_eq h
        refine sv rfl (opv_cut (f := eGSerialTx) (lo := 0) (hi := s2) si26 (fun _ => rfl) rfl rfl rfl bound_none (bound_some rfl (Int.le_trans (cut_eq hc5).1.1 (cut_eq hc5).1.2.1)) hc5) ?_
        refine son rfl rfl rfl ?_
        refine sv rfl (opv_mv rfl) ?_
        refine son rfl rfl rfl ?_
        obtain ⟨v6, hv6, h⟩ := bind_eq h
        refine scallB (x' := .s (.one (.b v6))) (M' := [.box [.i .i64 u3.Token, .i .i64 u3.Snap, .i .i64 u3.Ts, .sl u3.Reads.length (u3.Reads.flatMap eGApiRange), .sl u3.Writes.length (u3.Writes.flatMap eGApiWrite)]]) [0] rfl fn17 (.func _) (opnds_cons rfl (opnds_cons rfl opnds_nil)) (m17_serial_rows_c hv6) rfl rfl (by decide) rfl rfl rfl ?_
        refine sv rfl (opv_pick_f rfl rfl) ?_
        refine snil ?_
        refine ccond rfl (fun hc => ?_) (fun hc => ?_)
        · replace h := ite_t hc h
          clear hc
          refine cseq ?_
          refine cregion ?_
          refine sv rfl (opv_as rfl) ?_
          refine snil ?_
          refine cret ?_
          refine block_ret ?_
          refine then_ret ?_
          refine then_ret ?_
          refine block_ret ?_
          refine then_ret ?_
          obtain rfl := Option.some.inj h
          obtain rfl : Sum.inl _ = x2 := hk2
          replace ho2 : some _ = some _ := ho2
          obtain rfl := Option.some.inj ho2
          refine ⟨Or.inr rfl, _, _, _, (resVs_cons (ResV.tmp _ _ rfl) resVs_nil), (pubA_id rfl), ?_⟩
          rfl
        · replace h := ite_f hc h
          clear hc
          refine cskip ?_
          refine block_normal ?_
          refine then_normal ?_
          refine cregion ?_
          refine sv rfl (opv_add rfl rfl) ?_
          refine sv rfl (opv_mv rfl) ?_
          refine snil ?_
          obtain rfl := Option.some.inj h
          exact ⟨(n2, (wI (s2 + 1))), _, hk2, ⟨rfl, rfl, rfl, rfl, trivial⟩, rfl, Nat.lt_succ_self _⟩
    · replace h := ite_f hc h
      clear hc
      refine cexit ?_
      refine then_exit ?_
      refine then_exit ?_
      refine block_hit ?_
      refine then_normal ?_
      obtain rfl := Option.some.inj h
      obtain rfl : _ = x2 := hk2
      exact ⟨(), _, ho2, ⟨rfl, trivial⟩, rfl⟩

def m35_bytes_Equal (a0 : List UInt8) (a1 : List UInt8) : Option Bool :=
  some (a0 == a1)

set_option maxRecDepth 100000 in
theorem m35_bytes_Equal_c {a0 : List UInt8} {a1 : List UInt8} {r : Bool} (h : m35_bytes_Equal a0 a1 = some r) : CallsA Try.prog 35 [.one (.sl a0.length (a0.flatMap eU8)), .one (.sl a1.length (a1.flatMap eU8))] (· = .s (.one (.b r))) := by
  unfold m35_bytes_Equal at h
  refine callsA_of Try.func35 rfl (nt := 10) rfl (Nat.le_of_ble_eq_true rfl) ?_
  intro w0 S0
  refine cseq ?_
  refine cregion ?_
  refine sv rfl (opv_as rfl) ?_
  refine snil ?_
  refine cseq ?_
  refine cregion ?_
  refine sv rfl (opv_mv rfl) ?_
  refine sv rfl (opv_bs (l := a0) Try.underlying37 Try.underlying5 Try.underlying9 rfl rfl rfl) ?_
  refine sv rfl (opv_mv rfl) ?_
  refine sv rfl (opv_bs (l := a1) Try.underlying37 Try.underlying5 Try.underlying9 rfl rfl rfl) ?_
  refine sv rfl (opv_seql' rfl rfl) ?_
  refine sv rfl (opv_as rfl) ?_
  refine snil ?_
  refine cret ?_
  obtain rfl := Option.some.inj h
  refine ⟨Or.inr rfl, _, _, _, (resVs_cons (ResV.tmp _ _ rfl) resVs_nil), (pubA_id rfl), ?_⟩
  rfl

def m34_serial_bothWrite_1_1s (a0 : GApiWrite) (a1 : List UInt8) (a2 : List UInt8) (a3 : Bool) : Option Bool :=
  (m35_bytes_Equal a1 a0.Key).bind fun v1 => some v1

set_option maxRecDepth 100000 in
theorem m34_serial_bothWrite_1_1s_c {a0 : GApiWrite} {a1 : List UInt8} {a2 : List UInt8} {a3 : Bool} {r : Bool} (h : m34_serial_bothWrite_1_1s a0 a1 a2 a3 = some r) : CallsB Try.prog 34 [.box [.sl a1.length (a1.flatMap eU8), .sl a2.length (a2.flatMap eU8), .b a3]] [.agg [.sl a0.Key.length (a0.Key.flatMap eU8), .sl a0.Val.length (a0.Val.flatMap eU8), .b a0.Del], .one (.lp 0 0)] (fun y m' => y = .s (.one (.b r)) ∧ m' = [.box [.sl a1.length (a1.flatMap eU8), .sl a2.length (a2.flatMap eU8), .b a3]]) := by
  unfold m34_serial_bothWrite_1_1s at h
  refine callsB_of Try.func34 rfl (nt := 9) rfl (Nat.le_of_ble_eq_true rfl) ?_
  intro w0 S0 X0 H0
  refine cseq ?_
  refine cregion ?_
  refine sbox rfl rfl ?_
  refine sv rfl (opv_as rfl) ?_
  refine snil ?_
  refine cseq ?_
  refine cregion ?_
  refine sv rfl (opv_fieldAddr_lp fi39_0 rfl) ?_
  refine sv rfl (opv_load1 ti37 rfl (.lp _ _ _ rfl) rfl) ?_
  refine sv rfl (opv_fieldAddr_lp fi39_0 rfl) ?_
  refine sv rfl (opv_load1 ti37 rfl (.lp _ _ _ rfl) rfl) ?_
  obtain ⟨v1, hv1, h⟩ := bind_eq h
  refine scall1 rfl fn35 (opnds_cons rfl (opnds_cons rfl opnds_nil)) (pubA_id rfl) (m35_bytes_Equal_c hv1) ?_
  refine sv rfl (opv_as rfl) ?_
  refine snil ?_
  refine cret ?_
  obtain rfl := Option.some.inj h
  exact ⟨Or.inr rfl, _, [0], [.one (.b v1)], [.box [.sl a1.length (a1.flatMap eU8), .sl a2.length (a2.flatMap eU8), .b a3]], (resVs_cons (ResV.tmp _ _ rfl) resVs_nil), rfl, rfl, ⟨by decide, rfl⟩, rfl, rfl, ⟨rfl, rfl⟩⟩

def m47_slices_IndexFuncs1_k1 (b1 : Unit) : Option Int :=
  some (-1)

def m47_slices_IndexFuncs1_s2 (a0 : List GApiWrite) (a1 : List UInt8) (a2 : List UInt8) (a3 : Bool) (s2 : Int) : Option (LR (Int) (Unit) (Int)) :=
  if (decide (s2 < (a0.length : Int))) then ((idx a0 s2).bind fun u3 => (m34_serial_bothWrite_1_1s u3 a1 a2 a3).bind fun v4 => if v4 then (some (.ret s2)) else (some (.cont (wI (s2 + 1))))) else (some (.brk ()))
def m47_slices_IndexFuncs1 (a0 : List GApiWrite) (a1 : List UInt8) (a2 : List UInt8) (a3 : Bool) : Option Int :=
  (iter (m47_slices_IndexFuncs1_s2 a0 a1 a2 a3) fuel 0).bind fun x => match x with | .inl r => some r | .inr e5 => m47_slices_IndexFuncs1_k1 e5

set_option maxRecDepth 100000 in
theorem m47_slices_IndexFuncs1_c {a0 : List GApiWrite} {a1 : List UInt8} {a2 : List UInt8} {a3 : Bool} {r : Int} (h : m47_slices_IndexFuncs1 a0 a1 a2 a3 = some r) : CallsB Try.prog 47 [.box [.sl a1.length (a1.flatMap eU8), .sl a2.length (a2.flatMap eU8), .b a3]] [.one (.sl a0.length (a0.flatMap eGApiWrite)), .one (.fn 34 [] [.lp 0 0])] (fun y m' => y = .s (.one (.i .i64 r)) ∧ m' = [.box [.sl a1.length (a1.flatMap eU8), .sl a2.length (a2.flatMap eU8), .b a3]]) := by
  unfold m47_slices_IndexFuncs1 at h
  refine callsB_of Try.func47 rfl (nt := 19) rfl (Nat.le_of_ble_eq_true rfl) ?_
  intro w0 S0 X0 H0
  refine cseq ?_
  refine cregion ?_
  refine sv rfl (opv_as rfl) ?_
  refine snil ?_
  refine cseq ?_
  refine cseq ?_
  refine cregion ?_
  refine sv rfl (opv_mv rfl) ?_
  refine sv rfl (opv_len_sl si62 rfl) ?_
  refine sv rfl (opv_mv rfl) ?_
  refine snil ?_
  refine cjoin (Unit) (fun b1 => []) (fun b1 => [.box [.sl a1.length (a1.flatMap eU8), .sl a2.length (a2.flatMap eU8), .b a3]]) (fun b1 => m47_slices_IndexFuncs1_k1 b1 = some r) (fun _ _ => inbL_of rfl) (fun _ _ => blkinb_of rfl) (fun _ _ => Nat.le_of_ble_eq_true rfl) (fun b1 h => ?_) ?_
  · unfold m47_slices_IndexFuncs1_k1 at h
    refine cseq ?_
    refine cregion ?_
    refine sv rfl (opv_as rfl) ?_
    refine snil ?_
    refine cret ?_
    obtain rfl := Option.some.inj h
    exact ⟨Or.inr rfl, _, [0], [.one (.i .i64 (-1))], [.box [.sl a1.length (a1.flatMap eU8), .sl a2.length (a2.flatMap eU8), .b a3]], (resVs_cons (ResV.tmp _ _ rfl) resVs_nil), rfl, rfl, ⟨by decide, rfl⟩, rfl, rfl, ⟨rfl, rfl⟩⟩
  · skip
    refine cblock ?_
    obtain ⟨x2, hx2, ho2⟩ := bind_eq h
    refine awc_loop (G := Nat × (Int)) (fun g => [(0, .s (.one (.sl a0.length (a0.flatMap eGApiWrite)))), (1, .s (.one (.fn 34 [] [.lp 0 0]))), (7, .s (.one (.i .i64 (a0.length : Int)))), (8, .s (.one (.i .i64 g.2)))]) (fun g => [.box [.sl a1.length (a1.flatMap eU8), .sl a2.length (a2.flatMap eU8), .b a3]]) (fun g => iter (m47_slices_IndexFuncs1_s2 a0 a1 a2 a3) g.1 g.2 = some x2) (fun g => g.1) (fuel, 0) hx2 ⟨rfl, rfl, rfl, rfl, trivial⟩ [] rfl (fun _ _ => inbL_of rfl) (fun _ _ => blkinb_of rfl) (fun _ _ => Nat.le_of_ble_eq_true rfl) ?_
    clear hx2 h
    rintro ⟨n2, s2⟩ h
    obtain ⟨n2, y2, rfl, h, hk2⟩ := iter_eq h
    unfold m47_slices_IndexFuncs1_s2 at h
    refine cseq ?_
    refine cregion ?_
    refine sv rfl (opv_lss rfl rfl) ?_
    refine snil ?_
    refine cseq ?_
    refine ccond rfl (fun hc => ?_) (fun hc => ?_)
    · replace h := ite_t hc h
      clear hc
      refine cskip ?_
      refine then_normal ?_
      refine cseq ?_
      refine cblock ?_
      refine cseq ?_
      refine cregion ?_
      refine sv rfl (opv_mv rfl) ?_
      refine sv rfl (opv_as rfl) ?_
      refine snil ?_
      refine cseq ?_
      refine cregion ?_
      refine sv rfl (opv_mv rfl) ?_
      refine sv rfl (opv_mv rfl) ?_
      refine sv rfl (opv_mv rfl) ?_
      obtain ⟨u3, hu3, h⟩ := bind_eq h
      refine sv rfl (opv_ix (f := eGApiWrite) si62 (fun _ => rfl) rfl rfl rfl rfl hu3) ?_
      refine sv rfl (opv_loadNe (ys := [.sl u3.Key.length (u3.Key.flatMap eU8), .sl u3.Val.length (u3.Val.flatMap eU8), .b u3.Del]) ti39 rfl (.cp _) rfl rfl) ?_
      obtain ⟨v4, hv4, h⟩ := bind_eq h
      refine scallB (x' := .s (.one (.b v4))) (M' := [.box [.sl a1.length (a1.flatMap eU8), .sl a2.length (a2.flatMap eU8), .b a3]]) [0] rfl fn34 (.fn _ _ _ _ rfl) (opnds_cons rfl opnds_nil) (m34_serial_bothWrite_1_1s_c hv4) rfl rfl (by decide) rfl rfl rfl ?_
      refine snil ?_
      refine ccond rfl (fun hc => ?_) (fun hc => ?_)
      · replace h := ite_t hc h
        clear hc
        refine cseq ?_
        refine cregion ?_
        refine sv rfl (opv_mv rfl) ?_
        refine sv rfl (opv_as rfl) ?_
        refine snil ?_
        refine cret ?_
        refine block_ret ?_
        refine then_ret ?_
        refine then_ret ?_
        refine block_ret ?_
        refine then_ret ?_
        obtain rfl := Option.some.inj h
        obtain rfl : Sum.inl _ = x2 := hk2
        replace ho2 : some _ = some _ := ho2
        obtain rfl := Option.some.inj ho2
        exact ⟨Or.inr rfl, _, [0], [.one (.i .i64 s2)], [.box [.sl a1.length (a1.flatMap eU8), .sl a2.length (a2.flatMap eU8), .b a3]], (resVs_cons (ResV.tmp _ _ rfl) resVs_nil), rfl, rfl, ⟨by decide, rfl⟩, rfl, rfl, ⟨rfl, rfl⟩⟩
      · replace h := ite_f hc h
        clear hc
        refine cskip ?_
        refine block_normal ?_
        refine then_normal ?_
        refine cregion ?_
        refine sv rfl (opv_add rfl rfl) ?_
        refine sv rfl (opv_mv rfl) ?_
        refine snil ?_
        obtain rfl := Option.some.inj h
        exact ⟨(n2, (wI (s2 + 1))), _, hk2, ⟨rfl, rfl, rfl, rfl, trivial⟩, rfl, Nat.lt_succ_self _⟩
    · replace h := ite_f hc h
      clear hc
      refine cexit ?_
      refine then_exit ?_
      refine then_exit ?_
      refine block_hit ?_
      refine then_normal ?_
      obtain rfl := Option.some.inj h
      obtain rfl : _ = x2 := hk2
      exact ⟨(), _, ho2, trivial, rfl⟩

def m44_serial_rows1 (a0 : List GApiWrite) (a1 : List UInt8) (a2 : List UInt8) (a3 : Bool) : Option Int :=
  (m47_slices_IndexFuncs1 a0 a1 a2 a3).bind fun v1 => some v1

set_option maxRecDepth 100000 in
theorem m44_serial_rows1_c {a0 : List GApiWrite} {a1 : List UInt8} {a2 : List UInt8} {a3 : Bool} {r : Int} (h : m44_serial_rows1 a0 a1 a2 a3 = some r) : CallsB Try.prog 44 [.box [.sl a1.length (a1.flatMap eU8), .sl a2.length (a2.flatMap eU8), .b a3]] [.one (.sl a0.length (a0.flatMap eGApiWrite)), .one (.fn 34 [] [.lp 0 0])] (fun y m' => y = .s (.one (.i .i64 r)) ∧ m' = [.box [.sl a1.length (a1.flatMap eU8), .sl a2.length (a2.flatMap eU8), .b a3]]) := by
  unfold m44_serial_rows1 at h
  refine callsB_of Try.func44 rfl (nt := 8) rfl (Nat.le_of_ble_eq_true rfl) ?_
  intro w0 S0 X0 H0
  refine cseq ?_
  refine cregion ?_
  refine sv rfl (opv_as rfl) ?_
  refine snil ?_
  refine cseq ?_
  refine cregion ?_
  refine sv rfl (opv_mv rfl) ?_
  refine sv rfl (opv_mv rfl) ?_
  obtain ⟨v1, hv1, h⟩ := bind_eq h
  refine scallB (x' := .s (.one (.i .i64 v1))) (M' := [.box [.sl a1.length (a1.flatMap eU8), .sl a2.length (a2.flatMap eU8), .b a3]]) [0] rfl fn47 (.func _) (opnds_cons rfl (opnds_cons rfl opnds_nil)) (m47_slices_IndexFuncs1_c hv1) rfl rfl (by decide) rfl rfl rfl ?_
  refine sv rfl (opv_as rfl) ?_
  refine snil ?_
  refine cret ?_
  obtain rfl := Option.some.inj h
  exact ⟨Or.inr rfl, _, [0], [.one (.i .i64 v1)], [.box [.sl a1.length (a1.flatMap eU8), .sl a2.length (a2.flatMap eU8), .b a3]], (resVs_cons (ResV.tmp _ _ rfl) resVs_nil), rfl, rfl, ⟨by decide, rfl⟩, rfl, rfl, ⟨rfl, rfl⟩⟩

def m32_serial_rows1 (a0 : List GApiWrite) (a1 : List UInt8) (a2 : List UInt8) (a3 : Bool) : Option Bool :=
  (m44_serial_rows1 a0 a1 a2 a3).bind fun v1 => some (decide (0 ≤ v1))

set_option maxRecDepth 100000 in
theorem m32_serial_rows1_c {a0 : List GApiWrite} {a1 : List UInt8} {a2 : List UInt8} {a3 : Bool} {r : Bool} (h : m32_serial_rows1 a0 a1 a2 a3 = some r) : CallsB Try.prog 32 [.box [.sl a1.length (a1.flatMap eU8), .sl a2.length (a2.flatMap eU8), .b a3]] [.one (.sl a0.length (a0.flatMap eGApiWrite)), .one (.fn 34 [] [.lp 0 0])] (fun y m' => y = .s (.one (.b r)) ∧ m' = [.box [.sl a1.length (a1.flatMap eU8), .sl a2.length (a2.flatMap eU8), .b a3]]) := by
  unfold m32_serial_rows1 at h
  refine callsB_of Try.func32 rfl (nt := 9) rfl (Nat.le_of_ble_eq_true rfl) ?_
  intro w0 S0 X0 H0
  refine cseq ?_
  refine cregion ?_
  refine sv rfl (opv_as rfl) ?_
  refine snil ?_
  refine cseq ?_
  refine cregion ?_
  refine sv rfl (opv_mv rfl) ?_
  refine sv rfl (opv_mv rfl) ?_
  obtain ⟨v1, hv1, h⟩ := bind_eq h
  refine scallB (x' := .s (.one (.i .i64 v1))) (M' := [.box [.sl a1.length (a1.flatMap eU8), .sl a2.length (a2.flatMap eU8), .b a3]]) [0] rfl fn44 (.func _) (opnds_cons rfl (opnds_cons rfl opnds_nil)) (m44_serial_rows1_c hv1) rfl rfl (by decide) rfl rfl rfl ?_
  refine sv rfl (opv_geq rfl rfl) ?_
  refine sv rfl (opv_as rfl) ?_
  refine snil ?_
  refine cret ?_
  obtain rfl := Option.some.inj h
  exact ⟨Or.inr rfl, _, [0], [.one (.b (decide (0 ≤ v1)))], [.box [.sl a1.length (a1.flatMap eU8), .sl a2.length (a2.flatMap eU8), .b a3]], (resVs_cons (ResV.tmp _ _ rfl) resVs_nil), rfl, rfl, ⟨by decide, rfl⟩, rfl, rfl, ⟨rfl, rfl⟩⟩

def m33_serial_bothWrite_1s (a0 : GApiWrite) (a1 : Int) (a2 : Int) (a3 : Int) (a4 : List GApiRange) (a5 : List GApiWrite) : Option Bool :=
  (m32_serial_rows1 a5 a0.Key a0.Val a0.Del).bind fun v1 => some v1

set_option maxRecDepth 100000 in
theorem m33_serial_bothWrite_1s_c {a0 : GApiWrite} {a1 : Int} {a2 : Int} {a3 : Int} {a4 : List GApiRange} {a5 : List GApiWrite} {r : Bool} (h : m33_serial_bothWrite_1s a0 a1 a2 a3 a4 a5 = some r) : CallsB Try.prog 33 [.box [.i .i64 a1, .i .i64 a2, .i .i64 a3, .sl a4.length (a4.flatMap eGApiRange), .sl a5.length (a5.flatMap eGApiWrite)]] [.agg [.sl a0.Key.length (a0.Key.flatMap eU8), .sl a0.Val.length (a0.Val.flatMap eU8), .b a0.Del], .one (.lp 0 0)] (fun y m' => y = .s (.one (.b r)) ∧ m' = [.box [.i .i64 a1, .i .i64 a2, .i .i64 a3, .sl a4.length (a4.flatMap eGApiRange), .sl a5.length (a5.flatMap eGApiWrite)]]) := by
  unfold m33_serial_bothWrite_1s at h
  refine callsB_of Try.func33 rfl (nt := 8) rfl (Nat.le_of_ble_eq_true rfl) ?_
  intro w0 S0 X0 H0
  refine cseq ?_
  refine cregion ?_
  refine sbox rfl rfl ?_
  refine sv rfl (opv_as rfl) ?_
  refine snil ?_
  refine cseq ?_
  refine cregion ?_
  refine sv rfl (opv_fieldAddr_lp fi35_4 rfl) ?_
  refine sv rfl (opv_load1 ti33 rfl (.lp _ _ _ rfl) rfl) ?_
  refine sv rfl (opv_makeFunc opnds1_nil (opnds1_cons rfl rfl opnds1_nil)) ?_
  obtain ⟨v1, hv1, h⟩ := bind_eq h
  refine scallB (x' := .s (.one (.b v1))) (M' := [.box [.i .i64 a1, .i .i64 a2, .i .i64 a3, .sl a4.length (a4.flatMap eGApiRange), .sl a5.length (a5.flatMap eGApiWrite)], .box [.sl a0.Key.length (a0.Key.flatMap eU8), .sl a0.Val.length (a0.Val.flatMap eU8), .b a0.Del]]) [1] rfl fn32 (.func _) (opnds_cons rfl (opnds_cons rfl opnds_nil)) (m32_serial_rows1_c hv1) rfl rfl (by decide) rfl rfl rfl ?_
  refine sv rfl (opv_as rfl) ?_
  refine snil ?_
  refine cret ?_
  obtain rfl := Option.some.inj h
  exact ⟨Or.inr rfl, _, [0], [.one (.b v1)], [.box [.i .i64 a1, .i .i64 a2, .i .i64 a3, .sl a4.length (a4.flatMap eGApiRange), .sl a5.length (a5.flatMap eGApiWrite)]], (resVs_cons (ResV.tmp _ _ rfl) resVs_nil), rfl, rfl, ⟨by decide, rfl⟩, rfl, rfl, ⟨rfl, rfl⟩⟩

def m47_slices_IndexFuncs_k1 (b1 : Unit) : Option Int :=
  some (-1)

def m47_slices_IndexFuncs_s2 (a0 : List GApiWrite) (a1 : Int) (a2 : Int) (a3 : Int) (a4 : List GApiRange) (a5 : List GApiWrite) (s2 : Int) : Option (LR (Int) (Unit) (Int)) :=
  if (decide (s2 < (a0.length : Int))) then ((idx a0 s2).bind fun u3 => (m33_serial_bothWrite_1s u3 a1 a2 a3 a4 a5).bind fun v4 => if v4 then (some (.ret s2)) else (some (.cont (wI (s2 + 1))))) else (some (.brk ()))
def m47_slices_IndexFuncs (a0 : List GApiWrite) (a1 : Int) (a2 : Int) (a3 : Int) (a4 : List GApiRange) (a5 : List GApiWrite) : Option Int :=
  (iter (m47_slices_IndexFuncs_s2 a0 a1 a2 a3 a4 a5) fuel 0).bind fun x => match x with | .inl r => some r | .inr e5 => m47_slices_IndexFuncs_k1 e5

set_option maxRecDepth 100000 in
theorem m47_slices_IndexFuncs_c {a0 : List GApiWrite} {a1 : Int} {a2 : Int} {a3 : Int} {a4 : List GApiRange} {a5 : List GApiWrite} {r : Int} (h : m47_slices_IndexFuncs a0 a1 a2 a3 a4 a5 = some r) : CallsB Try.prog 47 [.box [.i .i64 a1, .i .i64 a2, .i .i64 a3, .sl a4.length (a4.flatMap eGApiRange), .sl a5.length (a5.flatMap eGApiWrite)]] [.one (.sl a0.length (a0.flatMap eGApiWrite)), .one (.fn 33 [] [.lp 0 0])] (fun y m' => y = .s (.one (.i .i64 r)) ∧ m' = [.box [.i .i64 a1, .i .i64 a2, .i .i64 a3, .sl a4.length (a4.flatMap eGApiRange), .sl a5.length (a5.flatMap eGApiWrite)]]) := by
  unfold m47_slices_IndexFuncs at h
  refine callsB_of Try.func47 rfl (nt := 19) rfl (Nat.le_of_ble_eq_true rfl) ?_
  intro w0 S0 X0 H0
  refine cseq ?_
  refine cregion ?_
  refine sv rfl (opv_as rfl) ?_
  refine snil ?_
  refine cseq ?_
  refine cseq ?_
  refine cregion ?_
  refine sv rfl (opv_mv rfl) ?_
  refine sv rfl (opv_len_sl si62 rfl) ?_
  refine sv rfl (opv_mv rfl) ?_
  refine snil ?_
  refine cjoin (Unit) (fun b1 => []) (fun b1 => [.box [.i .i64 a1, .i .i64 a2, .i .i64 a3, .sl a4.length (a4.flatMap eGApiRange), .sl a5.length (a5.flatMap eGApiWrite)]]) (fun b1 => m47_slices_IndexFuncs_k1 b1 = some r) (fun _ _ => inbL_of rfl) (fun _ _ => blkinb_of rfl) (fun _ _ => Nat.le_of_ble_eq_true rfl) (fun b1 h => ?_) ?_
  · unfold m47_slices_IndexFuncs_k1 at h
    refine cseq ?_
    refine cregion ?_
    refine sv rfl (opv_as rfl) ?_
    refine snil ?_
    refine cret ?_
    obtain rfl := Option.some.inj h
    exact ⟨Or.inr rfl, _, [0], [.one (.i .i64 (-1))], [.box [.i .i64 a1, .i .i64 a2, .i .i64 a3, .sl a4.length (a4.flatMap eGApiRange), .sl a5.length (a5.flatMap eGApiWrite)]], (resVs_cons (ResV.tmp _ _ rfl) resVs_nil), rfl, rfl, ⟨by decide, rfl⟩, rfl, rfl, ⟨rfl, rfl⟩⟩
  · skip
    refine cblock ?_
    obtain ⟨x2, hx2, ho2⟩ := bind_eq h
    refine awc_loop (G := Nat × (Int)) (fun g => [(0, .s (.one (.sl a0.length (a0.flatMap eGApiWrite)))), (1, .s (.one (.fn 33 [] [.lp 0 0]))), (7, .s (.one (.i .i64 (a0.length : Int)))), (8, .s (.one (.i .i64 g.2)))]) (fun g => [.box [.i .i64 a1, .i .i64 a2, .i .i64 a3, .sl a4.length (a4.flatMap eGApiRange), .sl a5.length (a5.flatMap eGApiWrite)]]) (fun g => iter (m47_slices_IndexFuncs_s2 a0 a1 a2 a3 a4 a5) g.1 g.2 = some x2) (fun g => g.1) (fuel, 0) hx2 ⟨rfl, rfl, rfl, rfl, trivial⟩ [] rfl (fun _ _ => inbL_of rfl) (fun _ _ => blkinb_of rfl) (fun _ _ => Nat.le_of_ble_eq_true rfl) ?_
    clear hx2 h
    rintro ⟨n2, s2⟩ h
    obtain ⟨n2, y2, rfl, h, hk2⟩ := iter_eq h
    unfold m47_slices_IndexFuncs_s2 at h
    refine cseq ?_
    refine cregion ?_
    refine sv rfl (opv_lss rfl rfl) ?_
    refine snil ?_
    refine cseq ?_
    refine ccond rfl (fun hc => ?_) (fun hc => ?_)
    · replace h := ite_t hc h
      clear hc
      refine cskip ?_
      refine then_normal ?_
      refine cseq ?_
      refine cblock ?_
      refine cseq ?_
      refine cregion ?_
      refine sv rfl (opv_mv rfl) ?_
      refine sv rfl (opv_as rfl) ?_
      refine snil ?_
      refine cseq ?_
      refine cregion ?_
      refine sv rfl (opv_mv rfl) ?_
      refine sv rfl (opv_mv rfl) ?_
      refine sv rfl (opv_mv rfl) ?_
      obtain ⟨u3, hu3, h⟩ := bind_eq h
      refine sv rfl (opv_ix (f := eGApiWrite) si62 (fun _ => rfl) rfl rfl rfl rfl hu3) ?_
      refine sv rfl (opv_loadNe (ys := [.sl u3.Key.length (u3.Key.flatMap eU8), .sl u3.Val.length (u3.Val.flatMap eU8), .b u3.Del]) ti39 rfl (.cp _) rfl rfl) ?_
      obtain ⟨v4, hv4, h⟩ := bind_eq h
      refine scallB (x' := .s (.one (.b v4))) (M' := [.box [.i .i64 a1, .i .i64 a2, .i .i64 a3, .sl a4.length (a4.flatMap eGApiRange), .sl a5.length (a5.flatMap eGApiWrite)]]) [0] rfl fn33 (.fn _ _ _ _ rfl) (opnds_cons rfl opnds_nil) (m33_serial_bothWrite_1s_c hv4) rfl rfl (by decide) rfl rfl rfl ?_
      refine snil ?_
      refine ccond rfl (fun hc => ?_) (fun hc => ?_)
      · replace h := ite_t hc h
        clear hc
        refine cseq ?_
        refine cregion ?_
        refine sv rfl (opv_mv rfl) ?_
        refine sv rfl (opv_as rfl) ?_
        refine snil ?_
        refine cret ?_
        refine block_ret ?_
        refine then_ret ?_
        refine then_ret ?_
        refine block_ret ?_
        refine then_ret ?_
        obtain rfl := Option.some.inj h
        obtain rfl : Sum.inl _ = x2 := hk2
        replace ho2 : some _ = some _ := ho2
        obtain rfl := Option.some.inj ho2
        exact ⟨Or.inr rfl, _, [0], [.one (.i .i64 s2)], [.box [.i .i64 a1, .i .i64 a2, .i .i64 a3, .sl a4.length (a4.flatMap eGApiRange), .sl a5.length (a5.flatMap eGApiWrite)]], (resVs_cons (ResV.tmp _ _ rfl) resVs_nil), rfl, rfl, ⟨by decide, rfl⟩, rfl, rfl, ⟨rfl, rfl⟩⟩
      · replace h := ite_f hc h
        clear hc
        refine cskip ?_
        refine block_normal ?_
        refine then_normal ?_
        refine cregion ?_
        refine sv rfl (opv_add rfl rfl) ?_
        refine sv rfl (opv_mv rfl) ?_
        refine snil ?_
        obtain rfl := Option.some.inj h
        exact ⟨(n2, (wI (s2 + 1))), _, hk2, ⟨rfl, rfl, rfl, rfl, trivial⟩, rfl, Nat.lt_succ_self _⟩
    · replace h := ite_f hc h
      clear hc
      refine cexit ?_
      refine then_exit ?_
      refine then_exit ?_
      refine block_hit ?_
      refine then_normal ?_
      obtain rfl := Option.some.inj h
      obtain rfl : _ = x2 := hk2
      exact ⟨(), _, ho2, trivial, rfl⟩

def m44_serial_rows (a0 : List GApiWrite) (a1 : Int) (a2 : Int) (a3 : Int) (a4 : List GApiRange) (a5 : List GApiWrite) : Option Int :=
  (m47_slices_IndexFuncs a0 a1 a2 a3 a4 a5).bind fun v1 => some v1

set_option maxRecDepth 100000 in
theorem m44_serial_rows_c {a0 : List GApiWrite} {a1 : Int} {a2 : Int} {a3 : Int} {a4 : List GApiRange} {a5 : List GApiWrite} {r : Int} (h : m44_serial_rows a0 a1 a2 a3 a4 a5 = some r) : CallsB Try.prog 44 [.box [.i .i64 a1, .i .i64 a2, .i .i64 a3, .sl a4.length (a4.flatMap eGApiRange), .sl a5.length (a5.flatMap eGApiWrite)]] [.one (.sl a0.length (a0.flatMap eGApiWrite)), .one (.fn 33 [] [.lp 0 0])] (fun y m' => y = .s (.one (.i .i64 r)) ∧ m' = [.box [.i .i64 a1, .i .i64 a2, .i .i64 a3, .sl a4.length (a4.flatMap eGApiRange), .sl a5.length (a5.flatMap eGApiWrite)]]) := by
  unfold m44_serial_rows at h
  refine callsB_of Try.func44 rfl (nt := 8) rfl (Nat.le_of_ble_eq_true rfl) ?_
  intro w0 S0 X0 H0
  refine cseq ?_
  refine cregion ?_
  refine sv rfl (opv_as rfl) ?_
  refine snil ?_
  refine cseq ?_
  refine cregion ?_
  refine sv rfl (opv_mv rfl) ?_
  refine sv rfl (opv_mv rfl) ?_
  obtain ⟨v1, hv1, h⟩ := bind_eq h
  refine scallB (x' := .s (.one (.i .i64 v1))) (M' := [.box [.i .i64 a1, .i .i64 a2, .i .i64 a3, .sl a4.length (a4.flatMap eGApiRange), .sl a5.length (a5.flatMap eGApiWrite)]]) [0] rfl fn47 (.func _) (opnds_cons rfl (opnds_cons rfl opnds_nil)) (m47_slices_IndexFuncs_c hv1) rfl rfl (by decide) rfl rfl rfl ?_
  refine sv rfl (opv_as rfl) ?_
  refine snil ?_
  refine cret ?_
  obtain rfl := Option.some.inj h
  exact ⟨Or.inr rfl, _, [0], [.one (.i .i64 v1)], [.box [.i .i64 a1, .i .i64 a2, .i .i64 a3, .sl a4.length (a4.flatMap eGApiRange), .sl a5.length (a5.flatMap eGApiWrite)]], (resVs_cons (ResV.tmp _ _ rfl) resVs_nil), rfl, rfl, ⟨by decide, rfl⟩, rfl, rfl, ⟨rfl, rfl⟩⟩

def m32_serial_rows (a0 : List GApiWrite) (a1 : Int) (a2 : Int) (a3 : Int) (a4 : List GApiRange) (a5 : List GApiWrite) : Option Bool :=
  (m44_serial_rows a0 a1 a2 a3 a4 a5).bind fun v1 => some (decide (0 ≤ v1))

set_option maxRecDepth 100000 in
theorem m32_serial_rows_c {a0 : List GApiWrite} {a1 : Int} {a2 : Int} {a3 : Int} {a4 : List GApiRange} {a5 : List GApiWrite} {r : Bool} (h : m32_serial_rows a0 a1 a2 a3 a4 a5 = some r) : CallsB Try.prog 32 [.box [.i .i64 a1, .i .i64 a2, .i .i64 a3, .sl a4.length (a4.flatMap eGApiRange), .sl a5.length (a5.flatMap eGApiWrite)]] [.one (.sl a0.length (a0.flatMap eGApiWrite)), .one (.fn 33 [] [.lp 0 0])] (fun y m' => y = .s (.one (.b r)) ∧ m' = [.box [.i .i64 a1, .i .i64 a2, .i .i64 a3, .sl a4.length (a4.flatMap eGApiRange), .sl a5.length (a5.flatMap eGApiWrite)]]) := by
  unfold m32_serial_rows at h
  refine callsB_of Try.func32 rfl (nt := 9) rfl (Nat.le_of_ble_eq_true rfl) ?_
  intro w0 S0 X0 H0
  refine cseq ?_
  refine cregion ?_
  refine sv rfl (opv_as rfl) ?_
  refine snil ?_
  refine cseq ?_
  refine cregion ?_
  refine sv rfl (opv_mv rfl) ?_
  refine sv rfl (opv_mv rfl) ?_
  obtain ⟨v1, hv1, h⟩ := bind_eq h
  refine scallB (x' := .s (.one (.i .i64 v1))) (M' := [.box [.i .i64 a1, .i .i64 a2, .i .i64 a3, .sl a4.length (a4.flatMap eGApiRange), .sl a5.length (a5.flatMap eGApiWrite)]]) [0] rfl fn44 (.func _) (opnds_cons rfl (opnds_cons rfl opnds_nil)) (m44_serial_rows_c hv1) rfl rfl (by decide) rfl rfl rfl ?_
  refine sv rfl (opv_geq rfl rfl) ?_
  refine sv rfl (opv_as rfl) ?_
  refine snil ?_
  refine cret ?_
  obtain rfl := Option.some.inj h
  exact ⟨Or.inr rfl, _, [0], [.one (.b (decide (0 ≤ v1)))], [.box [.i .i64 a1, .i .i64 a2, .i .i64 a3, .sl a4.length (a4.flatMap eGApiRange), .sl a5.length (a5.flatMap eGApiWrite)]], (resVs_cons (ResV.tmp _ _ rfl) resVs_nil), rfl, rfl, ⟨by decide, rfl⟩, rfl, rfl, ⟨rfl, rfl⟩⟩

def m23_serial_bothWrite (a0 : GSerialTx) (a1 : GSerialTx) : Option Bool :=
  (m32_serial_rows a0.Writes a1.Token a1.Snap a1.Ts a1.Reads a1.Writes).bind fun v1 => some v1

set_option maxRecDepth 100000 in
theorem m23_serial_bothWrite_c {a0 : GSerialTx} {a1 : GSerialTx} {r : Bool} (h : m23_serial_bothWrite a0 a1 = some r) : CallsA Try.prog 23 [.agg [.i .i64 a0.Token, .i .i64 a0.Snap, .i .i64 a0.Ts, .sl a0.Reads.length (a0.Reads.flatMap eGApiRange), .sl a0.Writes.length (a0.Writes.flatMap eGApiWrite)], .agg [.i .i64 a1.Token, .i .i64 a1.Snap, .i .i64 a1.Ts, .sl a1.Reads.length (a1.Reads.flatMap eGApiRange), .sl a1.Writes.length (a1.Writes.flatMap eGApiWrite)]] (· = .s (.one (.b r))) := by
  unfold m23_serial_bothWrite at h
  refine callsA_of Try.func23 rfl (nt := 9) rfl (Nat.le_of_ble_eq_true rfl) ?_
  intro w0 S0
  refine cseq ?_
  refine cregion ?_
  refine sbox rfl rfl ?_
  refine sbox rfl rfl ?_
  refine sv rfl (opv_as rfl) ?_
  refine snil ?_
  refine cseq ?_
  refine cregion ?_
  refine sv rfl (opv_fieldAddr_lp fi35_4 rfl) ?_
  refine sv rfl (opv_load1 ti33 rfl (.lp _ _ _ rfl) rfl) ?_
  refine sv rfl (opv_makeFunc opnds1_nil (opnds1_cons rfl rfl opnds1_nil)) ?_
  obtain ⟨v1, hv1, h⟩ := bind_eq h
  refine scallB (x' := .s (.one (.b v1))) (M' := [.box [.i .i64 a0.Token, .i .i64 a0.Snap, .i .i64 a0.Ts, .sl a0.Reads.length (a0.Reads.flatMap eGApiRange), .sl a0.Writes.length (a0.Writes.flatMap eGApiWrite)], .box [.i .i64 a1.Token, .i .i64 a1.Snap, .i .i64 a1.Ts, .sl a1.Reads.length (a1.Reads.flatMap eGApiRange), .sl a1.Writes.length (a1.Writes.flatMap eGApiWrite)]]) [1] rfl fn32 (.func _) (opnds_cons rfl (opnds_cons rfl opnds_nil)) (m32_serial_rows_c hv1) rfl rfl (by decide) rfl rfl rfl ?_
  refine sv rfl (opv_as rfl) ?_
  refine snil ?_
  refine cret ?_
  obtain rfl := Option.some.inj h
  refine ⟨Or.inr rfl, _, _, _, (resVs_cons (ResV.tmp _ _ rfl) resVs_nil), (pubA_id rfl), ?_⟩
  rfl

def m39_keys_Has (a0 : GApiRange) (a1 : List UInt8) : Option Bool :=
  (m41_keys_Cmp a1 a0.Lo).bind fun v1 => if (decide (0 ≤ v1)) then (if a0.Open then (some true) else ((m41_keys_Cmp a1 a0.Hi).bind fun v2 => some (decide (v2 < 0)))) else (some false)

set_option maxRecDepth 100000 in
theorem m39_keys_Has_c {a0 : GApiRange} {a1 : List UInt8} {r : Bool} (h : m39_keys_Has a0 a1 = some r) : CallsA Try.prog 39 [.agg [.sl a0.Lo.length (a0.Lo.flatMap eU8), .sl a0.Hi.length (a0.Hi.flatMap eU8), .b a0.Open], .one (.sl a1.length (a1.flatMap eU8))] (· = .s (.one (.b r))) := by
  unfold m39_keys_Has at h
  refine callsA_of Try.func39 rfl (nt := 21) rfl (Nat.le_of_ble_eq_true rfl) ?_
  intro w0 S0
  refine cseq ?_
  refine cregion ?_
  refine sbox rfl rfl ?_
  refine sv rfl (opv_as rfl) ?_
  refine snil ?_
  refine cseq ?_
  refine cregion ?_
  refine sv rfl (opv_mv rfl) ?_
  refine sv rfl (opv_fieldAddr_lp fi46_0 rfl) ?_
  refine sv rfl (opv_load1 ti37 rfl (.lp _ _ _ rfl) rfl) ?_
  obtain ⟨v1, hv1, h⟩ := bind_eq h
  refine scall1 rfl fn41 (opnds_cons rfl (opnds_cons rfl opnds_nil)) (pubA_id rfl) (m41_keys_Cmp_c hv1) ?_
  refine sv rfl (opv_geq rfl rfl) ?_
  refine sv rfl (opv_mv rfl) ?_
  refine ssplit 10 rfl (fun hc => ?_) (fun hc => ?_)
  · replace h := ite_t hc h
    clear hc
    refine son rfl rfl rfl ?_
    refine sv rfl (opv_fieldAddr_lp fi46_2 rfl) ?_
    refine son rfl rfl rfl ?_
    refine sv rfl (opv_load1 ti4 rfl (.lp _ _ _ rfl) rfl) ?_
    refine son rfl rfl rfl ?_
    refine sv rfl (opv_mv rfl) ?_
    refine ssplit 13 rfl (fun hc => ?_) (fun hc => ?_)
    · replace h := ite_t hc h
      clear hc
      refine soff rfl rfl rfl rfl ?_
      refine soff rfl rfl rfl rfl ?_
      refine soff rfl rfl rfl rfl ?_
      refine soff rfl rfl rfl rfl ?_
      refine soff rfl rfl rfl rfl ?_
      refine son rfl rfl rfl ?_
      refine sv rfl (opv_pick_t rfl rfl) ?_
      refine sv rfl (opv_pick_t rfl rfl) ?_
      refine sv rfl (opv_as rfl) ?_
      refine snil ?_
      refine cret ?_
      obtain rfl := Option.some.inj h
      refine ⟨Or.inr rfl, _, _, _, (resVs_cons (ResV.tmp _ _ rfl) resVs_nil), (pubA_id rfl), ?_⟩
      rfl
    · replace h := ite_f hc h
      clear hc
      refine son rfl rfl rfl ?_
      refine sv rfl (opv_mv rfl) ?_
      refine son rfl rfl rfl ?_
      refine sv rfl (opv_fieldAddr_lp fi46_1 rfl) ?_
      refine son rfl rfl rfl ?_
      refine sv rfl (opv_load1 ti37 rfl (.lp _ _ _ rfl) rfl) ?_
      refine son rfl rfl rfl ?_
      obtain ⟨v2, hv2, h⟩ := bind_eq h
      refine scall1 rfl fn41 (opnds_cons rfl (opnds_cons rfl opnds_nil)) (pubA_id rfl) (m41_keys_Cmp_c hv2) ?_
      refine son rfl rfl rfl ?_
      refine sv rfl (opv_lss rfl rfl) ?_
      refine son rfl rfl rfl ?_
      refine sv rfl (opv_pick_f rfl rfl) ?_
      refine sv rfl (opv_pick_t rfl rfl) ?_
      refine sv rfl (opv_as rfl) ?_
      refine snil ?_
      refine cret ?_
      obtain rfl := Option.some.inj h
      refine ⟨Or.inr rfl, _, _, _, (resVs_cons (ResV.tmp _ _ rfl) resVs_nil), (pubA_id rfl), ?_⟩
      rfl
  · replace h := ite_f hc h
    clear hc
    refine soff rfl rfl rfl rfl ?_
    refine soff rfl rfl rfl rfl ?_
    refine soff rfl rfl rfl rfl ?_
    refine soffu rfl rfl rfl ?_
    refine soffu rfl rfl rfl ?_
    refine soffu rfl rfl rfl ?_
    refine soffu rfl rfl rfl ?_
    refine soffu rfl rfl rfl ?_
    refine soff rfl rfl rfl rfl ?_
    refine sv rfl (opv_pick_f rfl rfl) ?_
    refine sv rfl (opv_as rfl) ?_
    refine snil ?_
    refine cret ?_
    obtain rfl := Option.some.inj h
    refine ⟨Or.inr rfl, _, _, _, (resVs_cons (ResV.tmp _ _ rfl) resVs_nil), (pubA_id rfl), ?_⟩
    rfl

def m38_serial_hasRead_1_1s (a0 : GApiRange) (a1 : List UInt8) (a2 : List UInt8) (a3 : Bool) : Option Bool :=
  (m39_keys_Has a0 a1).bind fun v1 => some v1

set_option maxRecDepth 100000 in
theorem m38_serial_hasRead_1_1s_c {a0 : GApiRange} {a1 : List UInt8} {a2 : List UInt8} {a3 : Bool} {r : Bool} (h : m38_serial_hasRead_1_1s a0 a1 a2 a3 = some r) : CallsB Try.prog 38 [.box [.sl a1.length (a1.flatMap eU8), .sl a2.length (a2.flatMap eU8), .b a3]] [.agg [.sl a0.Lo.length (a0.Lo.flatMap eU8), .sl a0.Hi.length (a0.Hi.flatMap eU8), .b a0.Open], .one (.lp 0 0)] (fun y m' => y = .s (.one (.b r)) ∧ m' = [.box [.sl a1.length (a1.flatMap eU8), .sl a2.length (a2.flatMap eU8), .b a3]]) := by
  unfold m38_serial_hasRead_1_1s at h
  refine callsB_of Try.func38 rfl (nt := 8) rfl (Nat.le_of_ble_eq_true rfl) ?_
  intro w0 S0 X0 H0
  refine cseq ?_
  refine cregion ?_
  refine sbox rfl rfl ?_
  refine sv rfl (opv_as rfl) ?_
  refine snil ?_
  refine cseq ?_
  refine cregion ?_
  refine sv rfl (opv_loadN ti46 rfl (.lp _ _ _ rfl) (Nat.le_of_ble_eq_true rfl)) ?_
  refine sv rfl (opv_fieldAddr_lp fi39_0 rfl) ?_
  refine sv rfl (opv_load1 ti37 rfl (.lp _ _ _ rfl) rfl) ?_
  obtain ⟨v1, hv1, h⟩ := bind_eq h
  refine scall1 rfl fn39 (opnds_cons rfl (opnds_cons rfl opnds_nil)) (pubA_id rfl) (m39_keys_Has_c hv1) ?_
  refine sv rfl (opv_as rfl) ?_
  refine snil ?_
  refine cret ?_
  obtain rfl := Option.some.inj h
  exact ⟨Or.inr rfl, _, [0], [.one (.b v1)], [.box [.sl a1.length (a1.flatMap eU8), .sl a2.length (a2.flatMap eU8), .b a3]], (resVs_cons (ResV.tmp _ _ rfl) resVs_nil), rfl, rfl, ⟨by decide, rfl⟩, rfl, rfl, ⟨rfl, rfl⟩⟩

def m48_slices_IndexFuncs_k1 (b1 : Unit) : Option Int :=
  some (-1)

def m48_slices_IndexFuncs_s2 (a0 : List GApiRange) (a1 : List UInt8) (a2 : List UInt8) (a3 : Bool) (s2 : Int) : Option (LR (Int) (Unit) (Int)) :=
  if (decide (s2 < (a0.length : Int))) then ((idx a0 s2).bind fun u3 => (m38_serial_hasRead_1_1s u3 a1 a2 a3).bind fun v4 => if v4 then (some (.ret s2)) else (some (.cont (wI (s2 + 1))))) else (some (.brk ()))
def m48_slices_IndexFuncs (a0 : List GApiRange) (a1 : List UInt8) (a2 : List UInt8) (a3 : Bool) : Option Int :=
  (iter (m48_slices_IndexFuncs_s2 a0 a1 a2 a3) fuel 0).bind fun x => match x with | .inl r => some r | .inr e5 => m48_slices_IndexFuncs_k1 e5

set_option maxRecDepth 100000 in
theorem m48_slices_IndexFuncs_c {a0 : List GApiRange} {a1 : List UInt8} {a2 : List UInt8} {a3 : Bool} {r : Int} (h : m48_slices_IndexFuncs a0 a1 a2 a3 = some r) : CallsB Try.prog 48 [.box [.sl a1.length (a1.flatMap eU8), .sl a2.length (a2.flatMap eU8), .b a3]] [.one (.sl a0.length (a0.flatMap eGApiRange)), .one (.fn 38 [] [.lp 0 0])] (fun y m' => y = .s (.one (.i .i64 r)) ∧ m' = [.box [.sl a1.length (a1.flatMap eU8), .sl a2.length (a2.flatMap eU8), .b a3]]) := by
  unfold m48_slices_IndexFuncs at h
  refine callsB_of Try.func48 rfl (nt := 19) rfl (Nat.le_of_ble_eq_true rfl) ?_
  intro w0 S0 X0 H0
  refine cseq ?_
  refine cregion ?_
  refine sv rfl (opv_as rfl) ?_
  refine snil ?_
  refine cseq ?_
  refine cseq ?_
  refine cregion ?_
  refine sv rfl (opv_mv rfl) ?_
  refine sv rfl (opv_len_sl si65 rfl) ?_
  refine sv rfl (opv_mv rfl) ?_
  refine snil ?_
  refine cjoin (Unit) (fun b1 => []) (fun b1 => [.box [.sl a1.length (a1.flatMap eU8), .sl a2.length (a2.flatMap eU8), .b a3]]) (fun b1 => m48_slices_IndexFuncs_k1 b1 = some r) (fun _ _ => inbL_of rfl) (fun _ _ => blkinb_of rfl) (fun _ _ => Nat.le_of_ble_eq_true rfl) (fun b1 h => ?_) ?_
  · unfold m48_slices_IndexFuncs_k1 at h
    refine cseq ?_
    refine cregion ?_
    refine sv rfl (opv_as rfl) ?_
    refine snil ?_
    refine cret ?_
    obtain rfl := Option.some.inj h
    exact ⟨Or.inr rfl, _, [0], [.one (.i .i64 (-1))], [.box [.sl a1.length (a1.flatMap eU8), .sl a2.length (a2.flatMap eU8), .b a3]], (resVs_cons (ResV.tmp _ _ rfl) resVs_nil), rfl, rfl, ⟨by decide, rfl⟩, rfl, rfl, ⟨rfl, rfl⟩⟩
  · skip
    refine cblock ?_
    obtain ⟨x2, hx2, ho2⟩ := bind_eq h
    refine awc_loop (G := Nat × (Int)) (fun g => [(0, .s (.one (.sl a0.length (a0.flatMap eGApiRange)))), (1, .s (.one (.fn 38 [] [.lp 0 0]))), (7, .s (.one (.i .i64 (a0.length : Int)))), (8, .s (.one (.i .i64 g.2)))]) (fun g => [.box [.sl a1.length (a1.flatMap eU8), .sl a2.length (a2.flatMap eU8), .b a3]]) (fun g => iter (m48_slices_IndexFuncs_s2 a0 a1 a2 a3) g.1 g.2 = some x2) (fun g => g.1) (fuel, 0) hx2 ⟨rfl, rfl, rfl, rfl, trivial⟩ [] rfl (fun _ _ => inbL_of rfl) (fun _ _ => blkinb_of rfl) (fun _ _ => Nat.le_of_ble_eq_true rfl) ?_
    clear hx2 h
    rintro ⟨n2, s2⟩ h
    obtain ⟨n2, y2, rfl, h, hk2⟩ := iter_eq h
    unfold m48_slices_IndexFuncs_s2 at h
    refine cseq ?_
    refine cregion ?_
    refine sv rfl (opv_lss rfl rfl) ?_
    refine snil ?_
    refine cseq ?_
    refine ccond rfl (fun hc => ?_) (fun hc => ?_)
    · replace h := ite_t hc h
      clear hc
      refine cskip ?_
      refine then_normal ?_
      refine cseq ?_
      refine cblock ?_
      refine cseq ?_
      refine cregion ?_
      refine sv rfl (opv_mv rfl) ?_
      refine sv rfl (opv_as rfl) ?_
      refine snil ?_
      refine cseq ?_
      refine cregion ?_
      refine sv rfl (opv_mv rfl) ?_
      refine sv rfl (opv_mv rfl) ?_
      refine sv rfl (opv_mv rfl) ?_
      obtain ⟨u3, hu3, h⟩ := bind_eq h
      refine sv rfl (opv_ix (f := eGApiRange) si65 (fun _ => rfl) rfl rfl rfl rfl hu3) ?_
      refine sv rfl (opv_loadNe (ys := [.sl u3.Lo.length (u3.Lo.flatMap eU8), .sl u3.Hi.length (u3.Hi.flatMap eU8), .b u3.Open]) ti46 rfl (.cp _) rfl rfl) ?_
      obtain ⟨v4, hv4, h⟩ := bind_eq h
      refine scallB (x' := .s (.one (.b v4))) (M' := [.box [.sl a1.length (a1.flatMap eU8), .sl a2.length (a2.flatMap eU8), .b a3]]) [0] rfl fn38 (.fn _ _ _ _ rfl) (opnds_cons rfl opnds_nil) (m38_serial_hasRead_1_1s_c hv4) rfl rfl (by decide) rfl rfl rfl ?_
      refine snil ?_
      refine ccond rfl (fun hc => ?_) (fun hc => ?_)
      · replace h := ite_t hc h
        clear hc
        refine cseq ?_
        refine cregion ?_
        refine sv rfl (opv_mv rfl) ?_
        refine sv rfl (opv_as rfl) ?_
        refine snil ?_
        refine cret ?_
        refine block_ret ?_
        refine then_ret ?_
        refine then_ret ?_
        refine block_ret ?_
        refine then_ret ?_
        obtain rfl := Option.some.inj h
        obtain rfl : Sum.inl _ = x2 := hk2
        replace ho2 : some _ = some _ := ho2
        obtain rfl := Option.some.inj ho2
        exact ⟨Or.inr rfl, _, [0], [.one (.i .i64 s2)], [.box [.sl a1.length (a1.flatMap eU8), .sl a2.length (a2.flatMap eU8), .b a3]], (resVs_cons (ResV.tmp _ _ rfl) resVs_nil), rfl, rfl, ⟨by decide, rfl⟩, rfl, rfl, ⟨rfl, rfl⟩⟩
      · replace h := ite_f hc h
        clear hc
        refine cskip ?_
        refine block_normal ?_
        refine then_normal ?_
        refine cregion ?_
        refine sv rfl (opv_add rfl rfl) ?_
        refine sv rfl (opv_mv rfl) ?_
        refine snil ?_
        obtain rfl := Option.some.inj h
        exact ⟨(n2, (wI (s2 + 1))), _, hk2, ⟨rfl, rfl, rfl, rfl, trivial⟩, rfl, Nat.lt_succ_self _⟩
    · replace h := ite_f hc h
      clear hc
      refine cexit ?_
      refine then_exit ?_
      refine then_exit ?_
      refine block_hit ?_
      refine then_normal ?_
      obtain rfl := Option.some.inj h
      obtain rfl : _ = x2 := hk2
      exact ⟨(), _, ho2, trivial, rfl⟩

def m45_serial_rows (a0 : List GApiRange) (a1 : List UInt8) (a2 : List UInt8) (a3 : Bool) : Option Int :=
  (m48_slices_IndexFuncs a0 a1 a2 a3).bind fun v1 => some v1

set_option maxRecDepth 100000 in
theorem m45_serial_rows_c {a0 : List GApiRange} {a1 : List UInt8} {a2 : List UInt8} {a3 : Bool} {r : Int} (h : m45_serial_rows a0 a1 a2 a3 = some r) : CallsB Try.prog 45 [.box [.sl a1.length (a1.flatMap eU8), .sl a2.length (a2.flatMap eU8), .b a3]] [.one (.sl a0.length (a0.flatMap eGApiRange)), .one (.fn 38 [] [.lp 0 0])] (fun y m' => y = .s (.one (.i .i64 r)) ∧ m' = [.box [.sl a1.length (a1.flatMap eU8), .sl a2.length (a2.flatMap eU8), .b a3]]) := by
  unfold m45_serial_rows at h
  refine callsB_of Try.func45 rfl (nt := 8) rfl (Nat.le_of_ble_eq_true rfl) ?_
  intro w0 S0 X0 H0
  refine cseq ?_
  refine cregion ?_
  refine sv rfl (opv_as rfl) ?_
  refine snil ?_
  refine cseq ?_
  refine cregion ?_
  refine sv rfl (opv_mv rfl) ?_
  refine sv rfl (opv_mv rfl) ?_
  obtain ⟨v1, hv1, h⟩ := bind_eq h
  refine scallB (x' := .s (.one (.i .i64 v1))) (M' := [.box [.sl a1.length (a1.flatMap eU8), .sl a2.length (a2.flatMap eU8), .b a3]]) [0] rfl fn48 (.func _) (opnds_cons rfl (opnds_cons rfl opnds_nil)) (m48_slices_IndexFuncs_c hv1) rfl rfl (by decide) rfl rfl rfl ?_
  refine sv rfl (opv_as rfl) ?_
  refine snil ?_
  refine cret ?_
  obtain rfl := Option.some.inj h
  exact ⟨Or.inr rfl, _, [0], [.one (.i .i64 v1)], [.box [.sl a1.length (a1.flatMap eU8), .sl a2.length (a2.flatMap eU8), .b a3]], (resVs_cons (ResV.tmp _ _ rfl) resVs_nil), rfl, rfl, ⟨by decide, rfl⟩, rfl, rfl, ⟨rfl, rfl⟩⟩

def m37_serial_rows (a0 : List GApiRange) (a1 : List UInt8) (a2 : List UInt8) (a3 : Bool) : Option Bool :=
  (m45_serial_rows a0 a1 a2 a3).bind fun v1 => some (decide (0 ≤ v1))

set_option maxRecDepth 100000 in
theorem m37_serial_rows_c {a0 : List GApiRange} {a1 : List UInt8} {a2 : List UInt8} {a3 : Bool} {r : Bool} (h : m37_serial_rows a0 a1 a2 a3 = some r) : CallsB Try.prog 37 [.box [.sl a1.length (a1.flatMap eU8), .sl a2.length (a2.flatMap eU8), .b a3]] [.one (.sl a0.length (a0.flatMap eGApiRange)), .one (.fn 38 [] [.lp 0 0])] (fun y m' => y = .s (.one (.b r)) ∧ m' = [.box [.sl a1.length (a1.flatMap eU8), .sl a2.length (a2.flatMap eU8), .b a3]]) := by
  unfold m37_serial_rows at h
  refine callsB_of Try.func37 rfl (nt := 9) rfl (Nat.le_of_ble_eq_true rfl) ?_
  intro w0 S0 X0 H0
  refine cseq ?_
  refine cregion ?_
  refine sv rfl (opv_as rfl) ?_
  refine snil ?_
  refine cseq ?_
  refine cregion ?_
  refine sv rfl (opv_mv rfl) ?_
  refine sv rfl (opv_mv rfl) ?_
  obtain ⟨v1, hv1, h⟩ := bind_eq h
  refine scallB (x' := .s (.one (.i .i64 v1))) (M' := [.box [.sl a1.length (a1.flatMap eU8), .sl a2.length (a2.flatMap eU8), .b a3]]) [0] rfl fn45 (.func _) (opnds_cons rfl (opnds_cons rfl opnds_nil)) (m45_serial_rows_c hv1) rfl rfl (by decide) rfl rfl rfl ?_
  refine sv rfl (opv_geq rfl rfl) ?_
  refine sv rfl (opv_as rfl) ?_
  refine snil ?_
  refine cret ?_
  obtain rfl := Option.some.inj h
  exact ⟨Or.inr rfl, _, [0], [.one (.b (decide (0 ≤ v1)))], [.box [.sl a1.length (a1.flatMap eU8), .sl a2.length (a2.flatMap eU8), .b a3]], (resVs_cons (ResV.tmp _ _ rfl) resVs_nil), rfl, rfl, ⟨by decide, rfl⟩, rfl, rfl, ⟨rfl, rfl⟩⟩

def m36_serial_hasRead_1s (a0 : GApiWrite) (a1 : Int) (a2 : Int) (a3 : Int) (a4 : List GApiRange) (a5 : List GApiWrite) : Option Bool :=
  (m37_serial_rows a4 a0.Key a0.Val a0.Del).bind fun v1 => some v1

set_option maxRecDepth 100000 in
theorem m36_serial_hasRead_1s_c {a0 : GApiWrite} {a1 : Int} {a2 : Int} {a3 : Int} {a4 : List GApiRange} {a5 : List GApiWrite} {r : Bool} (h : m36_serial_hasRead_1s a0 a1 a2 a3 a4 a5 = some r) : CallsB Try.prog 36 [.box [.i .i64 a1, .i .i64 a2, .i .i64 a3, .sl a4.length (a4.flatMap eGApiRange), .sl a5.length (a5.flatMap eGApiWrite)]] [.agg [.sl a0.Key.length (a0.Key.flatMap eU8), .sl a0.Val.length (a0.Val.flatMap eU8), .b a0.Del], .one (.lp 0 0)] (fun y m' => y = .s (.one (.b r)) ∧ m' = [.box [.i .i64 a1, .i .i64 a2, .i .i64 a3, .sl a4.length (a4.flatMap eGApiRange), .sl a5.length (a5.flatMap eGApiWrite)]]) := by
  unfold m36_serial_hasRead_1s at h
  refine callsB_of Try.func36 rfl (nt := 8) rfl (Nat.le_of_ble_eq_true rfl) ?_
  intro w0 S0 X0 H0
  refine cseq ?_
  refine cregion ?_
  refine sbox rfl rfl ?_
  refine sv rfl (opv_as rfl) ?_
  refine snil ?_
  refine cseq ?_
  refine cregion ?_
  refine sv rfl (opv_fieldAddr_lp fi35_3 rfl) ?_
  refine sv rfl (opv_load1 ti32 rfl (.lp _ _ _ rfl) rfl) ?_
  refine sv rfl (opv_makeFunc opnds1_nil (opnds1_cons rfl rfl opnds1_nil)) ?_
  obtain ⟨v1, hv1, h⟩ := bind_eq h
  refine scallB (x' := .s (.one (.b v1))) (M' := [.box [.i .i64 a1, .i .i64 a2, .i .i64 a3, .sl a4.length (a4.flatMap eGApiRange), .sl a5.length (a5.flatMap eGApiWrite)], .box [.sl a0.Key.length (a0.Key.flatMap eU8), .sl a0.Val.length (a0.Val.flatMap eU8), .b a0.Del]]) [1] rfl fn37 (.func _) (opnds_cons rfl (opnds_cons rfl opnds_nil)) (m37_serial_rows_c hv1) rfl rfl (by decide) rfl rfl rfl ?_
  refine sv rfl (opv_as rfl) ?_
  refine snil ?_
  refine cret ?_
  obtain rfl := Option.some.inj h
  exact ⟨Or.inr rfl, _, [0], [.one (.b v1)], [.box [.i .i64 a1, .i .i64 a2, .i .i64 a3, .sl a4.length (a4.flatMap eGApiRange), .sl a5.length (a5.flatMap eGApiWrite)]], (resVs_cons (ResV.tmp _ _ rfl) resVs_nil), rfl, rfl, ⟨by decide, rfl⟩, rfl, rfl, ⟨rfl, rfl⟩⟩

def m47_slices_IndexFuncs2_k1 (b1 : Unit) : Option Int :=
  some (-1)

def m47_slices_IndexFuncs2_s2 (a0 : List GApiWrite) (a1 : Int) (a2 : Int) (a3 : Int) (a4 : List GApiRange) (a5 : List GApiWrite) (s2 : Int) : Option (LR (Int) (Unit) (Int)) :=
  if (decide (s2 < (a0.length : Int))) then ((idx a0 s2).bind fun u3 => (m36_serial_hasRead_1s u3 a1 a2 a3 a4 a5).bind fun v4 => if v4 then (some (.ret s2)) else (some (.cont (wI (s2 + 1))))) else (some (.brk ()))
def m47_slices_IndexFuncs2 (a0 : List GApiWrite) (a1 : Int) (a2 : Int) (a3 : Int) (a4 : List GApiRange) (a5 : List GApiWrite) : Option Int :=
  (iter (m47_slices_IndexFuncs2_s2 a0 a1 a2 a3 a4 a5) fuel 0).bind fun x => match x with | .inl r => some r | .inr e5 => m47_slices_IndexFuncs2_k1 e5

set_option maxRecDepth 100000 in
theorem m47_slices_IndexFuncs2_c {a0 : List GApiWrite} {a1 : Int} {a2 : Int} {a3 : Int} {a4 : List GApiRange} {a5 : List GApiWrite} {r : Int} (h : m47_slices_IndexFuncs2 a0 a1 a2 a3 a4 a5 = some r) : CallsB Try.prog 47 [.box [.i .i64 a1, .i .i64 a2, .i .i64 a3, .sl a4.length (a4.flatMap eGApiRange), .sl a5.length (a5.flatMap eGApiWrite)]] [.one (.sl a0.length (a0.flatMap eGApiWrite)), .one (.fn 36 [] [.lp 0 0])] (fun y m' => y = .s (.one (.i .i64 r)) ∧ m' = [.box [.i .i64 a1, .i .i64 a2, .i .i64 a3, .sl a4.length (a4.flatMap eGApiRange), .sl a5.length (a5.flatMap eGApiWrite)]]) := by
  unfold m47_slices_IndexFuncs2 at h
  refine callsB_of Try.func47 rfl (nt := 19) rfl (Nat.le_of_ble_eq_true rfl) ?_
  intro w0 S0 X0 H0
  refine cseq ?_
  refine cregion ?_
  refine sv rfl (opv_as rfl) ?_
  refine snil ?_
  refine cseq ?_
  refine cseq ?_
  refine cregion ?_
  refine sv rfl (opv_mv rfl) ?_
  refine sv rfl (opv_len_sl si62 rfl) ?_
  refine sv rfl (opv_mv rfl) ?_
  refine snil ?_
  refine cjoin (Unit) (fun b1 => []) (fun b1 => [.box [.i .i64 a1, .i .i64 a2, .i .i64 a3, .sl a4.length (a4.flatMap eGApiRange), .sl a5.length (a5.flatMap eGApiWrite)]]) (fun b1 => m47_slices_IndexFuncs2_k1 b1 = some r) (fun _ _ => inbL_of rfl) (fun _ _ => blkinb_of rfl) (fun _ _ => Nat.le_of_ble_eq_true rfl) (fun b1 h => ?_) ?_
  · unfold m47_slices_IndexFuncs2_k1 at h
    refine cseq ?_
    refine cregion ?_
    refine sv rfl (opv_as rfl) ?_
    refine snil ?_
    refine cret ?_
    obtain rfl := Option.some.inj h
    exact ⟨Or.inr rfl, _, [0], [.one (.i .i64 (-1))], [.box [.i .i64 a1, .i .i64 a2, .i .i64 a3, .sl a4.length (a4.flatMap eGApiRange), .sl a5.length (a5.flatMap eGApiWrite)]], (resVs_cons (ResV.tmp _ _ rfl) resVs_nil), rfl, rfl, ⟨by decide, rfl⟩, rfl, rfl, ⟨rfl, rfl⟩⟩
  · skip
    refine cblock ?_
    obtain ⟨x2, hx2, ho2⟩ := bind_eq h
    refine awc_loop (G := Nat × (Int)) (fun g => [(0, .s (.one (.sl a0.length (a0.flatMap eGApiWrite)))), (1, .s (.one (.fn 36 [] [.lp 0 0]))), (7, .s (.one (.i .i64 (a0.length : Int)))), (8, .s (.one (.i .i64 g.2)))]) (fun g => [.box [.i .i64 a1, .i .i64 a2, .i .i64 a3, .sl a4.length (a4.flatMap eGApiRange), .sl a5.length (a5.flatMap eGApiWrite)]]) (fun g => iter (m47_slices_IndexFuncs2_s2 a0 a1 a2 a3 a4 a5) g.1 g.2 = some x2) (fun g => g.1) (fuel, 0) hx2 ⟨rfl, rfl, rfl, rfl, trivial⟩ [] rfl (fun _ _ => inbL_of rfl) (fun _ _ => blkinb_of rfl) (fun _ _ => Nat.le_of_ble_eq_true rfl) ?_
    clear hx2 h
    rintro ⟨n2, s2⟩ h
    obtain ⟨n2, y2, rfl, h, hk2⟩ := iter_eq h
    unfold m47_slices_IndexFuncs2_s2 at h
    refine cseq ?_
    refine cregion ?_
    refine sv rfl (opv_lss rfl rfl) ?_
    refine snil ?_
    refine cseq ?_
    refine ccond rfl (fun hc => ?_) (fun hc => ?_)
    · replace h := ite_t hc h
      clear hc
      refine cskip ?_
      refine then_normal ?_
      refine cseq ?_
      refine cblock ?_
      refine cseq ?_
      refine cregion ?_
      refine sv rfl (opv_mv rfl) ?_
      refine sv rfl (opv_as rfl) ?_
      refine snil ?_
      refine cseq ?_
      refine cregion ?_
      refine sv rfl (opv_mv rfl) ?_
      refine sv rfl (opv_mv rfl) ?_
      refine sv rfl (opv_mv rfl) ?_
      obtain ⟨u3, hu3, h⟩ := bind_eq h
      refine sv rfl (opv_ix (f := eGApiWrite) si62 (fun _ => rfl) rfl rfl rfl rfl hu3) ?_
      refine sv rfl (opv_loadNe (ys := [.sl u3.Key.length (u3.Key.flatMap eU8), .sl u3.Val.length (u3.Val.flatMap eU8), .b u3.Del]) ti39 rfl (.cp _) rfl rfl) ?_
      obtain ⟨v4, hv4, h⟩ := bind_eq h
      refine scallB (x' := .s (.one (.b v4))) (M' := [.box [.i .i64 a1, .i .i64 a2, .i .i64 a3, .sl a4.length (a4.flatMap eGApiRange), .sl a5.length (a5.flatMap eGApiWrite)]]) [0] rfl fn36 (.fn _ _ _ _ rfl) (opnds_cons rfl opnds_nil) (m36_serial_hasRead_1s_c hv4) rfl rfl (by decide) rfl rfl rfl ?_
      refine snil ?_
      refine ccond rfl (fun hc => ?_) (fun hc => ?_)
      · replace h := ite_t hc h
        clear hc
        refine cseq ?_
        refine cregion ?_
        refine sv rfl (opv_mv rfl) ?_
        refine sv rfl (opv_as rfl) ?_
        refine snil ?_
        refine cret ?_
        refine block_ret ?_
        refine then_ret ?_
        refine then_ret ?_
        refine block_ret ?_
        refine then_ret ?_
        obtain rfl := Option.some.inj h
        obtain rfl : Sum.inl _ = x2 := hk2
        replace ho2 : some _ = some _ := ho2
        obtain rfl := Option.some.inj ho2
        exact ⟨Or.inr rfl, _, [0], [.one (.i .i64 s2)], [.box [.i .i64 a1, .i .i64 a2, .i .i64 a3, .sl a4.length (a4.flatMap eGApiRange), .sl a5.length (a5.flatMap eGApiWrite)]], (resVs_cons (ResV.tmp _ _ rfl) resVs_nil), rfl, rfl, ⟨by decide, rfl⟩, rfl, rfl, ⟨rfl, rfl⟩⟩
      · replace h := ite_f hc h
        clear hc
        refine cskip ?_
        refine block_normal ?_
        refine then_normal ?_
        refine cregion ?_
        refine sv rfl (opv_add rfl rfl) ?_
        refine sv rfl (opv_mv rfl) ?_
        refine snil ?_
        obtain rfl := Option.some.inj h
        exact ⟨(n2, (wI (s2 + 1))), _, hk2, ⟨rfl, rfl, rfl, rfl, trivial⟩, rfl, Nat.lt_succ_self _⟩
    · replace h := ite_f hc h
      clear hc
      refine cexit ?_
      refine then_exit ?_
      refine then_exit ?_
      refine block_hit ?_
      refine then_normal ?_
      obtain rfl := Option.some.inj h
      obtain rfl : _ = x2 := hk2
      exact ⟨(), _, ho2, trivial, rfl⟩

def m44_serial_rows2 (a0 : List GApiWrite) (a1 : Int) (a2 : Int) (a3 : Int) (a4 : List GApiRange) (a5 : List GApiWrite) : Option Int :=
  (m47_slices_IndexFuncs2 a0 a1 a2 a3 a4 a5).bind fun v1 => some v1

set_option maxRecDepth 100000 in
theorem m44_serial_rows2_c {a0 : List GApiWrite} {a1 : Int} {a2 : Int} {a3 : Int} {a4 : List GApiRange} {a5 : List GApiWrite} {r : Int} (h : m44_serial_rows2 a0 a1 a2 a3 a4 a5 = some r) : CallsB Try.prog 44 [.box [.i .i64 a1, .i .i64 a2, .i .i64 a3, .sl a4.length (a4.flatMap eGApiRange), .sl a5.length (a5.flatMap eGApiWrite)]] [.one (.sl a0.length (a0.flatMap eGApiWrite)), .one (.fn 36 [] [.lp 0 0])] (fun y m' => y = .s (.one (.i .i64 r)) ∧ m' = [.box [.i .i64 a1, .i .i64 a2, .i .i64 a3, .sl a4.length (a4.flatMap eGApiRange), .sl a5.length (a5.flatMap eGApiWrite)]]) := by
  unfold m44_serial_rows2 at h
  refine callsB_of Try.func44 rfl (nt := 8) rfl (Nat.le_of_ble_eq_true rfl) ?_
  intro w0 S0 X0 H0
  refine cseq ?_
  refine cregion ?_
  refine sv rfl (opv_as rfl) ?_
  refine snil ?_
  refine cseq ?_
  refine cregion ?_
  refine sv rfl (opv_mv rfl) ?_
  refine sv rfl (opv_mv rfl) ?_
  obtain ⟨v1, hv1, h⟩ := bind_eq h
  refine scallB (x' := .s (.one (.i .i64 v1))) (M' := [.box [.i .i64 a1, .i .i64 a2, .i .i64 a3, .sl a4.length (a4.flatMap eGApiRange), .sl a5.length (a5.flatMap eGApiWrite)]]) [0] rfl fn47 (.func _) (opnds_cons rfl (opnds_cons rfl opnds_nil)) (m47_slices_IndexFuncs2_c hv1) rfl rfl (by decide) rfl rfl rfl ?_
  refine sv rfl (opv_as rfl) ?_
  refine snil ?_
  refine cret ?_
  obtain rfl := Option.some.inj h
  exact ⟨Or.inr rfl, _, [0], [.one (.i .i64 v1)], [.box [.i .i64 a1, .i .i64 a2, .i .i64 a3, .sl a4.length (a4.flatMap eGApiRange), .sl a5.length (a5.flatMap eGApiWrite)]], (resVs_cons (ResV.tmp _ _ rfl) resVs_nil), rfl, rfl, ⟨by decide, rfl⟩, rfl, rfl, ⟨rfl, rfl⟩⟩

def m32_serial_rows2 (a0 : List GApiWrite) (a1 : Int) (a2 : Int) (a3 : Int) (a4 : List GApiRange) (a5 : List GApiWrite) : Option Bool :=
  (m44_serial_rows2 a0 a1 a2 a3 a4 a5).bind fun v1 => some (decide (0 ≤ v1))

set_option maxRecDepth 100000 in
theorem m32_serial_rows2_c {a0 : List GApiWrite} {a1 : Int} {a2 : Int} {a3 : Int} {a4 : List GApiRange} {a5 : List GApiWrite} {r : Bool} (h : m32_serial_rows2 a0 a1 a2 a3 a4 a5 = some r) : CallsB Try.prog 32 [.box [.i .i64 a1, .i .i64 a2, .i .i64 a3, .sl a4.length (a4.flatMap eGApiRange), .sl a5.length (a5.flatMap eGApiWrite)]] [.one (.sl a0.length (a0.flatMap eGApiWrite)), .one (.fn 36 [] [.lp 0 0])] (fun y m' => y = .s (.one (.b r)) ∧ m' = [.box [.i .i64 a1, .i .i64 a2, .i .i64 a3, .sl a4.length (a4.flatMap eGApiRange), .sl a5.length (a5.flatMap eGApiWrite)]]) := by
  unfold m32_serial_rows2 at h
  refine callsB_of Try.func32 rfl (nt := 9) rfl (Nat.le_of_ble_eq_true rfl) ?_
  intro w0 S0 X0 H0
  refine cseq ?_
  refine cregion ?_
  refine sv rfl (opv_as rfl) ?_
  refine snil ?_
  refine cseq ?_
  refine cregion ?_
  refine sv rfl (opv_mv rfl) ?_
  refine sv rfl (opv_mv rfl) ?_
  obtain ⟨v1, hv1, h⟩ := bind_eq h
  refine scallB (x' := .s (.one (.i .i64 v1))) (M' := [.box [.i .i64 a1, .i .i64 a2, .i .i64 a3, .sl a4.length (a4.flatMap eGApiRange), .sl a5.length (a5.flatMap eGApiWrite)]]) [0] rfl fn44 (.func _) (opnds_cons rfl (opnds_cons rfl opnds_nil)) (m44_serial_rows2_c hv1) rfl rfl (by decide) rfl rfl rfl ?_
  refine sv rfl (opv_geq rfl rfl) ?_
  refine sv rfl (opv_as rfl) ?_
  refine snil ?_
  refine cret ?_
  obtain rfl := Option.some.inj h
  exact ⟨Or.inr rfl, _, [0], [.one (.b (decide (0 ≤ v1)))], [.box [.i .i64 a1, .i .i64 a2, .i .i64 a3, .sl a4.length (a4.flatMap eGApiRange), .sl a5.length (a5.flatMap eGApiWrite)]], (resVs_cons (ResV.tmp _ _ rfl) resVs_nil), rfl, rfl, ⟨by decide, rfl⟩, rfl, rfl, ⟨rfl, rfl⟩⟩

def m24_serial_hasRead (a0 : GSerialTx) (a1 : GSerialTx) : Option Bool :=
  (m32_serial_rows2 a1.Writes a0.Token a0.Snap a0.Ts a0.Reads a0.Writes).bind fun v1 => some v1

set_option maxRecDepth 100000 in
theorem m24_serial_hasRead_c {a0 : GSerialTx} {a1 : GSerialTx} {r : Bool} (h : m24_serial_hasRead a0 a1 = some r) : CallsA Try.prog 24 [.agg [.i .i64 a0.Token, .i .i64 a0.Snap, .i .i64 a0.Ts, .sl a0.Reads.length (a0.Reads.flatMap eGApiRange), .sl a0.Writes.length (a0.Writes.flatMap eGApiWrite)], .agg [.i .i64 a1.Token, .i .i64 a1.Snap, .i .i64 a1.Ts, .sl a1.Reads.length (a1.Reads.flatMap eGApiRange), .sl a1.Writes.length (a1.Writes.flatMap eGApiWrite)]] (· = .s (.one (.b r))) := by
  unfold m24_serial_hasRead at h
  refine callsA_of Try.func24 rfl (nt := 9) rfl (Nat.le_of_ble_eq_true rfl) ?_
  intro w0 S0
  refine cseq ?_
  refine cregion ?_
  refine sbox rfl rfl ?_
  refine sbox rfl rfl ?_
  refine sv rfl (opv_as rfl) ?_
  refine snil ?_
  refine cseq ?_
  refine cregion ?_
  refine sv rfl (opv_fieldAddr_lp fi35_4 rfl) ?_
  refine sv rfl (opv_load1 ti33 rfl (.lp _ _ _ rfl) rfl) ?_
  refine sv rfl (opv_makeFunc opnds1_nil (opnds1_cons rfl rfl opnds1_nil)) ?_
  obtain ⟨v1, hv1, h⟩ := bind_eq h
  refine scallB (x' := .s (.one (.b v1))) (M' := [.box [.i .i64 a0.Token, .i .i64 a0.Snap, .i .i64 a0.Ts, .sl a0.Reads.length (a0.Reads.flatMap eGApiRange), .sl a0.Writes.length (a0.Writes.flatMap eGApiWrite)], .box [.i .i64 a1.Token, .i .i64 a1.Snap, .i .i64 a1.Ts, .sl a1.Reads.length (a1.Reads.flatMap eGApiRange), .sl a1.Writes.length (a1.Writes.flatMap eGApiWrite)]]) [0] rfl fn32 (.func _) (opnds_cons rfl (opnds_cons rfl opnds_nil)) (m32_serial_rows2_c hv1) rfl rfl (by decide) rfl rfl rfl ?_
  refine sv rfl (opv_as rfl) ?_
  refine snil ?_
  refine cret ?_
  obtain rfl := Option.some.inj h
  refine ⟨Or.inr rfl, _, _, _, (resVs_cons (ResV.tmp _ _ rfl) resVs_nil), (pubA_id rfl), ?_⟩
  rfl

def m11_serial_Ahead (a0 : GSerialTx) (a1 : GSerialTx) : Option Bool :=
  if (decide (a0.Token = a1.Token)) then (some false) else (if (decide (a0.Ts < a1.Ts)) then ((m23_serial_bothWrite (GSerialTx.mk a0.Token a0.Snap a0.Ts a0.Reads a0.Writes) (GSerialTx.mk a1.Token a1.Snap a1.Ts a1.Reads a1.Writes)).bind fun v1 => if v1 then (some true) else (if (decide (a0.Ts ≤ a1.Snap)) then ((m24_serial_hasRead (GSerialTx.mk a1.Token a1.Snap a1.Ts a1.Reads a1.Writes) (GSerialTx.mk a0.Token a0.Snap a0.Ts a0.Reads a0.Writes)).bind fun v2 => if v2 then (some true) else (if (decide (a0.Snap < a1.Ts)) then ((m24_serial_hasRead (GSerialTx.mk a0.Token a0.Snap a0.Ts a0.Reads a0.Writes) (GSerialTx.mk a1.Token a1.Snap a1.Ts a1.Reads a1.Writes)).bind fun v3 => some v3) else (some false))) else (if (decide (a0.Snap < a1.Ts)) then ((m24_serial_hasRead (GSerialTx.mk a0.Token a0.Snap a0.Ts a0.Reads a0.Writes) (GSerialTx.mk a1.Token a1.Snap a1.Ts a1.Reads a1.Writes)).bind fun v4 => some v4) else (some false)))) else (if (decide (a0.Ts ≤ a1.Snap)) then ((m24_serial_hasRead (GSerialTx.mk a1.Token a1.Snap a1.Ts a1.Reads a1.Writes) (GSerialTx.mk a0.Token a0.Snap a0.Ts a0.Reads a0.Writes)).bind fun v5 => if v5 then (some true) else (if (decide (a0.Snap < a1.Ts)) then ((m24_serial_hasRead (GSerialTx.mk a0.Token a0.Snap a0.Ts a0.Reads a0.Writes) (GSerialTx.mk a1.Token a1.Snap a1.Ts a1.Reads a1.Writes)).bind fun v6 => some v6) else (some false))) else (if (decide (a0.Snap < a1.Ts)) then ((m24_serial_hasRead (GSerialTx.mk a0.Token a0.Snap a0.Ts a0.Reads a0.Writes) (GSerialTx.mk a1.Token a1.Snap a1.Ts a1.Reads a1.Writes)).bind fun v7 => some v7) else (some false))))

set_option maxRecDepth 100000 in
theorem m11_serial_Ahead_c {a0 : GSerialTx} {a1 : GSerialTx} {r : Bool} (h : m11_serial_Ahead a0 a1 = some r) : CallsA Try.prog 11 [.agg [.i .i64 a0.Token, .i .i64 a0.Snap, .i .i64 a0.Ts, .sl a0.Reads.length (a0.Reads.flatMap eGApiRange), .sl a0.Writes.length (a0.Writes.flatMap eGApiWrite)], .agg [.i .i64 a1.Token, .i .i64 a1.Snap, .i .i64 a1.Ts, .sl a1.Reads.length (a1.Reads.flatMap eGApiRange), .sl a1.Writes.length (a1.Writes.flatMap eGApiWrite)]] (· = .s (.one (.b r))) := by
  unfold m11_serial_Ahead at h
  refine callsA_of Try.func11 rfl (nt := 44) rfl (Nat.le_of_ble_eq_true rfl) ?_
  intro w0 S0
  refine cseq ?_
  refine cregion ?_
  refine sbox rfl rfl ?_
  refine sbox rfl rfl ?_
  refine sv rfl (opv_as rfl) ?_
  refine snil ?_
  refine cseq ?_
  refine cseq ?_
  refine cregion ?_
  refine sv rfl (opv_fieldAddr_lp fi35_0 rfl) ?_
  refine sv rfl (opv_load1 ti3 rfl (.lp _ _ _ rfl) rfl) ?_
  refine sv rfl (opv_fieldAddr_lp fi35_0 rfl) ?_
  refine sv rfl (opv_load1 ti3 rfl (.lp _ _ _ rfl) rfl) ?_
  refine sv rfl (opv_ieql rfl rfl) ?_
  refine snil ?_
  refine ccond rfl (fun hc => ?_) (fun hc => ?_)
  · replace h := ite_t hc h
    clear hc
    refine cseq ?_
    refine cregion ?_
    refine sv rfl (opv_as rfl) ?_
    refine snil ?_
    refine cret ?_
    refine then_ret ?_
    obtain rfl := Option.some.inj h
    refine ⟨Or.inr rfl, _, _, _, (resVs_cons (ResV.tmp _ _ rfl) resVs_nil), (pubA_id rfl), ?_⟩
    rfl
  · replace h := ite_f hc h
    clear hc
    refine cskip ?_
    refine then_normal ?_
    refine cseq ?_
    refine cregion ?_
    refine sv rfl (opv_fieldAddr_lp fi35_2 rfl) ?_
    refine sv rfl (opv_load1 ti3 rfl (.lp _ _ _ rfl) rfl) ?_
    refine sv rfl (opv_fieldAddr_lp fi35_2 rfl) ?_
    refine sv rfl (opv_load1 ti3 rfl (.lp _ _ _ rfl) rfl) ?_
    refine sv rfl (opv_lss rfl rfl) ?_
    refine sv rfl (opv_mv rfl) ?_
    refine ssplit 15 rfl (fun hc => ?_) (fun hc => ?_)
    · replace h := ite_t hc h
      clear hc
      refine son rfl rfl rfl ?_
      refine sv rfl (opv_loadN ti35 rfl (.lp _ _ _ rfl) (Nat.le_of_ble_eq_true rfl)) ?_
      refine son rfl rfl rfl ?_
      refine sv rfl (opv_loadN ti35 rfl (.lp _ _ _ rfl) (Nat.le_of_ble_eq_true rfl)) ?_
      refine son rfl rfl rfl ?_
      obtain ⟨v1, hv1, h⟩ := bind_eq h
      refine scall1 rfl fn23 (opnds_cons rfl (opnds_cons rfl opnds_nil)) (pubA_id rfl) (m23_serial_bothWrite_c hv1) ?_
      refine sv rfl (opv_pick_t rfl rfl) ?_
      refine sv rfl (opv_mv rfl) ?_
      refine ssplit 20 rfl (fun hc => ?_) (fun hc => ?_)
      · replace h := ite_t hc h
        clear hc
        refine soff rfl rfl rfl rfl ?_
        refine soff rfl rfl rfl rfl ?_
        refine soff rfl rfl rfl rfl ?_
        refine soff rfl rfl rfl rfl ?_
        refine soff rfl rfl rfl rfl ?_
        refine soff rfl rfl rfl rfl ?_
        refine soffu rfl rfl rfl ?_
        refine soffu rfl rfl rfl ?_
        refine soffu rfl rfl rfl ?_
        refine soff rfl rfl rfl rfl ?_
        refine sv rfl (opv_pick_t rfl rfl) ?_
        refine sv rfl (opv_mv rfl) ?_
        refine soff rfl rfl rfl rfl ?_
        refine soff rfl rfl rfl rfl ?_
        refine soff rfl rfl rfl rfl ?_
        refine soff rfl rfl rfl rfl ?_
        refine soff rfl rfl rfl rfl ?_
        refine soff rfl rfl rfl rfl ?_
        refine soffu rfl rfl rfl ?_
        refine soffu rfl rfl rfl ?_
        refine soffu rfl rfl rfl ?_
        refine soff rfl rfl rfl rfl ?_
        refine sv rfl (opv_pick_t rfl rfl) ?_
        refine sv rfl (opv_as rfl) ?_
        refine snil ?_
        refine cret ?_
        obtain rfl := Option.some.inj h
        refine ⟨Or.inr rfl, _, _, _, (resVs_cons (ResV.tmp _ _ rfl) resVs_nil), (pubA_id rfl), ?_⟩
        rfl
      · replace h := ite_f hc h
        clear hc
        refine son rfl rfl rfl ?_
        refine sv rfl (opv_fieldAddr_lp fi35_2 rfl) ?_
        refine son rfl rfl rfl ?_
        refine sv rfl (opv_load1 ti3 rfl (.lp _ _ _ rfl) rfl) ?_
        refine son rfl rfl rfl ?_
        refine sv rfl (opv_fieldAddr_lp fi35_1 rfl) ?_
        refine son rfl rfl rfl ?_
        refine sv rfl (opv_load1 ti3 rfl (.lp _ _ _ rfl) rfl) ?_
        refine son rfl rfl rfl ?_
        refine sv rfl (opv_leq rfl rfl) ?_
        refine son rfl rfl rfl ?_
        refine sv rfl (opv_mv rfl) ?_
        refine ssplit 26 rfl (fun hc => ?_) (fun hc => ?_)
        · replace h := ite_t hc h
          clear hc
          refine son rfl rfl rfl ?_
          refine sv rfl (opv_loadN ti35 rfl (.lp _ _ _ rfl) (Nat.le_of_ble_eq_true rfl)) ?_
          refine son rfl rfl rfl ?_
          refine sv rfl (opv_loadN ti35 rfl (.lp _ _ _ rfl) (Nat.le_of_ble_eq_true rfl)) ?_
          refine son rfl rfl rfl ?_
          obtain ⟨v2, hv2, h⟩ := bind_eq h
          refine scall1 rfl fn24 (opnds_cons rfl (opnds_cons rfl opnds_nil)) (pubA_id rfl) (m24_serial_hasRead_c hv2) ?_
          refine son rfl rfl rfl ?_
          refine sv rfl (opv_pick_t rfl rfl) ?_
          refine sv rfl (opv_pick_f rfl rfl) ?_
          refine sv rfl (opv_mv rfl) ?_
          refine ssplit 32 rfl (fun hc => ?_) (fun hc => ?_)
          · replace h := ite_t hc h
            clear hc
            refine soff rfl rfl rfl rfl ?_
            refine soff rfl rfl rfl rfl ?_
            refine soff rfl rfl rfl rfl ?_
            refine soff rfl rfl rfl rfl ?_
            refine soff rfl rfl rfl rfl ?_
            refine soff rfl rfl rfl rfl ?_
            refine soffu rfl rfl rfl ?_
            refine soffu rfl rfl rfl ?_
            refine soffu rfl rfl rfl ?_
            refine soff rfl rfl rfl rfl ?_
            refine sv rfl (opv_pick_t rfl rfl) ?_
            refine sv rfl (opv_as rfl) ?_
            refine snil ?_
            refine cret ?_
            obtain rfl := Option.some.inj h
            refine ⟨Or.inr rfl, _, _, _, (resVs_cons (ResV.tmp _ _ rfl) resVs_nil), (pubA_id rfl), ?_⟩
            rfl
          · replace h := ite_f hc h
            clear hc
            refine son rfl rfl rfl ?_
            refine sv rfl (opv_fieldAddr_lp fi35_2 rfl) ?_
            refine son rfl rfl rfl ?_
            refine sv rfl (opv_load1 ti3 rfl (.lp _ _ _ rfl) rfl) ?_
            refine son rfl rfl rfl ?_
            refine sv rfl (opv_fieldAddr_lp fi35_1 rfl) ?_
            refine son rfl rfl rfl ?_
            refine sv rfl (opv_load1 ti3 rfl (.lp _ _ _ rfl) rfl) ?_
            refine son rfl rfl rfl ?_
            refine sv rfl (opv_gtr rfl rfl) ?_
            refine son rfl rfl rfl ?_
            refine sv rfl (opv_mv rfl) ?_
            refine ssplit 38 rfl (fun hc => ?_) (fun hc => ?_)
            · replace h := ite_t hc h
              clear hc
              refine son rfl rfl rfl ?_
              refine sv rfl (opv_loadN ti35 rfl (.lp _ _ _ rfl) (Nat.le_of_ble_eq_true rfl)) ?_
              refine son rfl rfl rfl ?_
              refine sv rfl (opv_loadN ti35 rfl (.lp _ _ _ rfl) (Nat.le_of_ble_eq_true rfl)) ?_
              refine son rfl rfl rfl ?_
              obtain ⟨v3, hv3, h⟩ := bind_eq h
              refine scall1 rfl fn24 (opnds_cons rfl (opnds_cons rfl opnds_nil)) (pubA_id rfl) (m24_serial_hasRead_c hv3) ?_
              refine son rfl rfl rfl ?_
              refine sv rfl (opv_pick_t rfl rfl) ?_
              refine sv rfl (opv_pick_f rfl rfl) ?_
              refine sv rfl (opv_as rfl) ?_
              refine snil ?_
              refine cret ?_
              obtain rfl := Option.some.inj h
              refine ⟨Or.inr rfl, _, _, _, (resVs_cons (ResV.tmp _ _ rfl) resVs_nil), (pubA_id rfl), ?_⟩
              rfl
            · replace h := ite_f hc h
              clear hc
              refine soff rfl rfl rfl rfl ?_
              refine soff rfl rfl rfl rfl ?_
              refine soff rfl rfl rfl rfl ?_
              refine son rfl rfl rfl ?_
              refine sv rfl (opv_pick_f rfl rfl) ?_
              refine sv rfl (opv_pick_f rfl rfl) ?_
              refine sv rfl (opv_as rfl) ?_
              refine snil ?_
              refine cret ?_
              obtain rfl := Option.some.inj h
              refine ⟨Or.inr rfl, _, _, _, (resVs_cons (ResV.tmp _ _ rfl) resVs_nil), (pubA_id rfl), ?_⟩
              rfl
        · replace h := ite_f hc h
          clear hc
          refine soff rfl rfl rfl rfl ?_
          refine soff rfl rfl rfl rfl ?_
          refine soff rfl rfl rfl rfl ?_
          refine son rfl rfl rfl ?_
          refine sv rfl (opv_pick_f rfl rfl) ?_
          refine sv rfl (opv_pick_f rfl rfl) ?_
          refine sv rfl (opv_mv rfl) ?_
          refine son rfl rfl rfl ?_
          refine sv rfl (opv_fieldAddr_lp fi35_2 rfl) ?_
          refine son rfl rfl rfl ?_
          refine sv rfl (opv_load1 ti3 rfl (.lp _ _ _ rfl) rfl) ?_
          refine son rfl rfl rfl ?_
          refine sv rfl (opv_fieldAddr_lp fi35_1 rfl) ?_
          refine son rfl rfl rfl ?_
          refine sv rfl (opv_load1 ti3 rfl (.lp _ _ _ rfl) rfl) ?_
          refine son rfl rfl rfl ?_
          refine sv rfl (opv_gtr rfl rfl) ?_
          refine son rfl rfl rfl ?_
          refine sv rfl (opv_mv rfl) ?_
          refine ssplit 38 rfl (fun hc => ?_) (fun hc => ?_)
          · replace h := ite_t hc h
            clear hc
            refine son rfl rfl rfl ?_
            refine sv rfl (opv_loadN ti35 rfl (.lp _ _ _ rfl) (Nat.le_of_ble_eq_true rfl)) ?_
            refine son rfl rfl rfl ?_
            refine sv rfl (opv_loadN ti35 rfl (.lp _ _ _ rfl) (Nat.le_of_ble_eq_true rfl)) ?_
            refine son rfl rfl rfl ?_
            obtain ⟨v4, hv4, h⟩ := bind_eq h
            refine scall1 rfl fn24 (opnds_cons rfl (opnds_cons rfl opnds_nil)) (pubA_id rfl) (m24_serial_hasRead_c hv4) ?_
            refine son rfl rfl rfl ?_
            refine sv rfl (opv_pick_t rfl rfl) ?_
            refine sv rfl (opv_pick_f rfl rfl) ?_
            refine sv rfl (opv_as rfl) ?_
            refine snil ?_
            refine cret ?_
            obtain rfl := Option.some.inj h
            refine ⟨Or.inr rfl, _, _, _, (resVs_cons (ResV.tmp _ _ rfl) resVs_nil), (pubA_id rfl), ?_⟩
            rfl
          · replace h := ite_f hc h
            clear hc
            refine soff rfl rfl rfl rfl ?_
            refine soff rfl rfl rfl rfl ?_
            refine soff rfl rfl rfl rfl ?_
            refine son rfl rfl rfl ?_
            refine sv rfl (opv_pick_f rfl rfl) ?_
            refine sv rfl (opv_pick_f rfl rfl) ?_
            refine sv rfl (opv_as rfl) ?_
            refine snil ?_
            refine cret ?_
            obtain rfl := Option.some.inj h
            refine ⟨Or.inr rfl, _, _, _, (resVs_cons (ResV.tmp _ _ rfl) resVs_nil), (pubA_id rfl), ?_⟩
            rfl
    · replace h := ite_f hc h
      clear hc
      refine soff rfl rfl rfl rfl ?_
      refine soff rfl rfl rfl rfl ?_
      refine soff rfl rfl rfl rfl ?_
      refine sv rfl (opv_pick_f rfl rfl) ?_
      refine sv rfl (opv_mv rfl) ?_
      refine son rfl rfl rfl ?_
      refine sv rfl (opv_fieldAddr_lp fi35_2 rfl) ?_
      refine son rfl rfl rfl ?_
      refine sv rfl (opv_load1 ti3 rfl (.lp _ _ _ rfl) rfl) ?_
      refine son rfl rfl rfl ?_
      refine sv rfl (opv_fieldAddr_lp fi35_1 rfl) ?_
      refine son rfl rfl rfl ?_
      refine sv rfl (opv_load1 ti3 rfl (.lp _ _ _ rfl) rfl) ?_
      refine son rfl rfl rfl ?_
      refine sv rfl (opv_leq rfl rfl) ?_
      refine son rfl rfl rfl ?_
      refine sv rfl (opv_mv rfl) ?_
      refine ssplit 26 rfl (fun hc => ?_) (fun hc => ?_)
      · replace h := ite_t hc h
        clear hc
        refine son rfl rfl rfl ?_
        refine sv rfl (opv_loadN ti35 rfl (.lp _ _ _ rfl) (Nat.le_of_ble_eq_true rfl)) ?_
        refine son rfl rfl rfl ?_
        refine sv rfl (opv_loadN ti35 rfl (.lp _ _ _ rfl) (Nat.le_of_ble_eq_true rfl)) ?_
        refine son rfl rfl rfl ?_
        obtain ⟨v5, hv5, h⟩ := bind_eq h
        refine scall1 rfl fn24 (opnds_cons rfl (opnds_cons rfl opnds_nil)) (pubA_id rfl) (m24_serial_hasRead_c hv5) ?_
        refine son rfl rfl rfl ?_
        refine sv rfl (opv_pick_t rfl rfl) ?_
        refine sv rfl (opv_pick_f rfl rfl) ?_
        refine sv rfl (opv_mv rfl) ?_
        refine ssplit 32 rfl (fun hc => ?_) (fun hc => ?_)
        · replace h := ite_t hc h
          clear hc
          refine soff rfl rfl rfl rfl ?_
          refine soff rfl rfl rfl rfl ?_
          refine soff rfl rfl rfl rfl ?_
          refine soff rfl rfl rfl rfl ?_
          refine soff rfl rfl rfl rfl ?_
          refine soff rfl rfl rfl rfl ?_
          refine soffu rfl rfl rfl ?_
          refine soffu rfl rfl rfl ?_
          refine soffu rfl rfl rfl ?_
          refine soff rfl rfl rfl rfl ?_
          refine sv rfl (opv_pick_t rfl rfl) ?_
          refine sv rfl (opv_as rfl) ?_
          refine snil ?_
          refine cret ?_
          obtain rfl := Option.some.inj h
          refine ⟨Or.inr rfl, _, _, _, (resVs_cons (ResV.tmp _ _ rfl) resVs_nil), (pubA_id rfl), ?_⟩
          rfl
        · replace h := ite_f hc h
          clear hc
          refine son rfl rfl rfl ?_
          refine sv rfl (opv_fieldAddr_lp fi35_2 rfl) ?_
          refine son rfl rfl rfl ?_
          refine sv rfl (opv_load1 ti3 rfl (.lp _ _ _ rfl) rfl) ?_
          refine son rfl rfl rfl ?_
          refine sv rfl (opv_fieldAddr_lp fi35_1 rfl) ?_
          refine son rfl rfl rfl ?_
          refine sv rfl (opv_load1 ti3 rfl (.lp _ _ _ rfl) rfl) ?_
          refine son rfl rfl rfl ?_
          refine sv rfl (opv_gtr rfl rfl) ?_
          refine son rfl rfl rfl ?_
          refine sv rfl (opv_mv rfl) ?_
          refine ssplit 38 rfl (fun hc => ?_) (fun hc => ?_)
          · replace h := ite_t hc h
            clear hc
            refine son rfl rfl rfl ?_
            refine sv rfl (opv_loadN ti35 rfl (.lp _ _ _ rfl) (Nat.le_of_ble_eq_true rfl)) ?_
            refine son rfl rfl rfl ?_
            refine sv rfl (opv_loadN ti35 rfl (.lp _ _ _ rfl) (Nat.le_of_ble_eq_true rfl)) ?_
            refine son rfl rfl rfl ?_
            obtain ⟨v6, hv6, h⟩ := bind_eq h
            refine scall1 rfl fn24 (opnds_cons rfl (opnds_cons rfl opnds_nil)) (pubA_id rfl) (m24_serial_hasRead_c hv6) ?_
            refine son rfl rfl rfl ?_
            refine sv rfl (opv_pick_t rfl rfl) ?_
            refine sv rfl (opv_pick_f rfl rfl) ?_
            refine sv rfl (opv_as rfl) ?_
            refine snil ?_
            refine cret ?_
            obtain rfl := Option.some.inj h
            refine ⟨Or.inr rfl, _, _, _, (resVs_cons (ResV.tmp _ _ rfl) resVs_nil), (pubA_id rfl), ?_⟩
            rfl
          · replace h := ite_f hc h
            clear hc
            refine soff rfl rfl rfl rfl ?_
            refine soff rfl rfl rfl rfl ?_
            refine soff rfl rfl rfl rfl ?_
            refine son rfl rfl rfl ?_
            refine sv rfl (opv_pick_f rfl rfl) ?_
            refine sv rfl (opv_pick_f rfl rfl) ?_
            refine sv rfl (opv_as rfl) ?_
            refine snil ?_
            refine cret ?_
            obtain rfl := Option.some.inj h
            refine ⟨Or.inr rfl, _, _, _, (resVs_cons (ResV.tmp _ _ rfl) resVs_nil), (pubA_id rfl), ?_⟩
            rfl
      · replace h := ite_f hc h
        clear hc
        refine soff rfl rfl rfl rfl ?_
        refine soff rfl rfl rfl rfl ?_
        refine soff rfl rfl rfl rfl ?_
        refine son rfl rfl rfl ?_
        refine sv rfl (opv_pick_f rfl rfl) ?_
        refine sv rfl (opv_pick_f rfl rfl) ?_
        refine sv rfl (opv_mv rfl) ?_
        refine son rfl rfl rfl ?_
        refine sv rfl (opv_fieldAddr_lp fi35_2 rfl) ?_
        refine son rfl rfl rfl ?_
        refine sv rfl (opv_load1 ti3 rfl (.lp _ _ _ rfl) rfl) ?_
        refine son rfl rfl rfl ?_
        refine sv rfl (opv_fieldAddr_lp fi35_1 rfl) ?_
        refine son rfl rfl rfl ?_
        refine sv rfl (opv_load1 ti3 rfl (.lp _ _ _ rfl) rfl) ?_
        refine son rfl rfl rfl ?_
        refine sv rfl (opv_gtr rfl rfl) ?_
        refine son rfl rfl rfl ?_
        refine sv rfl (opv_mv rfl) ?_
        refine ssplit 38 rfl (fun hc => ?_) (fun hc => ?_)
        · replace h := ite_t hc h
          clear hc
          refine son rfl rfl rfl ?_
          refine sv rfl (opv_loadN ti35 rfl (.lp _ _ _ rfl) (Nat.le_of_ble_eq_true rfl)) ?_
          refine son rfl rfl rfl ?_
          refine sv rfl (opv_loadN ti35 rfl (.lp _ _ _ rfl) (Nat.le_of_ble_eq_true rfl)) ?_
          refine son rfl rfl rfl ?_
          obtain ⟨v7, hv7, h⟩ := bind_eq h
          refine scall1 rfl fn24 (opnds_cons rfl (opnds_cons rfl opnds_nil)) (pubA_id rfl) (m24_serial_hasRead_c hv7) ?_
          refine son rfl rfl rfl ?_
          refine sv rfl (opv_pick_t rfl rfl) ?_
          refine sv rfl (opv_pick_f rfl rfl) ?_
          refine sv rfl (opv_as rfl) ?_
          refine snil ?_
          refine cret ?_
          obtain rfl := Option.some.inj h
          refine ⟨Or.inr rfl, _, _, _, (resVs_cons (ResV.tmp _ _ rfl) resVs_nil), (pubA_id rfl), ?_⟩
          rfl
        · replace h := ite_f hc h
          clear hc
          refine soff rfl rfl rfl rfl ?_
          refine soff rfl rfl rfl rfl ?_
          refine soff rfl rfl rfl rfl ?_
          refine son rfl rfl rfl ?_
          refine sv rfl (opv_pick_f rfl rfl) ?_
          refine sv rfl (opv_pick_f rfl rfl) ?_
          refine sv rfl (opv_as rfl) ?_
          refine snil ?_
          refine cret ?_
          obtain rfl := Option.some.inj h
          refine ⟨Or.inr rfl, _, _, _, (resVs_cons (ResV.tmp _ _ rfl) resVs_nil), (pubA_id rfl), ?_⟩
          rfl

def m21_serial_Order_1_1s (a0 : Int) (a1 : List GSerialTx) (a2 : Int) : Option Bool :=
  (idx a1 a0).bind fun u1 => (idx a1 a2).bind fun u2 => (m11_serial_Ahead u1 u2).bind fun v3 => some v3

set_option maxRecDepth 100000 in
theorem m21_serial_Order_1_1s_c {a0 : Int} {a1 : List GSerialTx} {a2 : Int} {r : Bool} (h : m21_serial_Order_1_1s a0 a1 a2 = some r) : CallsB Try.prog 21 [.box [.sl a1.length (a1.flatMap eGSerialTx)], .box [.i .i64 a2]] [.one (.i .i64 a0), .one (.lp 0 0), .one (.lp 1 0)] (fun y m' => y = .s (.one (.b r)) ∧ m' = [.box [.sl a1.length (a1.flatMap eGSerialTx)], .box [.i .i64 a2]]) := by
  unfold m21_serial_Order_1_1s at h
  refine callsB_of Try.func21 rfl (nt := 14) rfl (Nat.le_of_ble_eq_true rfl) ?_
  intro w0 S0 X0 H0
  refine cseq ?_
  refine cregion ?_
  refine sv rfl (opv_as rfl) ?_
  refine snil ?_
  refine cseq ?_
  refine cdraw mixed (by kernel_rfl) ?_
  refine dv rfl (opv_load1 ti26 rfl (.lp _ _ _ rfl) rfl) ?_
  refine dv rfl (opv_mv rfl) ?_
  obtain ⟨u1, hu1, h⟩ := bind_eq h
  refine dv rfl (opv_ix (f := eGSerialTx) si26 (fun _ => rfl) rfl rfl rfl rfl hu1) ?_
  refine dv rfl (opv_loadNe (ys := [.i .i64 u1.Token, .i .i64 u1.Snap, .i .i64 u1.Ts, .sl u1.Reads.length (u1.Reads.flatMap eGApiRange), .sl u1.Writes.length (u1.Writes.flatMap eGApiWrite)]) ti35 rfl (.cp _) rfl rfl) ?_
  refine dv rfl (opv_load1 ti26 rfl (.lp _ _ _ rfl) rfl) ?_
  refine dv rfl (opv_load1 ti3 rfl (.lp _ _ _ rfl) rfl) ?_
  obtain ⟨u2, hu2, h⟩ := bind_eq h
  refine dv rfl (opv_ix (f := eGSerialTx) si26 (fun _ => rfl) rfl rfl rfl rfl hu2) ?_
  refine dv rfl (opv_loadNe (ys := [.i .i64 u2.Token, .i .i64 u2.Snap, .i .i64 u2.Ts, .sl u2.Reads.length (u2.Reads.flatMap eGApiRange), .sl u2.Writes.length (u2.Writes.flatMap eGApiWrite)]) ti35 rfl (.cp _) rfl rfl) ?_
  obtain ⟨v3, hv3, h⟩ := bind_eq h
  refine dd rfl (opD_call fn11 (opnds_cons rfl (opnds_cons rfl opnds_nil)) rfl (m11_serial_Ahead_c hv3)) ?_
  refine dv rfl (opv_as rfl) ?_
  refine dnil ?_
  refine then_normal ?_
  refine cret ?_
  obtain rfl := Option.some.inj h
  exact ⟨Or.inr rfl, _, [0, 1], [.one (.b v3)], [.box [.sl a1.length (a1.flatMap eGSerialTx)], .box [.i .i64 a2]], (resVs_cons (ResV.tmp _ _ rfl) resVs_nil), rfl, rfl, ⟨by decide, rfl⟩, rfl, rfl, ⟨rfl, rfl⟩⟩

def m30_slices_IndexFuncs1_k1 (b1 : Unit) : Option Int :=
  some (-1)

def m30_slices_IndexFuncs1_s2 (a0 : List Int) (a1 : List GSerialTx) (a2 : Int) (s2 : Int) : Option (LR (Int) (Unit) (Int)) :=
  if (decide (s2 < (a0.length : Int))) then ((idx a0 s2).bind fun u3 => (m21_serial_Order_1_1s u3 a1 a2).bind fun v4 => if v4 then (some (.ret s2)) else (some (.cont (wI (s2 + 1))))) else (some (.brk ()))
def m30_slices_IndexFuncs1 (a0 : List Int) (a1 : List GSerialTx) (a2 : Int) : Option Int :=
  (iter (m30_slices_IndexFuncs1_s2 a0 a1 a2) fuel 0).bind fun x => match x with | .inl r => some r | .inr e5 => m30_slices_IndexFuncs1_k1 e5

set_option maxRecDepth 100000 in
theorem m30_slices_IndexFuncs1_c {a0 : List Int} {a1 : List GSerialTx} {a2 : Int} {r : Int} (h : m30_slices_IndexFuncs1 a0 a1 a2 = some r) : CallsB Try.prog 30 [.box [.sl a1.length (a1.flatMap eGSerialTx)], .box [.i .i64 a2]] [.one (.sl a0.length (a0.flatMap eI)), .one (.fn 21 [] [.lp 0 0, .lp 1 0])] (fun y m' => y = .s (.one (.i .i64 r)) ∧ m' = [.box [.sl a1.length (a1.flatMap eGSerialTx)], .box [.i .i64 a2]]) := by
  unfold m30_slices_IndexFuncs1 at h
  refine callsB_of Try.func30 rfl (nt := 19) rfl (Nat.le_of_ble_eq_true rfl) ?_
  intro w0 S0 X0 H0
  refine cseq ?_
  refine cregion ?_
  refine sv rfl (opv_as rfl) ?_
  refine snil ?_
  refine cseq ?_
  refine cseq ?_
  refine cregion ?_
  refine sv rfl (opv_mv rfl) ?_
  refine sv rfl (opv_len_sl si50 rfl) ?_
  refine sv rfl (opv_mv rfl) ?_
  refine snil ?_
  refine cjoin (Unit) (fun b1 => []) (fun b1 => [.box [.sl a1.length (a1.flatMap eGSerialTx)], .box [.i .i64 a2]]) (fun b1 => m30_slices_IndexFuncs1_k1 b1 = some r) (fun _ _ => inbL_of rfl) (fun _ _ => blkinb_of rfl) (fun _ _ => Nat.le_of_ble_eq_true rfl) (fun b1 h => ?_) ?_
  · unfold m30_slices_IndexFuncs1_k1 at h
    refine cseq ?_
    refine cregion ?_
    refine sv rfl (opv_as rfl) ?_
    refine snil ?_
    refine cret ?_
    obtain rfl := Option.some.inj h
    exact ⟨Or.inr rfl, _, [0, 1], [.one (.i .i64 (-1))], [.box [.sl a1.length (a1.flatMap eGSerialTx)], .box [.i .i64 a2]], (resVs_cons (ResV.tmp _ _ rfl) resVs_nil), rfl, rfl, ⟨by decide, rfl⟩, rfl, rfl, ⟨rfl, rfl⟩⟩
  · skip
    refine cblock ?_
    obtain ⟨x2, hx2, ho2⟩ := bind_eq h
    refine awc_loop (G := Nat × (Int)) (fun g => [(0, .s (.one (.sl a0.length (a0.flatMap eI)))), (1, .s (.one (.fn 21 [] [.lp 0 0, .lp 1 0]))), (7, .s (.one (.i .i64 (a0.length : Int)))), (8, .s (.one (.i .i64 g.2)))]) (fun g => [.box [.sl a1.length (a1.flatMap eGSerialTx)], .box [.i .i64 a2]]) (fun g => iter (m30_slices_IndexFuncs1_s2 a0 a1 a2) g.1 g.2 = some x2) (fun g => g.1) (fuel, 0) hx2 ⟨rfl, rfl, rfl, rfl, trivial⟩ [] rfl (fun _ _ => inbL_of rfl) (fun _ _ => blkinb_of rfl) (fun _ _ => Nat.le_of_ble_eq_true rfl) ?_
    clear hx2 h
    rintro ⟨n2, s2⟩ h
    obtain ⟨n2, y2, rfl, h, hk2⟩ := iter_eq h
    unfold m30_slices_IndexFuncs1_s2 at h
    refine cseq ?_
    refine cregion ?_
    refine sv rfl (opv_lss rfl rfl) ?_
    refine snil ?_
    refine cseq ?_
    refine ccond rfl (fun hc => ?_) (fun hc => ?_)
    · replace h := ite_t hc h
      clear hc
      refine cskip ?_
      refine then_normal ?_
      refine cseq ?_
      refine cblock ?_
      refine cseq ?_
      refine cregion ?_
      refine sv rfl (opv_mv rfl) ?_
      refine sv rfl (opv_as rfl) ?_
      refine snil ?_
      refine cseq ?_
      refine cregion ?_
      refine sv rfl (opv_mv rfl) ?_
      refine sv rfl (opv_mv rfl) ?_
      refine sv rfl (opv_mv rfl) ?_
      obtain ⟨u3, hu3, h⟩ := bind_eq h
      refine sv rfl (opv_ix (f := eI) si50 (fun _ => rfl) rfl rfl rfl rfl hu3) ?_
      refine sv rfl (opv_load1 ti3 rfl (.cp _) rfl) ?_
      obtain ⟨v4, hv4, h⟩ := bind_eq h
      refine scallB (x' := .s (.one (.b v4))) (M' := [.box [.sl a1.length (a1.flatMap eGSerialTx)], .box [.i .i64 a2]]) [0, 1] rfl fn21 (.fn _ _ _ _ rfl) (opnds_cons rfl opnds_nil) (m21_serial_Order_1_1s_c hv4) rfl rfl (by decide) rfl rfl rfl ?_
      refine snil ?_
      refine ccond rfl (fun hc => ?_) (fun hc => ?_)
      · replace h := ite_t hc h
        clear hc
        refine cseq ?_
        refine cregion ?_
        refine sv rfl (opv_mv rfl) ?_
        refine sv rfl (opv_as rfl) ?_
        refine snil ?_
        refine cret ?_
        refine block_ret ?_
        refine then_ret ?_
        refine then_ret ?_
        refine block_ret ?_
        refine then_ret ?_
        obtain rfl := Option.some.inj h
        obtain rfl : Sum.inl _ = x2 := hk2
        replace ho2 : some _ = some _ := ho2
        obtain rfl := Option.some.inj ho2
        exact ⟨Or.inr rfl, _, [0, 1], [.one (.i .i64 s2)], [.box [.sl a1.length (a1.flatMap eGSerialTx)], .box [.i .i64 a2]], (resVs_cons (ResV.tmp _ _ rfl) resVs_nil), rfl, rfl, ⟨by decide, rfl⟩, rfl, rfl, ⟨rfl, rfl⟩⟩
      · replace h := ite_f hc h
        clear hc
        refine cskip ?_
        refine block_normal ?_
        refine then_normal ?_
        refine cregion ?_
        refine sv rfl (opv_add rfl rfl) ?_
        refine sv rfl (opv_mv rfl) ?_
        refine snil ?_
        obtain rfl := Option.some.inj h
        exact ⟨(n2, (wI (s2 + 1))), _, hk2, ⟨rfl, rfl, rfl, rfl, trivial⟩, rfl, Nat.lt_succ_self _⟩
    · replace h := ite_f hc h
      clear hc
      refine cexit ?_
      refine then_exit ?_
      refine then_exit ?_
      refine block_hit ?_
      refine then_normal ?_
      obtain rfl := Option.some.inj h
      obtain rfl : _ = x2 := hk2
      exact ⟨(), _, ho2, trivial, rfl⟩

def m18_serial_rows1 (a0 : List Int) (a1 : List GSerialTx) (a2 : Int) : Option Int :=
  (m30_slices_IndexFuncs1 a0 a1 a2).bind fun v1 => some v1

set_option maxRecDepth 100000 in
theorem m18_serial_rows1_c {a0 : List Int} {a1 : List GSerialTx} {a2 : Int} {r : Int} (h : m18_serial_rows1 a0 a1 a2 = some r) : CallsB Try.prog 18 [.box [.sl a1.length (a1.flatMap eGSerialTx)], .box [.i .i64 a2]] [.one (.sl a0.length (a0.flatMap eI)), .one (.fn 21 [] [.lp 0 0, .lp 1 0])] (fun y m' => y = .s (.one (.i .i64 r)) ∧ m' = [.box [.sl a1.length (a1.flatMap eGSerialTx)], .box [.i .i64 a2]]) := by
  unfold m18_serial_rows1 at h
  refine callsB_of Try.func18 rfl (nt := 8) rfl (Nat.le_of_ble_eq_true rfl) ?_
  intro w0 S0 X0 H0
  refine cseq ?_
  refine cregion ?_
  refine sv rfl (opv_as rfl) ?_
  refine snil ?_
  refine cseq ?_
  refine cregion ?_
  refine sv rfl (opv_mv rfl) ?_
  refine sv rfl (opv_mv rfl) ?_
  obtain ⟨v1, hv1, h⟩ := bind_eq h
  refine scallB (x' := .s (.one (.i .i64 v1))) (M' := [.box [.sl a1.length (a1.flatMap eGSerialTx)], .box [.i .i64 a2]]) [0, 1] rfl fn30 (.func _) (opnds_cons rfl (opnds_cons rfl opnds_nil)) (m30_slices_IndexFuncs1_c hv1) rfl rfl (by decide) rfl rfl rfl ?_
  refine sv rfl (opv_as rfl) ?_
  refine snil ?_
  refine cret ?_
  obtain rfl := Option.some.inj h
  exact ⟨Or.inr rfl, _, [0, 1], [.one (.i .i64 v1)], [.box [.sl a1.length (a1.flatMap eGSerialTx)], .box [.i .i64 a2]], (resVs_cons (ResV.tmp _ _ rfl) resVs_nil), rfl, rfl, ⟨by decide, rfl⟩, rfl, rfl, ⟨rfl, rfl⟩⟩

def m20_serial_rows (a0 : List Int) (a1 : List GSerialTx) (a2 : Int) : Option Bool :=
  (m18_serial_rows1 a0 a1 a2).bind fun v1 => some (decide (0 ≤ v1))

set_option maxRecDepth 100000 in
theorem m20_serial_rows_c {a0 : List Int} {a1 : List GSerialTx} {a2 : Int} {r : Bool} (h : m20_serial_rows a0 a1 a2 = some r) : CallsB Try.prog 20 [.box [.sl a1.length (a1.flatMap eGSerialTx)], .box [.i .i64 a2]] [.one (.sl a0.length (a0.flatMap eI)), .one (.fn 21 [] [.lp 0 0, .lp 1 0])] (fun y m' => y = .s (.one (.b r)) ∧ m' = [.box [.sl a1.length (a1.flatMap eGSerialTx)], .box [.i .i64 a2]]) := by
  unfold m20_serial_rows at h
  refine callsB_of Try.func20 rfl (nt := 9) rfl (Nat.le_of_ble_eq_true rfl) ?_
  intro w0 S0 X0 H0
  refine cseq ?_
  refine cregion ?_
  refine sv rfl (opv_as rfl) ?_
  refine snil ?_
  refine cseq ?_
  refine cregion ?_
  refine sv rfl (opv_mv rfl) ?_
  refine sv rfl (opv_mv rfl) ?_
  obtain ⟨v1, hv1, h⟩ := bind_eq h
  refine scallB (x' := .s (.one (.i .i64 v1))) (M' := [.box [.sl a1.length (a1.flatMap eGSerialTx)], .box [.i .i64 a2]]) [0, 1] rfl fn18 (.func _) (opnds_cons rfl (opnds_cons rfl opnds_nil)) (m18_serial_rows1_c hv1) rfl rfl (by decide) rfl rfl rfl ?_
  refine sv rfl (opv_geq rfl rfl) ?_
  refine sv rfl (opv_as rfl) ?_
  refine snil ?_
  refine cret ?_
  obtain rfl := Option.some.inj h
  exact ⟨Or.inr rfl, _, [0, 1], [.one (.b (decide (0 ≤ v1)))], [.box [.sl a1.length (a1.flatMap eGSerialTx)], .box [.i .i64 a2]], (resVs_cons (ResV.tmp _ _ rfl) resVs_nil), rfl, rfl, ⟨by decide, rfl⟩, rfl, rfl, ⟨rfl, rfl⟩⟩

def m19_serial_Order_1s (a0 : Int) (a1 : List Int) (a2 : List GSerialTx) : Option Bool :=
  (m20_serial_rows a1 a2 a0).bind fun v1 => some (!v1)

set_option maxRecDepth 100000 in
theorem m19_serial_Order_1s_c {a0 : Int} {a1 : List Int} {a2 : List GSerialTx} {r : Bool} (h : m19_serial_Order_1s a0 a1 a2 = some r) : CallsB Try.prog 19 [.box [.sl a1.length (a1.flatMap eI)], .box [.sl a2.length (a2.flatMap eGSerialTx)]] [.one (.i .i64 a0), .one (.lp 0 0), .one (.lp 1 0)] (fun y m' => y = .s (.one (.b r)) ∧ m' = [.box [.sl a1.length (a1.flatMap eI)], .box [.sl a2.length (a2.flatMap eGSerialTx)]]) := by
  unfold m19_serial_Order_1s at h
  refine callsB_of Try.func19 rfl (nt := 9) rfl (Nat.le_of_ble_eq_true rfl) ?_
  intro w0 S0 X0 H0
  refine cseq ?_
  refine cregion ?_
  refine sbox rfl rfl ?_
  refine sv rfl (opv_as rfl) ?_
  refine snil ?_
  refine cseq ?_
  refine cregion ?_
  refine sv rfl (opv_load1 ti50 rfl (.lp _ _ _ rfl) rfl) ?_
  refine sv rfl (opv_makeFunc opnds1_nil (opnds1_cons rfl rfl (opnds1_cons rfl rfl opnds1_nil))) ?_
  obtain ⟨v1, hv1, h⟩ := bind_eq h
  refine scallB (x' := .s (.one (.b v1))) (M' := [.box [.sl a1.length (a1.flatMap eI)], .box [.sl a2.length (a2.flatMap eGSerialTx)], .box [.i .i64 a0]]) [1, 2] rfl fn20 (.func _) (opnds_cons rfl (opnds_cons rfl opnds_nil)) (m20_serial_rows_c hv1) rfl rfl (by decide) rfl rfl rfl ?_
  refine sv rfl (opv_not rfl) ?_
  refine sv rfl (opv_as rfl) ?_
  refine snil ?_
  refine cret ?_
  obtain rfl := Option.some.inj h
  exact ⟨Or.inr rfl, _, [0, 1], [.one (.b (!v1))], [.box [.sl a1.length (a1.flatMap eI)], .box [.sl a2.length (a2.flatMap eGSerialTx)]], (resVs_cons (ResV.tmp _ _ rfl) resVs_nil), rfl, rfl, ⟨by decide, rfl⟩, rfl, rfl, ⟨rfl, rfl⟩⟩

def m30_slices_IndexFuncs_k1 (b1 : Unit) : Option Int :=
  some (-1)

def m30_slices_IndexFuncs_s2 (a0 : List Int) (a1 : List Int) (a2 : List GSerialTx) (s2 : Int) : Option (LR (Int) (Unit) (Int)) :=
  if (decide (s2 < (a0.length : Int))) then ((idx a0 s2).bind fun u3 => (m19_serial_Order_1s u3 a1 a2).bind fun v4 => if v4 then (some (.ret s2)) else (some (.cont (wI (s2 + 1))))) else (some (.brk ()))
def m30_slices_IndexFuncs (a0 : List Int) (a1 : List Int) (a2 : List GSerialTx) : Option Int :=
  (iter (m30_slices_IndexFuncs_s2 a0 a1 a2) fuel 0).bind fun x => match x with | .inl r => some r | .inr e5 => m30_slices_IndexFuncs_k1 e5

set_option maxRecDepth 100000 in
theorem m30_slices_IndexFuncs_c {a0 : List Int} {a1 : List Int} {a2 : List GSerialTx} {r : Int} (h : m30_slices_IndexFuncs a0 a1 a2 = some r) : CallsB Try.prog 30 [.box [.sl a1.length (a1.flatMap eI)], .box [.sl a2.length (a2.flatMap eGSerialTx)]] [.one (.sl a0.length (a0.flatMap eI)), .one (.fn 19 [] [.lp 0 0, .lp 1 0])] (fun y m' => y = .s (.one (.i .i64 r)) ∧ m' = [.box [.sl a1.length (a1.flatMap eI)], .box [.sl a2.length (a2.flatMap eGSerialTx)]]) := by
  unfold m30_slices_IndexFuncs at h
  refine callsB_of Try.func30 rfl (nt := 19) rfl (Nat.le_of_ble_eq_true rfl) ?_
  intro w0 S0 X0 H0
  refine cseq ?_
  refine cregion ?_
  refine sv rfl (opv_as rfl) ?_
  refine snil ?_
  refine cseq ?_
  refine cseq ?_
  refine cregion ?_
  refine sv rfl (opv_mv rfl) ?_
  refine sv rfl (opv_len_sl si50 rfl) ?_
  refine sv rfl (opv_mv rfl) ?_
  refine snil ?_
  refine cjoin (Unit) (fun b1 => []) (fun b1 => [.box [.sl a1.length (a1.flatMap eI)], .box [.sl a2.length (a2.flatMap eGSerialTx)]]) (fun b1 => m30_slices_IndexFuncs_k1 b1 = some r) (fun _ _ => inbL_of rfl) (fun _ _ => blkinb_of rfl) (fun _ _ => Nat.le_of_ble_eq_true rfl) (fun b1 h => ?_) ?_
  · unfold m30_slices_IndexFuncs_k1 at h
    refine cseq ?_
    refine cregion ?_
    refine sv rfl (opv_as rfl) ?_
    refine snil ?_
    refine cret ?_
    obtain rfl := Option.some.inj h
    exact ⟨Or.inr rfl, _, [0, 1], [.one (.i .i64 (-1))], [.box [.sl a1.length (a1.flatMap eI)], .box [.sl a2.length (a2.flatMap eGSerialTx)]], (resVs_cons (ResV.tmp _ _ rfl) resVs_nil), rfl, rfl, ⟨by decide, rfl⟩, rfl, rfl, ⟨rfl, rfl⟩⟩
  · skip
    refine cblock ?_
    obtain ⟨x2, hx2, ho2⟩ := bind_eq h
    refine awc_loop (G := Nat × (Int)) (fun g => [(0, .s (.one (.sl a0.length (a0.flatMap eI)))), (1, .s (.one (.fn 19 [] [.lp 0 0, .lp 1 0]))), (7, .s (.one (.i .i64 (a0.length : Int)))), (8, .s (.one (.i .i64 g.2)))]) (fun g => [.box [.sl a1.length (a1.flatMap eI)], .box [.sl a2.length (a2.flatMap eGSerialTx)]]) (fun g => iter (m30_slices_IndexFuncs_s2 a0 a1 a2) g.1 g.2 = some x2) (fun g => g.1) (fuel, 0) hx2 ⟨rfl, rfl, rfl, rfl, trivial⟩ [] rfl (fun _ _ => inbL_of rfl) (fun _ _ => blkinb_of rfl) (fun _ _ => Nat.le_of_ble_eq_true rfl) ?_
    clear hx2 h
    rintro ⟨n2, s2⟩ h
    obtain ⟨n2, y2, rfl, h, hk2⟩ := iter_eq h
    unfold m30_slices_IndexFuncs_s2 at h
    refine cseq ?_
    refine cregion ?_
    refine sv rfl (opv_lss rfl rfl) ?_
    refine snil ?_
    refine cseq ?_
    refine ccond rfl (fun hc => ?_) (fun hc => ?_)
    · replace h := ite_t hc h
      clear hc
      refine cskip ?_
      refine then_normal ?_
      refine cseq ?_
      refine cblock ?_
      refine cseq ?_
      refine cregion ?_
      refine sv rfl (opv_mv rfl) ?_
      refine sv rfl (opv_as rfl) ?_
      refine snil ?_
      refine cseq ?_
      refine cregion ?_
      refine sv rfl (opv_mv rfl) ?_
      refine sv rfl (opv_mv rfl) ?_
      refine sv rfl (opv_mv rfl) ?_
      obtain ⟨u3, hu3, h⟩ := bind_eq h
      refine sv rfl (opv_ix (f := eI) si50 (fun _ => rfl) rfl rfl rfl rfl hu3) ?_
      refine sv rfl (opv_load1 ti3 rfl (.cp _) rfl) ?_
      obtain ⟨v4, hv4, h⟩ := bind_eq h
      refine scallB (x' := .s (.one (.b v4))) (M' := [.box [.sl a1.length (a1.flatMap eI)], .box [.sl a2.length (a2.flatMap eGSerialTx)]]) [0, 1] rfl fn19 (.fn _ _ _ _ rfl) (opnds_cons rfl opnds_nil) (m19_serial_Order_1s_c hv4) rfl rfl (by decide) rfl rfl rfl ?_
      refine snil ?_
      refine ccond rfl (fun hc => ?_) (fun hc => ?_)
      · replace h := ite_t hc h
        clear hc
        refine cseq ?_
        refine cregion ?_
        refine sv rfl (opv_mv rfl) ?_
        refine sv rfl (opv_as rfl) ?_
        refine snil ?_
        refine cret ?_
        refine block_ret ?_
        refine then_ret ?_
        refine then_ret ?_
        refine block_ret ?_
        refine then_ret ?_
        obtain rfl := Option.some.inj h
        obtain rfl : Sum.inl _ = x2 := hk2
        replace ho2 : some _ = some _ := ho2
        obtain rfl := Option.some.inj ho2
        exact ⟨Or.inr rfl, _, [0, 1], [.one (.i .i64 s2)], [.box [.sl a1.length (a1.flatMap eI)], .box [.sl a2.length (a2.flatMap eGSerialTx)]], (resVs_cons (ResV.tmp _ _ rfl) resVs_nil), rfl, rfl, ⟨by decide, rfl⟩, rfl, rfl, ⟨rfl, rfl⟩⟩
      · replace h := ite_f hc h
        clear hc
        refine cskip ?_
        refine block_normal ?_
        refine then_normal ?_
        refine cregion ?_
        refine sv rfl (opv_add rfl rfl) ?_
        refine sv rfl (opv_mv rfl) ?_
        refine snil ?_
        obtain rfl := Option.some.inj h
        exact ⟨(n2, (wI (s2 + 1))), _, hk2, ⟨rfl, rfl, rfl, rfl, trivial⟩, rfl, Nat.lt_succ_self _⟩
    · replace h := ite_f hc h
      clear hc
      refine cexit ?_
      refine then_exit ?_
      refine then_exit ?_
      refine block_hit ?_
      refine then_normal ?_
      obtain rfl := Option.some.inj h
      obtain rfl : _ = x2 := hk2
      exact ⟨(), _, ho2, trivial, rfl⟩

def m18_serial_rows (a0 : List Int) (a1 : List Int) (a2 : List GSerialTx) : Option Int :=
  (m30_slices_IndexFuncs a0 a1 a2).bind fun v1 => some v1

set_option maxRecDepth 100000 in
theorem m18_serial_rows_c {a0 : List Int} {a1 : List Int} {a2 : List GSerialTx} {r : Int} (h : m18_serial_rows a0 a1 a2 = some r) : CallsB Try.prog 18 [.box [.sl a1.length (a1.flatMap eI)], .box [.sl a2.length (a2.flatMap eGSerialTx)]] [.one (.sl a0.length (a0.flatMap eI)), .one (.fn 19 [] [.lp 0 0, .lp 1 0])] (fun y m' => y = .s (.one (.i .i64 r)) ∧ m' = [.box [.sl a1.length (a1.flatMap eI)], .box [.sl a2.length (a2.flatMap eGSerialTx)]]) := by
  unfold m18_serial_rows at h
  refine callsB_of Try.func18 rfl (nt := 8) rfl (Nat.le_of_ble_eq_true rfl) ?_
  intro w0 S0 X0 H0
  refine cseq ?_
  refine cregion ?_
  refine sv rfl (opv_as rfl) ?_
  refine snil ?_
  refine cseq ?_
  refine cregion ?_
  refine sv rfl (opv_mv rfl) ?_
  refine sv rfl (opv_mv rfl) ?_
  obtain ⟨v1, hv1, h⟩ := bind_eq h
  refine scallB (x' := .s (.one (.i .i64 v1))) (M' := [.box [.sl a1.length (a1.flatMap eI)], .box [.sl a2.length (a2.flatMap eGSerialTx)]]) [0, 1] rfl fn30 (.func _) (opnds_cons rfl (opnds_cons rfl opnds_nil)) (m30_slices_IndexFuncs_c hv1) rfl rfl (by decide) rfl rfl rfl ?_
  refine sv rfl (opv_as rfl) ?_
  refine snil ?_
  refine cret ?_
  obtain rfl := Option.some.inj h
  exact ⟨Or.inr rfl, _, [0, 1], [.one (.i .i64 v1)], [.box [.sl a1.length (a1.flatMap eI)], .box [.sl a2.length (a2.flatMap eGSerialTx)]], (resVs_cons (ResV.tmp _ _ rfl) resVs_nil), rfl, rfl, ⟨by decide, rfl⟩, rfl, rfl, ⟨rfl, rfl⟩⟩

def m43_slices_Growo_k1 (a0 : Int) (b1 : Unit) : Option (List Int) :=
  if (decide (0 < (wI (a0 - (wI (0 - 0)))))) then (if 0 < (wI (a0 - (wI (0 - 0)))) ∧ (wI (a0 - (wI (0 - 0)))) * ((8 : Nat) : Int) ≤ 281474976710656 then (if (0 : Int) ≤ 0 ∧ 0 ≤ ((List.replicate (wI (a0 - (wI (0 - 0)))).toNat (0 : Int)).length : Int) then (some ((List.replicate (wI (a0 - (wI (0 - 0)))).toNat (0 : Int)).take (0 : Int).toNat)) else none) else none) else (some ([] : List Int))
def m43_slices_Growo (a0 : Int) : Option (List Int) :=
  if (decide (a0 < 0)) then none else (m43_slices_Growo_k1 a0 ())

set_option maxRecDepth 100000 in
theorem m43_slices_Growo_c {a0 : Int} {r : (List Int)} (h : m43_slices_Growo a0 = some r) : CallsB Try.prog 43 [] [.one (.raw (.slice none 0 0)), .one (.i .i64 a0)] (fun y m' => y = .s (.one (.ls 0 r.length)) ∧ m' = [.arr 3 1 0 (r.flatMap eI)]) := by
  unfold m43_slices_Growo at h
  refine callsB_of Try.func43 rfl (nt := 27) rfl (Nat.le_of_ble_eq_true rfl) ?_
  intro w0 S0 X0 H0
  refine cseq ?_
  refine cregion ?_
  refine sv rfl (opv_as rfl) ?_
  refine snil ?_
  refine cseq ?_
  refine cseq ?_
  refine cregion ?_
  refine sv rfl (opv_mv rfl) ?_
  refine sv rfl (opv_lss rfl rfl) ?_
  refine snil ?_
  refine cjoin (Unit) (fun b1 => [(0, .s (.one (.raw (.slice none 0 0)))), (1, .s (.one (.i .i64 a0)))]) (fun b1 => []) (fun b1 => m43_slices_Growo_k1 a0 b1 = some r) (fun _ _ => inbL_of rfl) (fun _ _ => blkinb_of rfl) (fun _ _ => Nat.le_of_ble_eq_true rfl) (fun b1 h => ?_) ?_
  · unfold m43_slices_Growo_k1 at h
    refine cseq ?_
    refine cseq ?_
    refine cregion ?_
    refine sv rfl (opv_mv rfl) ?_
    refine sv rfl (opv_mv rfl) ?_
    refine sv rfl (opv_cap_nil si50 rfl) ?_
    refine sv rfl (opv_mv rfl) ?_
    refine sv rfl (opv_len_nil si50 rfl) ?_
    refine sv rfl (opv_sub rfl rfl) ?_
    refine sv rfl (opv_sub rfl rfl) ?_
    refine sv rfl (opv_as rfl) ?_
    refine snil ?_
    refine cseq ?_
    refine cregion ?_
    refine sv rfl (opv_mv rfl) ?_
    refine sv rfl (opv_gtr rfl rfl) ?_
    refine snil ?_
    refine ccond rfl (fun hc => ?_) (fun hc => ?_)
    · replace h := ite_t hc h
      clear hc
      refine cregion ?_
      refine sv rfl (opv_mv rfl) ?_
      refine sv rfl (opv_mv rfl) ?_
      refine sv rfl (opv_cap_nil si50 rfl) ?_
      refine sv rfl (opv_slice_nil si50 rfl rfl) ?_
      refine sv rfl (opv_mv rfl) ?_
      obtain ⟨hm2, h⟩ := chk_eq h
      refine sappz (f := eI) (z := (0 : Int)) rfl Try.underlying50 ei3 Try.underlying3 (fun _ => rfl) rfl rfl rfl hm2 (by decide) ?_
      refine sv rfl (opv_mv rfl) ?_
      refine sv rfl (opv_len_nil si50 rfl) ?_
      obtain ⟨hs3, h⟩ := chk_eq h
      refine strunc (f := eI) rfl si50 (fun _ => rfl) rfl rfl rfl rfl rfl hs3 ?_
      refine sv rfl (opv_as rfl) ?_
      refine snil ?_
      refine cseq ?_
      refine cregion ?_
      refine sv rfl (opv_mv rfl) ?_
      refine sv rfl (opv_as rfl) ?_
      refine snil ?_
      refine cret ?_
      obtain rfl := Option.some.inj h
      exact ⟨Or.inr rfl, _, [1], [.one (.ls 0 ((List.replicate (wI (a0 - (wI (0 - 0)))).toNat (0 : Int)).take (0 : Int).toNat).length)], [.arr 3 1 0 (((List.replicate (wI (a0 - (wI (0 - 0)))).toNat (0 : Int)).take (0 : Int).toNat).flatMap eI)], (resVs_cons (ResV.tmp _ _ rfl) resVs_nil), rfl, rfl, ⟨by decide, rfl⟩, rfl, rfl, ⟨rfl, rfl⟩⟩
    · replace h := ite_f hc h
      clear hc
      refine cskip ?_
      refine then_normal ?_
      refine cseq ?_
      refine cregion ?_
      refine sv rfl (opv_mv rfl) ?_
      refine sv rfl (opv_as rfl) ?_
      refine snil ?_
      refine sadopt_c 3 1 4 (by decide) rfl ?_
      refine cret ?_
      obtain rfl := Option.some.inj h
      exact ⟨Or.inr rfl, _, [0], [.one (.ls 0 ([] : List Int).length)], [.arr 3 1 0 (([] : List Int).flatMap eI)], (resVs_cons (ResV.tmp _ _ rfl) resVs_nil), rfl, rfl, ⟨by decide, rfl⟩, rfl, rfl, ⟨rfl, rfl⟩⟩
  · skip
    refine ccond rfl (fun hc => ?_) (fun hc => ?_)
    · replace h := ite_t hc h
      clear hc
      cases h
    · replace h := ite_f hc h
      clear hc
      refine cskip ?_
      refine then_normal ?_
      exact ⟨(), _, h, ⟨rfl, rfl, trivial⟩, rfl⟩

def m31_slices_Concat_k3 (b3 : (List Int)) : Option (List Int) :=
  some b3

def m31_slices_Concat_s4 (a0 : List (List Int)) (s4 : Int × (List Int)) : Option (LB (Int × (List Int)) ((List Int))) :=
  if (decide (s4.1 < (a0.length : Int))) then ((idx a0 s4.1).bind fun u5 => if (s4.2.length + u5.length) * 8 ≤ 140737488355328 then (some (.cont ((wI (s4.1 + 1)), (s4.2 ++ u5)))) else none) else (some (.brk s4.2))

def m31_slices_Concat_k1 (a0 : List (List Int)) (b1 : Int) : Option (List Int) :=
  (m43_slices_Growo b1).bind fun v2 => (iterB (m31_slices_Concat_s4 a0) fuel (0, v2)).bind fun e7 => m31_slices_Concat_k3 e7

def m31_slices_Concat_s8 (a0 : List (List Int)) (s8 : Int × Int) : Option (LB (Int × Int) (Int)) :=
  if (decide (s8.2 < (a0.length : Int))) then ((idx a0 s8.2).bind fun u9 => if (decide ((wI (s8.1 + (u9.length : Int))) < 0)) then none else (some (.cont ((wI (s8.1 + (u9.length : Int))), (wI (s8.2 + 1)))))) else (some (.brk s8.1))
def m31_slices_Concat (a0 : List (List Int)) : Option (List Int) :=
  (iterB (m31_slices_Concat_s8 a0) fuel (0, 0)).bind fun e10 => m31_slices_Concat_k1 a0 e10

set_option maxRecDepth 100000 in
theorem m31_slices_Concat_c {a0 : List (List Int)} {r : (List Int)} (h : m31_slices_Concat a0 = some r) : CallsA Try.prog 31 [.one (.sl a0.length (a0.flatMap (eL eI)))] (· = .s (.one (.sl r.length (r.flatMap eI)))) := by
  unfold m31_slices_Concat at h
  refine callsA_of Try.func31 rfl (nt := 36) rfl (Nat.le_of_ble_eq_true rfl) ?_
  intro w0 S0
  refine cseq ?_
  refine cregion ?_
  refine sv rfl (opv_as rfl) ?_
  refine snil ?_
  refine cseq ?_
  refine cregion ?_
  refine sv rfl (opv_as rfl) ?_
  refine snil ?_
  refine cseq ?_
  refine cseq ?_
  refine cregion ?_
  refine sv rfl (opv_mv rfl) ?_
  refine sv rfl (opv_len_sl si71 rfl) ?_
  refine sv rfl (opv_mv rfl) ?_
  refine snil ?_
  refine cjoin (Int) (fun b1 => [(0, .s (.one (.sl a0.length (a0.flatMap (eL eI))))), (3, .s (.one (.i .i64 b1)))]) (fun b1 => []) (fun b1 => m31_slices_Concat_k1 a0 b1 = some r) (fun _ _ => inbL_of rfl) (fun _ _ => blkinb_of rfl) (fun _ _ => Nat.le_of_ble_eq_true rfl) (fun b1 h => ?_) ?_
  · unfold m31_slices_Concat_k1 at h
    refine cseq ?_
    refine cregion ?_
    refine sv rfl (opv_mv rfl) ?_
    obtain ⟨v2, hv2, h⟩ := bind_eq h
    refine scallB (x' := .s (.one (.ls 0 v2.length))) (M' := [.arr 3 1 0 (v2.flatMap eI)]) [] rfl fn43 (.func _) (opnds_cons rfl (opnds_cons rfl opnds_nil)) (m43_slices_Growo_c hv2) rfl rfl (by decide) rfl rfl rfl ?_
    refine sv rfl (opv_as rfl) ?_
    refine snil ?_
    refine cseq ?_
    refine cseq ?_
    refine cregion ?_
    refine sv rfl (opv_mv rfl) ?_
    refine sv rfl (opv_len_sl si71 rfl) ?_
    refine sv rfl (opv_mv rfl) ?_
    refine snil ?_
    refine cjoin ((List Int)) (fun b3 => [(6, .s (.one (.ls 0 b3.length)))]) (fun b3 => [.arr 3 1 0 (b3.flatMap eI)]) (fun b3 => m31_slices_Concat_k3 b3 = some r) (fun _ _ => inbL_of rfl) (fun _ _ => blkinb_of rfl) (fun _ _ => Nat.le_of_ble_eq_true rfl) (fun b3 h => ?_) ?_
    · unfold m31_slices_Concat_k3 at h
      refine cseq ?_
      refine cregion ?_
      refine sv rfl (opv_mv rfl) ?_
      refine sv rfl (opv_as rfl) ?_
      refine snil ?_
      refine cret ?_
      obtain rfl := Option.some.inj h
      refine ⟨Or.inr rfl, _, _, _, (resVs_cons (ResV.tmp _ _ rfl) resVs_nil), (by (repeat' first | exact PubA.nil _ | apply PubA.cons | apply PubV.one | apply PubV.agg | exact PubL.nil | exact PubL.ls _ _ _ _ _ _ rfl (flat_len (f := eI) (fun _ => rfl) _).symm | exact PubL.id _ rfl | exact PubLs.nil _ | apply PubLs.cons)), ?_⟩
      rfl
    · skip
      refine cblock ?_
      obtain ⟨x4, hx4, ho4⟩ := bind_eq h
      refine awc_loop (G := Nat × (Int × (List Int))) (fun g => [(6, .s (.one (.ls 0 g.2.2.length))), (25, .s (.one (.sl a0.length (a0.flatMap (eL eI))))), (26, .s (.one (.i .i64 (a0.length : Int)))), (27, .s (.one (.i .i64 g.2.1)))]) (fun g => [.arr 3 1 0 (g.2.2.flatMap eI)]) (fun g => iterB (m31_slices_Concat_s4 a0) g.1 g.2 = some x4) (fun g => g.1) (fuel, (0, v2)) hx4 ⟨rfl, rfl, rfl, rfl, trivial⟩ [] rfl (fun _ _ => inbL_of rfl) (fun _ _ => blkinb_of rfl) (fun _ _ => Nat.le_of_ble_eq_true rfl) ?_
      clear hx4 h
      rintro ⟨n4, s4⟩ h
      obtain ⟨n4, y4, rfl, h, hk4⟩ := iterB_eq h
      unfold m31_slices_Concat_s4 at h
      refine cseq ?_
      refine cregion ?_
      refine sv rfl (opv_lss rfl rfl) ?_
      refine snil ?_
      refine cseq ?_
      refine ccond rfl (fun hc => ?_) (fun hc => ?_)
      · replace h := ite_t hc h
        clear hc
        refine cskip ?_
        refine then_normal ?_
        refine cseq ?_
        refine cblock ?_
        refine cseq ?_
        refine cregion ?_
        obtain ⟨u5, hu5, h⟩ := bind_eq h
        refine sv rfl (opv_ix (f := (eL eI)) si71 (fun _ => rfl) rfl rfl rfl rfl hu5) ?_
        refine sv rfl (opv_load1 ti50 rfl (.cp _) rfl) ?_
        refine sv rfl (opv_as rfl) ?_
        refine snil ?_
        refine cregion ?_
        refine sv rfl (opv_mv rfl) ?_
        refine sv rfl (opv_mv rfl) ?_
        obtain ⟨hb6, h⟩ := chk_eq h
        refine sapp (f := eI) (xs := s4.2) (us := u5) rfl Try.underlying50 ei3 ni50 (fun _ => rfl) rfl rfl (.one _ _ _ _ (.id _ rfl)) rfl rfl rfl (.sl _ _ _ (flat_len (f := eI) (fun _ => rfl) _)) rfl rfl hb6 (by decide) ?_
        refine sv rfl (opv_as rfl) ?_
        refine snil0 ?_
        refine block_normal ?_
        refine then_normal ?_
        refine cregion ?_
        refine sv rfl (opv_add rfl rfl) ?_
        refine sv rfl (opv_mv rfl) ?_
        refine snil ?_
        obtain rfl := Option.some.inj h
        exact ⟨(n4, ((wI (s4.1 + 1)), (s4.2 ++ u5))), _, hk4, ⟨rfl, rfl, rfl, rfl, trivial⟩, rfl, Nat.lt_succ_self _⟩
      · replace h := ite_f hc h
        clear hc
        refine cexit ?_
        refine then_exit ?_
        refine then_exit ?_
        refine block_hit ?_
        refine then_normal ?_
        obtain rfl := Option.some.inj h
        obtain rfl : _ = x4 := hk4
        exact ⟨s4.2, _, ho4, ⟨rfl, trivial⟩, rfl⟩
  · skip
    refine cblock ?_
    obtain ⟨x8, hx8, ho8⟩ := bind_eq h
    refine awc_loop (G := Nat × (Int × Int)) (fun g => [(0, .s (.one (.sl a0.length (a0.flatMap (eL eI))))), (3, .s (.one (.i .i64 g.2.1))), (9, .s (.one (.sl a0.length (a0.flatMap (eL eI))))), (10, .s (.one (.i .i64 (a0.length : Int)))), (11, .s (.one (.i .i64 g.2.2)))]) (fun g => []) (fun g => iterB (m31_slices_Concat_s8 a0) g.1 g.2 = some x8) (fun g => g.1) (fuel, (0, 0)) hx8 ⟨rfl, rfl, rfl, rfl, rfl, trivial⟩ [] rfl (fun _ _ => inbL_of rfl) (fun _ _ => blkinb_of rfl) (fun _ _ => Nat.le_of_ble_eq_true rfl) ?_
    clear hx8 h
    rintro ⟨n8, s8⟩ h
    obtain ⟨n8, y8, rfl, h, hk8⟩ := iterB_eq h
    unfold m31_slices_Concat_s8 at h
    refine cseq ?_
    refine cregion ?_
    refine sv rfl (opv_lss rfl rfl) ?_
    refine snil ?_
    refine cseq ?_
    refine ccond rfl (fun hc => ?_) (fun hc => ?_)
    · replace h := ite_t hc h
      clear hc
      refine cskip ?_
      refine then_normal ?_
      refine cseq ?_
      refine cblock ?_
      refine cseq ?_
      refine cregion ?_
      obtain ⟨u9, hu9, h⟩ := bind_eq h
      refine sv rfl (opv_ix (f := (eL eI)) si71 (fun _ => rfl) rfl rfl rfl rfl hu9) ?_
      refine sv rfl (opv_load1 ti50 rfl (.cp _) rfl) ?_
      refine sv rfl (opv_as rfl) ?_
      refine snil ?_
      refine cseq ?_
      refine cregion ?_
      refine sv rfl (opv_mv rfl) ?_
      refine sv rfl (opv_mv rfl) ?_
      refine sv rfl (opv_len_sl si50 rfl) ?_
      refine sv rfl (opv_add rfl rfl) ?_
      refine sv rfl (opv_as rfl) ?_
      refine snil ?_
      refine cseq ?_
      refine cregion ?_
      refine sv rfl (opv_mv rfl) ?_
      refine sv rfl (opv_lss rfl rfl) ?_
      refine snil ?_
      refine ccond rfl (fun hc => ?_) (fun hc => ?_)
      · replace h := ite_t hc h
        clear hc
        cases h
      · replace h := ite_f hc h
        clear hc
        refine cskip ?_
        refine block_normal ?_
        refine then_normal ?_
        refine cregion ?_
        refine sv rfl (opv_add rfl rfl) ?_
        refine sv rfl (opv_mv rfl) ?_
        refine snil ?_
        obtain rfl := Option.some.inj h
        exact ⟨(n8, ((wI (s8.1 + (u9.length : Int))), (wI (s8.2 + 1)))), _, hk8, ⟨rfl, rfl, rfl, rfl, rfl, trivial⟩, rfl, Nat.lt_succ_self _⟩
    · replace h := ite_f hc h
      clear hc
      refine cexit ?_
      refine then_exit ?_
      refine then_exit ?_
      refine block_hit ?_
      refine then_normal ?_
      obtain rfl := Option.some.inj h
      obtain rfl : _ = x8 := hk8
      exact ⟨s8.1, _, ho8, ⟨rfl, rfl, trivial⟩, rfl⟩

def m22_serial_row (a0 : List Int) (a1 : Int) : Option (List Int) :=
  (cut a0 0 a1).bind fun c1 => (cut a0 (wI (a1 + 1)) (a0.length : Int)).bind fun c2 => (m31_slices_Concat ([c1, c2] : List (List Int))).bind fun v3 => some v3

set_option maxRecDepth 100000 in
theorem m22_serial_row_c {a0 : List Int} {a1 : Int} {r : (List Int)} (h : m22_serial_row a0 a1 = some r) : CallsA Try.prog 22 [.one (.sl a0.length (a0.flatMap eI)), .one (.i .i64 a1)] (· = .s (.one (.sl r.length (r.flatMap eI)))) := by
  unfold m22_serial_row at h
  refine callsA_of Try.func22 rfl (nt := 14) rfl (Nat.le_of_ble_eq_true rfl) ?_
  intro w0 S0
  refine cseq ?_
  refine cregion ?_
  refine sv rfl (opv_as rfl) ?_
  refine snil ?_
  refine cseq ?_
  refine cdraw mixed (by kernel_rfl) ?_
  refine dv rfl (opv_mv rfl) ?_
  refine dv rfl (opv_mv rfl) ?_
  obtain ⟨c1, hc1, h⟩ := bind_eq h
  refine dv rfl (opv_cut (f := eI) (lo := 0) (hi := a1) si50 (fun _ => rfl) rfl rfl rfl bound_none (bound_some rfl (Int.le_trans (cut_eq hc1).1.1 (cut_eq hc1).1.2.1)) hc1) ?_
  refine dv rfl (opv_mv rfl) ?_
  refine dv rfl (opv_mv rfl) ?_
  refine dv rfl (opv_add rfl rfl) ?_
  obtain ⟨c2, hc2, h⟩ := bind_eq h
  refine dv rfl (opv_cut (f := eI) (lo := (wI (a1 + 1))) (hi := (a0.length : Int)) si50 (fun _ => rfl) rfl rfl rfl (bound_some rfl (cut_eq hc2).1.1) (by exact rfl) hc2) ?_
  refine dd rfl (opD_bld (out := ([c1, c2] : List (List Int)).flatMap (eL eI)) Try.underlying71 ei50 (parts_cons rfl (parts_cons rfl parts_nil)) (.cons _ _ _ _ _ _ _ rfl rfl (Nat.le_of_ble_eq_true rfl) (.cons _ _ _ _ _ _ _ rfl rfl (Nat.le_of_ble_eq_true rfl) (.nil _))) rfl (by decide)) ?_
  obtain ⟨v3, hv3, h⟩ := bind_eq h
  refine dd rfl (opD_call fn31 (opnds_cons rfl opnds_nil) rfl (m31_slices_Concat_c hv3)) ?_
  refine dv rfl (opv_as rfl) ?_
  refine dnil ?_
  refine then_normal ?_
  refine cret ?_
  obtain rfl := Option.some.inj h
  refine ⟨Or.inr rfl, _, _, _, (resVs_cons (ResV.tmp _ _ rfl) resVs_nil), (pubA_id rfl), ?_⟩
  rfl

def m10_serial_Order_k3 (b3 : (List Int) × (List Int) × (List Int)) : Option ((List Int) × Bool) :=
  some (b3.2.2, true)

def m10_serial_Order_s4 (a0 : List GSerialTx) (s4 : (List Int) × (List Int) × (List Int)) : Option (LR ((List Int) × (List Int) × (List Int)) ((List Int) × (List Int) × (List Int)) ((List Int) × Bool)) :=
  if (decide (0 < (s4.1.length : Int))) then ((m18_serial_rows s4.1 s4.1 a0).bind fun v5 => if (decide (v5 < 0)) then (some (.ret (s4.2.2, false))) else ((idx s4.1 v5).bind fun u6 => if (s4.2.2.length + [u6].length) * 8 ≤ 140737488355328 then ((m22_serial_row s4.1 v5).bind fun v8 => some (.cont (v8, s4.2.1, (s4.2.2 ++ [u6])))) else none)) else (some (.brk (s4.1, s4.2.1, s4.2.2)))

def m10_serial_Order_k2 (a0 : List GSerialTx) (b2 : (List Int)) : Option ((List Int) × Bool) :=
  (iter (m10_serial_Order_s4 a0) fuel (b2, b2, ([] : List Int))).bind fun x => match x with | .inl r => some r | .inr e9 => m10_serial_Order_k3 e9

def m10_serial_Order_s10 (a0 : List GSerialTx) (s10 : Int × (List Int)) : Option (LB (Int × (List Int)) ((List Int))) :=
  if (decide (s10.1 < (a0.length : Int))) then (if (s10.2.length + [s10.1].length) * 8 ≤ 140737488355328 then (some (.cont ((wI (s10.1 + 1)), (s10.2 ++ [s10.1])))) else none) else (some (.brk s10.2))
def m10_serial_Order (a0 : List GSerialTx) : Option ((List Int) × Bool) :=
  (m8_serial_Sane a0).bind fun v1 => if (!v1) then (some (([] : List Int), false)) else ((iterB (m10_serial_Order_s10 a0) fuel (0, ([] : List Int))).bind fun e12 => m10_serial_Order_k2 a0 e12)

set_option maxRecDepth 100000 in
theorem m10_serial_Order_c {a0 : List GSerialTx} {r : (List Int) × Bool} (h : m10_serial_Order a0 = some r) : CallsA Try.prog 10 [.one (.sl a0.length (a0.flatMap eGSerialTx))] (· = .tup [.one (.sl r.1.length (r.1.flatMap eI)), .one (.b r.2)]) := by
  unfold m10_serial_Order at h
  refine callsA_of Try.func10 rfl (nt := 41) rfl (Nat.le_of_ble_eq_true rfl) ?_
  intro w0 S0
  refine cseq ?_
  refine cregion ?_
  refine sbox rfl rfl ?_
  refine sv rfl (opv_as rfl) ?_
  refine sv rfl (opv_as rfl) ?_
  refine snil ?_
  refine cseq ?_
  refine cseq ?_
  refine cregion ?_
  refine sv rfl (opv_load1 ti26 rfl (.lp _ _ _ rfl) rfl) ?_
  obtain ⟨v1, hv1, h⟩ := bind_eq h
  refine scall1 rfl fn8 (opnds_cons rfl opnds_nil) (pubA_id rfl) (m8_serial_Sane_c hv1) ?_
  refine sv rfl (opv_not rfl) ?_
  refine snil ?_
  refine ccond rfl (fun hc => ?_) (fun hc => ?_)
  · replace h := ite_t hc h
    clear hc
    refine cseq ?_
    refine cregion ?_
    refine sv rfl (opv_as rfl) ?_
    refine sv rfl (opv_as rfl) ?_
    refine snil ?_
    refine cret ?_
    refine then_ret ?_
    obtain rfl := Option.some.inj h
    refine ⟨Or.inr rfl, _, _, _, (resVs_cons (ResV.tmp _ _ rfl) (resVs_cons (ResV.tmp _ _ rfl) resVs_nil)), (pubC rfl), ?_⟩
    rfl
  · replace h := ite_f hc h
    clear hc
    refine cskip ?_
    refine then_normal ?_
    refine cseq ?_
    refine cregion ?_
    refine salloc rfl zi50 ?_
    refine snil ?_
    refine cseq ?_
    refine cseq ?_
    refine cregion ?_
    refine sv rfl (opv_load1 ti26 rfl (.lp _ _ _ rfl) rfl) ?_
    refine sv rfl (opv_len_sl si26 rfl) ?_
    refine sv rfl (opv_mv rfl) ?_
    refine snil ?_
    refine sadopt_box_c 3 1 1 0 (by decide) rfl rfl ?_
    refine cjoin ((List Int)) (fun b2 => [(1, .s (.one (.lp 0 0))), (4, .s (.one (.lp 1 0)))]) (fun b2 => [.box [.sl a0.length (a0.flatMap eGSerialTx)], .box [.ls 2 b2.length], .arr 3 1 0 (b2.flatMap eI)]) (fun b2 => m10_serial_Order_k2 a0 b2 = some r) (fun _ _ => inbL_of rfl) (fun _ _ => blkinb_of rfl) (fun _ _ => Nat.le_of_ble_eq_true rfl) (fun b2 h => ?_) ?_
    · unfold m10_serial_Order_k2 at h
      refine cseq ?_
      refine cregion ?_
      refine sv rfl (opv_as rfl) ?_
      refine snil ?_
      refine cseq ?_
      refine sadopt_c 3 1 6 (by decide) rfl ?_
      refine cjoin ((List Int) × (List Int) × (List Int)) (fun b3 => [(6, .s (.one (.ls 3 b3.2.2.length)))]) (fun b3 => [.box [.sl a0.length (a0.flatMap eGSerialTx)], .box [.sl b3.1.length (b3.1.flatMap eI)], .arr 3 1 (b3.2.1.flatMap eI).length (b3.2.1.flatMap eI), .arr 3 1 0 (b3.2.2.flatMap eI)]) (fun b3 => m10_serial_Order_k3 b3 = some r) (fun _ _ => inbL_of rfl) (fun _ _ => blkinb_of rfl) (fun _ _ => Nat.le_of_ble_eq_true rfl) (fun b3 h => ?_) ?_
      · unfold m10_serial_Order_k3 at h
        refine cseq ?_
        refine cregion ?_
        refine sv rfl (opv_mv rfl) ?_
        refine sv rfl (opv_as rfl) ?_
        refine sv rfl (opv_as rfl) ?_
        refine snil ?_
        refine cret ?_
        obtain rfl := Option.some.inj h
        refine ⟨Or.inr rfl, _, _, _, (resVs_cons (ResV.tmp _ _ rfl) (resVs_cons (ResV.tmp _ _ rfl) resVs_nil)), (by (repeat' first | exact PubA.nil _ | apply PubA.cons | apply PubV.one | apply PubV.agg | exact PubL.nil | exact PubL.ls _ _ _ _ _ _ rfl (flat_len (f := eI) (fun _ => rfl) _).symm | exact PubL.id _ rfl | exact PubLs.nil _ | apply PubLs.cons)), ?_⟩
        rfl
      · skip
        refine cblock ?_
        refine cpubbox 1 0 rfl rfl (PubL.ls _ _ _ _ _ _ rfl (flat_len (f := eI) (fun _ => rfl) (b2 : List Int)).symm) rfl ?_
        obtain ⟨x4, hx4, ho4⟩ := bind_eq h
        refine awc_loop (G := Nat × ((List Int) × (List Int) × (List Int))) (fun g => [(1, .s (.one (.lp 0 0))), (4, .s (.one (.lp 1 0))), (6, .s (.one (.ls 3 g.2.2.2.length)))]) (fun g => [.box [.sl a0.length (a0.flatMap eGSerialTx)], .box [.sl g.2.1.length (g.2.1.flatMap eI)], .arr 3 1 (g.2.2.1.flatMap eI).length (g.2.2.1.flatMap eI), .arr 3 1 0 (g.2.2.2.flatMap eI)]) (fun g => iter (m10_serial_Order_s4 a0) g.1 g.2 = some x4) (fun g => g.1) (fuel, (b2, b2, ([] : List Int))) hx4 ⟨rfl, rfl, rfl, trivial⟩ [] rfl (fun _ _ => inbL_of rfl) (fun _ _ => blkinb_of rfl) (fun _ _ => Nat.le_of_ble_eq_true rfl) ?_
        clear hx4 h
        rintro ⟨n4, s4⟩ h
        obtain ⟨n4, y4, rfl, h, hk4⟩ := iter_eq h
        unfold m10_serial_Order_s4 at h
        refine cseq ?_
        refine cseq ?_
        refine cregion ?_
        refine sv rfl (opv_load1 ti50 rfl (.lp _ _ _ rfl) rfl) ?_
        refine sv rfl (opv_len_sl si50 rfl) ?_
        refine sv rfl (opv_gtr rfl rfl) ?_
        refine snil ?_
        refine ccond rfl (fun hc => ?_) (fun hc => ?_)
        · replace h := ite_t hc h
          clear hc
          refine cskip ?_
          refine then_normal ?_
          refine cblock ?_
          refine cseq ?_
          refine cregion ?_
          refine sv rfl (opv_load1 ti50 rfl (.lp _ _ _ rfl) rfl) ?_
          refine sv rfl (opv_makeFunc opnds1_nil (opnds1_cons rfl rfl (opnds1_cons rfl rfl opnds1_nil))) ?_
          obtain ⟨v5, hv5, h⟩ := bind_eq h
          refine scallB (x' := .s (.one (.i .i64 v5))) (M' := [.box [.sl a0.length (a0.flatMap eGSerialTx)], .box [.sl s4.1.length (s4.1.flatMap eI)], .arr 3 1 (s4.2.1.flatMap eI).length (s4.2.1.flatMap eI), .arr 3 1 0 (s4.2.2.flatMap eI)]) [1, 0] rfl fn18 (.func _) (opnds_cons rfl (opnds_cons rfl opnds_nil)) (m18_serial_rows_c hv5) rfl rfl (by decide) rfl rfl rfl ?_
          refine sv rfl (opv_as rfl) ?_
          refine snil ?_
          refine cseq ?_
          refine cseq ?_
          refine cregion ?_
          refine sv rfl (opv_mv rfl) ?_
          refine sv rfl (opv_lss rfl rfl) ?_
          refine snil ?_
          refine ccond rfl (fun hc => ?_) (fun hc => ?_)
          · replace h := ite_t hc h
            clear hc
            refine cseq ?_
            refine cregion ?_
            refine sv rfl (opv_mv rfl) ?_
            refine sv rfl (opv_as rfl) ?_
            refine sv rfl (opv_as rfl) ?_
            refine snil ?_
            refine cret ?_
            refine then_ret ?_
            refine block_ret ?_
            refine then_ret ?_
            refine block_ret ?_
            refine then_ret ?_
            obtain rfl := Option.some.inj h
            obtain rfl : Sum.inl _ = x4 := hk4
            replace ho4 : some _ = some _ := ho4
            obtain rfl := Option.some.inj ho4
            refine ⟨Or.inr rfl, _, _, _, (resVs_cons (ResV.tmp _ _ rfl) (resVs_cons (ResV.tmp _ _ rfl) resVs_nil)), (by (repeat' first | exact PubA.nil _ | apply PubA.cons | apply PubV.one | apply PubV.agg | exact PubL.nil | exact PubL.ls _ _ _ _ _ _ rfl (flat_len (f := eI) (fun _ => rfl) _).symm | exact PubL.id _ rfl | exact PubLs.nil _ | apply PubLs.cons)), ?_⟩
            rfl
          · replace h := ite_f hc h
            clear hc
            refine cskip ?_
            refine then_normal ?_
            refine cseq ?_
            refine cregion ?_
            refine sv rfl (opv_mv rfl) ?_
            refine sv rfl (opv_load1 ti50 rfl (.lp _ _ _ rfl) rfl) ?_
            refine sv rfl (opv_mv rfl) ?_
            obtain ⟨u6, hu6, h⟩ := bind_eq h
            refine sv rfl (opv_ix (f := eI) si50 (fun _ => rfl) rfl rfl rfl rfl hu6) ?_
            refine sv rfl (opv_load1 ti3 rfl (.cp _) rfl) ?_
            refine sbuild1 rfl Try.underlying28 ei3 rfl rfl (List.all_eq_true.1 rfl) (by decide) ?_
            refine smem [.box [.sl a0.length (a0.flatMap eGSerialTx)], .box [.sl s4.1.length (s4.1.flatMap eI)], .arr 3 1 (s4.2.1.flatMap eI).length (s4.2.1.flatMap eI), .arr 3 1 0 (s4.2.2.flatMap eI), .arr 3 1 0 ([u6].flatMap eI)] rfl ?_
            obtain ⟨hb7, h⟩ := chk_eq h
            refine sapp (f := eI) (xs := s4.2.2) (us := [u6]) rfl Try.underlying28 ei3 ni28 (fun _ => rfl) rfl rfl (.one _ _ _ _ (.ls _ _ _ _ _ _ rfl (flat_len (f := eI) (fun _ => rfl) [u6]).symm)) rfl rfl rfl (.sl _ _ _ (flat_len (f := eI) (fun _ => rfl) _)) rfl rfl hb7 (by decide) ?_
            refine sv rfl (opv_as rfl) ?_
            refine snil ?_
            refine cregion ?_
            refine sv rfl (opv_load1 ti50 rfl (.lp _ _ _ rfl) rfl) ?_
            refine sv rfl (opv_mv rfl) ?_
            obtain ⟨v8, hv8, h⟩ := bind_eq h
            refine scall1 rfl fn22 (opnds_cons rfl (opnds_cons rfl opnds_nil)) (pubA_id rfl) (m22_serial_row_c hv8) ?_
            refine sstore sz50 rfl rfl rfl rfl (Nat.le_of_ble_eq_true rfl) ?_
            refine smem [.box [.sl a0.length (a0.flatMap eGSerialTx)], .box [.sl v8.length (v8.flatMap eI)], .arr 3 1 (s4.2.1.flatMap eI).length (s4.2.1.flatMap eI), .arr 3 1 0 ((s4.2.2 ++ [u6]).flatMap eI), .arr 3 1 ([u6].flatMap eI).length ([u6].flatMap eI)] rfl ?_
            refine snil0 ?_
            refine block_normal ?_
            refine then_normal ?_
            obtain rfl := Option.some.inj h
            exact ⟨(n4, (v8, s4.2.1, (s4.2.2 ++ [u6]))), _, hk4, ⟨rfl, rfl, rfl, trivial⟩, rfl, Nat.lt_succ_self _⟩
        · replace h := ite_f hc h
          clear hc
          refine cexit ?_
          refine then_exit ?_
          refine then_exit ?_
          refine block_hit ?_
          refine then_normal ?_
          obtain rfl := Option.some.inj h
          obtain rfl : _ = x4 := hk4
          exact ⟨(s4.1, s4.2.1, s4.2.2), _, ho4, ⟨rfl, trivial⟩, rfl⟩
    · skip
      refine cblock ?_
      obtain ⟨x10, hx10, ho10⟩ := bind_eq h
      refine awc_loop (G := Nat × (Int × (List Int))) (fun g => [(1, .s (.one (.lp 0 0))), (4, .s (.one (.lp 1 0))), (12, .s (.one (.i .i64 (a0.length : Int)))), (13, .s (.one (.i .i64 g.2.1)))]) (fun g => [.box [.sl a0.length (a0.flatMap eGSerialTx)], .box [.ls 2 g.2.2.length], .arr 3 1 0 (g.2.2.flatMap eI)]) (fun g => iterB (m10_serial_Order_s10 a0) g.1 g.2 = some x10) (fun g => g.1) (fuel, (0, ([] : List Int))) hx10 ⟨rfl, rfl, rfl, rfl, trivial⟩ [] rfl (fun _ _ => inbL_of rfl) (fun _ _ => blkinb_of rfl) (fun _ _ => Nat.le_of_ble_eq_true rfl) ?_
      clear hx10 h
      rintro ⟨n10, s10⟩ h
      obtain ⟨n10, y10, rfl, h, hk10⟩ := iterB_eq h
      unfold m10_serial_Order_s10 at h
      refine cseq ?_
      refine cregion ?_
      refine sv rfl (opv_lss rfl rfl) ?_
      refine snil ?_
      refine cseq ?_
      refine ccond rfl (fun hc => ?_) (fun hc => ?_)
      · replace h := ite_t hc h
        clear hc
        refine cskip ?_
        refine then_normal ?_
        refine cseq ?_
        refine cblock ?_
        refine cseq ?_
        refine cregion ?_
        refine sv rfl (opv_mv rfl) ?_
        refine sv rfl (opv_as rfl) ?_
        refine snil ?_
        refine cregion ?_
        refine sv rfl (opv_load1 ti50 rfl (.lp _ _ _ rfl) rfl) ?_
        refine sv rfl (opv_mv rfl) ?_
        refine sbuild1 rfl Try.underlying50 ei3 rfl rfl (List.all_eq_true.1 rfl) (by decide) ?_
        refine smem [.box [.sl a0.length (a0.flatMap eGSerialTx)], .box [.ls 2 s10.2.length], .arr 3 1 0 (s10.2.flatMap eI), .arr 3 1 0 ([s10.1].flatMap eI)] rfl ?_
        obtain ⟨hb11, h⟩ := chk_eq h
        refine sapp (f := eI) (xs := s10.2) (us := [s10.1]) rfl Try.underlying50 ei3 ni50 (fun _ => rfl) rfl rfl (.one _ _ _ _ (.ls _ _ _ _ _ _ rfl (flat_len (f := eI) (fun _ => rfl) [s10.1]).symm)) rfl rfl rfl (.sl _ _ _ (flat_len (f := eI) (fun _ => rfl) _)) rfl rfl hb11 (by decide) ?_
        refine sstore sz50 rfl rfl rfl rfl (Nat.le_of_ble_eq_true rfl) ?_
        refine smem [.box [.sl a0.length (a0.flatMap eGSerialTx)], .box [.ls 2 (s10.2 ++ [s10.1]).length], .arr 3 1 0 ((s10.2 ++ [s10.1]).flatMap eI), .arr 3 1 ([s10.1].flatMap eI).length ([s10.1].flatMap eI)] rfl ?_
        refine snil0 ?_
        refine block_normal ?_
        refine then_normal ?_
        refine cregion ?_
        refine sv rfl (opv_add rfl rfl) ?_
        refine sv rfl (opv_mv rfl) ?_
        refine snil ?_
        obtain rfl := Option.some.inj h
        exact ⟨(n10, ((wI (s10.1 + 1)), (s10.2 ++ [s10.1]))), _, hk10, ⟨rfl, rfl, rfl, rfl, trivial⟩, rfl, Nat.lt_succ_self _⟩
      · replace h := ite_f hc h
        clear hc
        refine cexit ?_
        refine then_exit ?_
        refine then_exit ?_
        refine block_hit ?_
        refine then_normal ?_
        obtain rfl := Option.some.inj h
        obtain rfl : _ = x10 := hk10
        exact ⟨s10.2, _, ho10, ⟨rfl, rfl, trivial⟩, rfl⟩

def m6_l24_awake  : Option Bool :=
  (m12_l24_key ([120] : List UInt8)).bind fun v1 => (m12_l24_key ([121] : List UInt8)).bind fun v2 => (m10_serial_Order [(GSerialTx.mk 1 0 1 v1 [(GApiWrite.mk [(UInt8.ofBitVec (121#8))] ([] : List UInt8) false)]), (GSerialTx.mk 2 0 2 v2 [(GApiWrite.mk [(UInt8.ofBitVec (120#8))] ([] : List UInt8) false)])]).bind fun v3 => (m10_serial_Order [(GSerialTx.mk 2 1 2 v2 [(GApiWrite.mk [(UInt8.ofBitVec (120#8))] ([] : List UInt8) false)]), (GSerialTx.mk 1 0 1 v1 [(GApiWrite.mk [(UInt8.ofBitVec (121#8))] ([] : List UInt8) false)])]).bind fun v4 => if (!v3.2) then (if v4.2 then (if (decide ((v4.1.length : Int) = 2)) then ((idx v4.1 0).bind fun u5 => if (decide (u5 = 1)) then ((m11_serial_Ahead (GSerialTx.mk 1 0 1 v1 [(GApiWrite.mk [(UInt8.ofBitVec (121#8))] ([] : List UInt8) false)]) (GSerialTx.mk 2 1 2 v2 [(GApiWrite.mk [(UInt8.ofBitVec (120#8))] ([] : List UInt8) false)])).bind fun v6 => if v6 then ((m11_serial_Ahead (GSerialTx.mk 2 1 2 v2 [(GApiWrite.mk [(UInt8.ofBitVec (120#8))] ([] : List UInt8) false)]) (GSerialTx.mk 1 0 1 v1 [(GApiWrite.mk [(UInt8.ofBitVec (121#8))] ([] : List UInt8) false)])).bind fun v7 => some (!v7)) else (some false)) else (some false)) else (some false)) else (some false)) else (some false)

set_option maxRecDepth 100000 in
theorem m6_l24_awake_c  {r : Bool} (h : m6_l24_awake = some r) : CallsA Try.prog 6 [] (· = .s (.one (.b r))) := by
  unfold m6_l24_awake at h
  refine callsA_of Try.func6 rfl (nt := 61) rfl (Nat.le_of_ble_eq_true rfl) ?_
  intro w0 S0
  refine cseq ?_
  refine cregion ?_
  refine sv rfl (opv_as rfl) ?_
  refine snil ?_
  refine cseq ?_
  refine cregion ?_
  obtain ⟨v1, hv1, h⟩ := bind_eq h
  refine scall1 rfl fn12 (opnds_cons rfl opnds_nil) (pubA_id rfl) (m12_l24_key_c hv1) ?_
  refine sbuild1 rfl Try.underlying37 ei5 rfl rfl (List.all_eq_true.1 rfl) (by decide) ?_
  refine smem [.arr 5 1 0 ([(UInt8.ofBitVec (121#8))].flatMap eU8)] rfl ?_
  refine sconv_id rfl Try.underlying37 Try.underlying5 rfl rfl (flat_len (f := eU8) (fun _ => rfl) [(UInt8.ofBitVec (121#8))]).symm (by decide) ?_
  refine sv rfl (opv_build zi39 pi39 (parts_cons rfl parts_nil) (.cons _ _ _ _ _ _ _ rfl rfl (Nat.le_of_ble_eq_true rfl) (.nil _))) ?_
  refine spub 10 rfl (by (repeat' first | exact PubA.nil _ | apply PubA.cons | apply PubV.one | apply PubV.agg | exact PubL.nil | exact PubL.id _ rfl | exact PubLs.nil _ | apply PubLs.cons)) ?_
  refine sbuild1 rfl Try.underlying33 ei39 rfl rfl (List.all_eq_true.1 rfl) (by decide) ?_
  refine smem [.dead, .arr 39 3 0 ([(GApiWrite.mk [(UInt8.ofBitVec (121#8))] ([] : List UInt8) false)].flatMap eGApiWrite)] rfl ?_
  refine sv rfl (opv_build zi35 pi35 (parts_cons rfl (parts_cons rfl (parts_cons rfl (parts_cons rfl parts_nil)))) (.cons _ _ _ _ _ _ _ rfl rfl (Nat.le_of_ble_eq_true rfl) (.cons _ _ _ _ _ _ _ rfl rfl (Nat.le_of_ble_eq_true rfl) (.cons _ _ _ _ _ _ _ rfl rfl (Nat.le_of_ble_eq_true rfl) (.cons _ _ _ _ _ _ _ rfl rfl (Nat.le_of_ble_eq_true rfl) (.nil _)))))) ?_
  refine salloc rfl zi35 ?_
  refine sstore sz35 rfl rfl rfl rfl (Nat.le_of_ble_eq_true rfl) ?_
  refine smem [.dead, .arr 39 3 0 ([(GApiWrite.mk [(UInt8.ofBitVec (121#8))] ([] : List UInt8) false)].flatMap eGApiWrite), .box [.i .i64 1, .i .i64 0, .i .i64 1, .sl v1.length (v1.flatMap eGApiRange), .ls 1 [(GApiWrite.mk [(UInt8.ofBitVec (121#8))] ([] : List UInt8) false)].length]] rfl ?_
  refine snil ?_
  refine cseq ?_
  refine cregion ?_
  obtain ⟨v2, hv2, h⟩ := bind_eq h
  refine scall1 rfl fn12 (opnds_cons rfl opnds_nil) (pubA_id rfl) (m12_l24_key_c hv2) ?_
  refine sbuild1 rfl Try.underlying37 ei5 rfl rfl (List.all_eq_true.1 rfl) (by decide) ?_
  refine smem [.dead, .arr 39 3 0 ([(GApiWrite.mk [(UInt8.ofBitVec (121#8))] ([] : List UInt8) false)].flatMap eGApiWrite), .box [.i .i64 1, .i .i64 0, .i .i64 1, .sl v1.length (v1.flatMap eGApiRange), .ls 1 [(GApiWrite.mk [(UInt8.ofBitVec (121#8))] ([] : List UInt8) false)].length], .arr 5 1 0 ([(UInt8.ofBitVec (120#8))].flatMap eU8)] rfl ?_
  refine sconv_id rfl Try.underlying37 Try.underlying5 rfl rfl (flat_len (f := eU8) (fun _ => rfl) [(UInt8.ofBitVec (120#8))]).symm (by decide) ?_
  refine sv rfl (opv_build zi39 pi39 (parts_cons rfl parts_nil) (.cons _ _ _ _ _ _ _ rfl rfl (Nat.le_of_ble_eq_true rfl) (.nil _))) ?_
  refine spub 16 rfl (by (repeat' first | exact PubA.nil _ | apply PubA.cons | apply PubV.one | apply PubV.agg | exact PubL.nil | exact PubL.ls _ _ _ _ _ _ rfl (flat_len (f := eGApiWrite) (fun _ => rfl) _).symm | exact PubL.id _ rfl | exact PubLs.nil _ | apply PubLs.cons)) ?_
  refine sbuild1 rfl Try.underlying33 ei39 rfl rfl (List.all_eq_true.1 rfl) (by decide) ?_
  refine smem [.dead, .arr 39 3 0 ([(GApiWrite.mk [(UInt8.ofBitVec (121#8))] ([] : List UInt8) false)].flatMap eGApiWrite), .box [.i .i64 1, .i .i64 0, .i .i64 1, .sl v1.length (v1.flatMap eGApiRange), .ls 1 [(GApiWrite.mk [(UInt8.ofBitVec (121#8))] ([] : List UInt8) false)].length], .dead, .arr 39 3 0 ([(GApiWrite.mk [(UInt8.ofBitVec (120#8))] ([] : List UInt8) false)].flatMap eGApiWrite)] rfl ?_
  refine sv rfl (opv_build zi35 pi35 (parts_cons rfl (parts_cons rfl (parts_cons rfl (parts_cons rfl parts_nil)))) (.cons _ _ _ _ _ _ _ rfl rfl (Nat.le_of_ble_eq_true rfl) (.cons _ _ _ _ _ _ _ rfl rfl (Nat.le_of_ble_eq_true rfl) (.cons _ _ _ _ _ _ _ rfl rfl (Nat.le_of_ble_eq_true rfl) (.cons _ _ _ _ _ _ _ rfl rfl (Nat.le_of_ble_eq_true rfl) (.nil _)))))) ?_
  refine salloc rfl zi35 ?_
  refine sstore sz35 rfl rfl rfl rfl (Nat.le_of_ble_eq_true rfl) ?_
  refine smem [.dead, .arr 39 3 0 ([(GApiWrite.mk [(UInt8.ofBitVec (121#8))] ([] : List UInt8) false)].flatMap eGApiWrite), .box [.i .i64 1, .i .i64 0, .i .i64 1, .sl v1.length (v1.flatMap eGApiRange), .ls 1 [(GApiWrite.mk [(UInt8.ofBitVec (121#8))] ([] : List UInt8) false)].length], .dead, .arr 39 3 0 ([(GApiWrite.mk [(UInt8.ofBitVec (120#8))] ([] : List UInt8) false)].flatMap eGApiWrite), .box [.i .i64 2, .i .i64 0, .i .i64 2, .sl v2.length (v2.flatMap eGApiRange), .ls 4 [(GApiWrite.mk [(UInt8.ofBitVec (120#8))] ([] : List UInt8) false)].length]] rfl ?_
  refine snil ?_
  refine cseq ?_
  refine cregion ?_
  refine sv rfl (opv_loadN ti35 rfl (.lp _ _ _ rfl) (Nat.le_of_ble_eq_true rfl)) ?_
  refine sv rfl (opv_loadN ti35 rfl (.lp _ _ _ rfl) (Nat.le_of_ble_eq_true rfl)) ?_
  refine spub 20 rfl (by (repeat' first | exact PubA.nil _ | apply PubA.cons | apply PubV.one | apply PubV.agg | exact PubL.nil | exact PubL.ls _ _ _ _ _ _ rfl (flat_len (f := eGApiWrite) (fun _ => rfl) ([(GApiWrite.mk [(UInt8.ofBitVec (121#8))] ([] : List UInt8) false)] : List GApiWrite)).symm | exact PubL.ls _ _ _ _ _ _ rfl (flat_len (f := eGApiWrite) (fun _ => rfl) _).symm | exact PubL.id _ rfl | exact PubLs.nil _ | apply PubLs.cons)) ?_
  refine spub 21 rfl (by (repeat' first | exact PubA.nil _ | apply PubA.cons | apply PubV.one | apply PubV.agg | exact PubL.nil | exact PubL.ls _ _ _ _ _ _ rfl (flat_len (f := eGApiWrite) (fun _ => rfl) ([(GApiWrite.mk [(UInt8.ofBitVec (120#8))] ([] : List UInt8) false)] : List GApiWrite)).symm | exact PubL.ls _ _ _ _ _ _ rfl (flat_len (f := eGApiWrite) (fun _ => rfl) _).symm | exact PubL.id _ rfl | exact PubLs.nil _ | apply PubLs.cons)) ?_
  refine sbuildN (out := ([(GSerialTx.mk 1 0 1 v1 [(GApiWrite.mk [(UInt8.ofBitVec (121#8))] ([] : List UInt8) false)]), (GSerialTx.mk 2 0 2 v2 [(GApiWrite.mk [(UInt8.ofBitVec (120#8))] ([] : List UInt8) false)])] : List GSerialTx).flatMap eGSerialTx) rfl Try.underlying26 ei35 (parts_cons rfl (parts_cons rfl parts_nil)) (.cons _ _ _ _ _ _ _ rfl rfl (Nat.le_of_ble_eq_true rfl) (.cons _ _ _ _ _ _ _ rfl rfl (Nat.le_of_ble_eq_true rfl) (.nil _))) rfl (by decide) ?_
  refine spub 22 rfl (by (repeat' first | exact PubA.nil _ | apply PubA.cons | apply PubV.one | apply PubV.agg | exact PubL.nil | exact PubL.ls _ _ _ _ _ _ rfl (flat_len (f := eGSerialTx) (fun _ => rfl) ([(GSerialTx.mk 1 0 1 v1 [(GApiWrite.mk [(UInt8.ofBitVec (121#8))] ([] : List UInt8) false)]), (GSerialTx.mk 2 0 2 v2 [(GApiWrite.mk [(UInt8.ofBitVec (120#8))] ([] : List UInt8) false)])] : List GSerialTx)).symm | exact PubL.ls _ _ _ _ _ _ rfl (flat_len (f := eGApiWrite) (fun _ => rfl) _).symm | exact PubL.ls _ _ _ _ _ _ rfl (flat_len (f := eGSerialTx) (fun _ => rfl) _).symm | exact PubL.id _ rfl | exact PubLs.nil _ | apply PubLs.cons)) ?_
  obtain ⟨v3, hv3, h⟩ := bind_eq h
  refine scall1 rfl fn10 (opnds_cons rfl opnds_nil) (pubA_id rfl) (m10_serial_Order_c hv3) ?_
  refine sv rfl (opv_mvt rfl) ?_
  refine sv rfl (opv_extract rfl rfl) ?_
  refine sv rfl (opv_extract rfl rfl) ?_
  refine sv rfl (opv_as rfl) ?_
  refine sv rfl (opv_as rfl) ?_
  refine snil ?_
  refine cseq ?_
  refine cregion ?_
  refine sv rfl (opv_fieldAddr_lp fi35_1 rfl) ?_
  refine sstore sz3 rfl rfl rfl rfl (Nat.le_of_ble_eq_true rfl) ?_
  refine smem [.dead, .arr 39 3 ([(GApiWrite.mk [(UInt8.ofBitVec (121#8))] ([] : List UInt8) false)].flatMap eGApiWrite).length ([(GApiWrite.mk [(UInt8.ofBitVec (121#8))] ([] : List UInt8) false)].flatMap eGApiWrite), .box [.i .i64 1, .i .i64 0, .i .i64 1, .sl v1.length (v1.flatMap eGApiRange), .ls 1 [(GApiWrite.mk [(UInt8.ofBitVec (121#8))] ([] : List UInt8) false)].length], .dead, .arr 39 3 ([(GApiWrite.mk [(UInt8.ofBitVec (120#8))] ([] : List UInt8) false)].flatMap eGApiWrite).length ([(GApiWrite.mk [(UInt8.ofBitVec (120#8))] ([] : List UInt8) false)].flatMap eGApiWrite), .box [.i .i64 2, .i .i64 1, .i .i64 2, .sl v2.length (v2.flatMap eGApiRange), .ls 4 [(GApiWrite.mk [(UInt8.ofBitVec (120#8))] ([] : List UInt8) false)].length], .arr 35 5 ([(GSerialTx.mk 1 0 1 v1 [(GApiWrite.mk [(UInt8.ofBitVec (121#8))] ([] : List UInt8) false)]), (GSerialTx.mk 2 0 2 v2 [(GApiWrite.mk [(UInt8.ofBitVec (120#8))] ([] : List UInt8) false)])].flatMap eGSerialTx).length ([(GSerialTx.mk 1 0 1 v1 [(GApiWrite.mk [(UInt8.ofBitVec (121#8))] ([] : List UInt8) false)]), (GSerialTx.mk 2 0 2 v2 [(GApiWrite.mk [(UInt8.ofBitVec (120#8))] ([] : List UInt8) false)])].flatMap eGSerialTx)] rfl ?_
  refine snil ?_
  refine cseq ?_
  refine cregion ?_
  refine sv rfl (opv_loadN ti35 rfl (.lp _ _ _ rfl) (Nat.le_of_ble_eq_true rfl)) ?_
  refine sv rfl (opv_loadN ti35 rfl (.lp _ _ _ rfl) (Nat.le_of_ble_eq_true rfl)) ?_
  refine spub 28 rfl (by (repeat' first | exact PubA.nil _ | apply PubA.cons | apply PubV.one | apply PubV.agg | exact PubL.nil | exact PubL.ls _ _ _ _ _ _ rfl (flat_len (f := eGApiWrite) (fun _ => rfl) ([(GApiWrite.mk [(UInt8.ofBitVec (120#8))] ([] : List UInt8) false)] : List GApiWrite)).symm | exact PubL.ls _ _ _ _ _ _ rfl (flat_len (f := eGApiWrite) (fun _ => rfl) _).symm | exact PubL.ls _ _ _ _ _ _ rfl (flat_len (f := eGSerialTx) (fun _ => rfl) _).symm | exact PubL.id _ rfl | exact PubLs.nil _ | apply PubLs.cons)) ?_
  refine spub 29 rfl (by (repeat' first | exact PubA.nil _ | apply PubA.cons | apply PubV.one | apply PubV.agg | exact PubL.nil | exact PubL.ls _ _ _ _ _ _ rfl (flat_len (f := eGApiWrite) (fun _ => rfl) ([(GApiWrite.mk [(UInt8.ofBitVec (121#8))] ([] : List UInt8) false)] : List GApiWrite)).symm | exact PubL.ls _ _ _ _ _ _ rfl (flat_len (f := eGApiWrite) (fun _ => rfl) _).symm | exact PubL.ls _ _ _ _ _ _ rfl (flat_len (f := eGSerialTx) (fun _ => rfl) _).symm | exact PubL.id _ rfl | exact PubLs.nil _ | apply PubLs.cons)) ?_
  refine sbuildN (out := ([(GSerialTx.mk 2 1 2 v2 [(GApiWrite.mk [(UInt8.ofBitVec (120#8))] ([] : List UInt8) false)]), (GSerialTx.mk 1 0 1 v1 [(GApiWrite.mk [(UInt8.ofBitVec (121#8))] ([] : List UInt8) false)])] : List GSerialTx).flatMap eGSerialTx) rfl Try.underlying26 ei35 (parts_cons rfl (parts_cons rfl parts_nil)) (.cons _ _ _ _ _ _ _ rfl rfl (Nat.le_of_ble_eq_true rfl) (.cons _ _ _ _ _ _ _ rfl rfl (Nat.le_of_ble_eq_true rfl) (.nil _))) rfl (by decide) ?_
  refine spub 30 rfl (by (repeat' first | exact PubA.nil _ | apply PubA.cons | apply PubV.one | apply PubV.agg | exact PubL.nil | exact PubL.ls _ _ _ _ _ _ rfl (flat_len (f := eGSerialTx) (fun _ => rfl) ([(GSerialTx.mk 2 1 2 v2 [(GApiWrite.mk [(UInt8.ofBitVec (120#8))] ([] : List UInt8) false)]), (GSerialTx.mk 1 0 1 v1 [(GApiWrite.mk [(UInt8.ofBitVec (121#8))] ([] : List UInt8) false)])] : List GSerialTx)).symm | exact PubL.ls _ _ _ _ _ _ rfl (flat_len (f := eGApiWrite) (fun _ => rfl) _).symm | exact PubL.ls _ _ _ _ _ _ rfl (flat_len (f := eGSerialTx) (fun _ => rfl) _).symm | exact PubL.id _ rfl | exact PubLs.nil _ | apply PubLs.cons)) ?_
  obtain ⟨v4, hv4, h⟩ := bind_eq h
  refine scall1 rfl fn10 (opnds_cons rfl opnds_nil) (pubA_id rfl) (m10_serial_Order_c hv4) ?_
  refine sv rfl (opv_mvt rfl) ?_
  refine sv rfl (opv_extract rfl rfl) ?_
  refine sv rfl (opv_extract rfl rfl) ?_
  refine sv rfl (opv_as rfl) ?_
  refine sv rfl (opv_as rfl) ?_
  refine snil ?_
  refine cseq ?_
  refine cregion ?_
  refine sv rfl (opv_mv rfl) ?_
  refine sv rfl (opv_not rfl) ?_
  refine sv rfl (opv_mv rfl) ?_
  refine ssplit 36 rfl (fun hc => ?_) (fun hc => ?_)
  · replace h := ite_t hc h
    clear hc
    refine son rfl rfl rfl ?_
    refine sv rfl (opv_mv rfl) ?_
    refine sv rfl (opv_pick_t rfl rfl) ?_
    refine sv rfl (opv_mv rfl) ?_
    refine ssplit 39 rfl (fun hc => ?_) (fun hc => ?_)
    · replace h := ite_t hc h
      clear hc
      refine son rfl rfl rfl ?_
      refine sv rfl (opv_mv rfl) ?_
      refine son rfl rfl rfl ?_
      refine sv rfl (opv_len_sl si28 rfl) ?_
      refine son rfl rfl rfl ?_
      refine sv rfl (opv_ieql rfl rfl) ?_
      refine sv rfl (opv_pick_t rfl rfl) ?_
      refine sv rfl (opv_mv rfl) ?_
      refine ssplit 44 rfl (fun hc => ?_) (fun hc => ?_)
      · replace h := ite_t hc h
        clear hc
        refine son rfl rfl rfl ?_
        refine sv rfl (opv_mv rfl) ?_
        refine son rfl rfl rfl ?_
        obtain ⟨u5, hu5, h⟩ := bind_eq h
        refine sv rfl (opv_ix (f := eI) si28 (fun _ => rfl) rfl rfl rfl rfl hu5) ?_
        refine son rfl rfl rfl ?_
        refine sv rfl (opv_load1 ti3 rfl (.cp _) rfl) ?_
        refine son rfl rfl rfl ?_
        refine sv rfl (opv_ieql rfl rfl) ?_
        refine sv rfl (opv_pick_t rfl rfl) ?_
        refine sv rfl (opv_mv rfl) ?_
        refine ssplit 50 rfl (fun hc => ?_) (fun hc => ?_)
        · replace h := ite_t hc h
          clear hc
          refine son rfl rfl rfl ?_
          refine sv rfl (opv_loadN ti35 rfl (.lp _ _ _ rfl) (Nat.le_of_ble_eq_true rfl)) ?_
          refine son rfl rfl rfl ?_
          refine sv rfl (opv_loadN ti35 rfl (.lp _ _ _ rfl) (Nat.le_of_ble_eq_true rfl)) ?_
          refine son rfl rfl rfl ?_
          refine spub 51 rfl (by (repeat' first | exact PubA.nil _ | apply PubA.cons | apply PubV.one | apply PubV.agg | exact PubL.nil | exact PubL.ls _ _ _ _ _ _ rfl (flat_len (f := eGApiWrite) (fun _ => rfl) ([(GApiWrite.mk [(UInt8.ofBitVec (121#8))] ([] : List UInt8) false)] : List GApiWrite)).symm | exact PubL.ls _ _ _ _ _ _ rfl (flat_len (f := eGApiWrite) (fun _ => rfl) _).symm | exact PubL.ls _ _ _ _ _ _ rfl (flat_len (f := eGSerialTx) (fun _ => rfl) _).symm | exact PubL.id _ rfl | exact PubLs.nil _ | apply PubLs.cons)) ?_
          refine spub 52 rfl (by (repeat' first | exact PubA.nil _ | apply PubA.cons | apply PubV.one | apply PubV.agg | exact PubL.nil | exact PubL.ls _ _ _ _ _ _ rfl (flat_len (f := eGApiWrite) (fun _ => rfl) ([(GApiWrite.mk [(UInt8.ofBitVec (120#8))] ([] : List UInt8) false)] : List GApiWrite)).symm | exact PubL.ls _ _ _ _ _ _ rfl (flat_len (f := eGApiWrite) (fun _ => rfl) _).symm | exact PubL.ls _ _ _ _ _ _ rfl (flat_len (f := eGSerialTx) (fun _ => rfl) _).symm | exact PubL.id _ rfl | exact PubLs.nil _ | apply PubLs.cons)) ?_
          obtain ⟨v6, hv6, h⟩ := bind_eq h
          refine scall1 rfl fn11 (opnds_cons rfl (opnds_cons rfl opnds_nil)) (pubA_id rfl) (m11_serial_Ahead_c hv6) ?_
          refine sv rfl (opv_pick_t rfl rfl) ?_
          refine sv rfl (opv_mv rfl) ?_
          refine ssplit 55 rfl (fun hc => ?_) (fun hc => ?_)
          · replace h := ite_t hc h
            clear hc
            refine son rfl rfl rfl ?_
            refine sv rfl (opv_loadN ti35 rfl (.lp _ _ _ rfl) (Nat.le_of_ble_eq_true rfl)) ?_
            refine son rfl rfl rfl ?_
            refine sv rfl (opv_loadN ti35 rfl (.lp _ _ _ rfl) (Nat.le_of_ble_eq_true rfl)) ?_
            refine son rfl rfl rfl ?_
            refine spub 56 rfl (by (repeat' first | exact PubA.nil _ | apply PubA.cons | apply PubV.one | apply PubV.agg | exact PubL.nil | exact PubL.ls _ _ _ _ _ _ rfl (flat_len (f := eGApiWrite) (fun _ => rfl) ([(GApiWrite.mk [(UInt8.ofBitVec (120#8))] ([] : List UInt8) false)] : List GApiWrite)).symm | exact PubL.ls _ _ _ _ _ _ rfl (flat_len (f := eGApiWrite) (fun _ => rfl) _).symm | exact PubL.ls _ _ _ _ _ _ rfl (flat_len (f := eGSerialTx) (fun _ => rfl) _).symm | exact PubL.id _ rfl | exact PubLs.nil _ | apply PubLs.cons)) ?_
            refine spub 57 rfl (by (repeat' first | exact PubA.nil _ | apply PubA.cons | apply PubV.one | apply PubV.agg | exact PubL.nil | exact PubL.ls _ _ _ _ _ _ rfl (flat_len (f := eGApiWrite) (fun _ => rfl) ([(GApiWrite.mk [(UInt8.ofBitVec (121#8))] ([] : List UInt8) false)] : List GApiWrite)).symm | exact PubL.ls _ _ _ _ _ _ rfl (flat_len (f := eGApiWrite) (fun _ => rfl) _).symm | exact PubL.ls _ _ _ _ _ _ rfl (flat_len (f := eGSerialTx) (fun _ => rfl) _).symm | exact PubL.id _ rfl | exact PubLs.nil _ | apply PubLs.cons)) ?_
            obtain ⟨v7, hv7, h⟩ := bind_eq h
            refine scall1 rfl fn11 (opnds_cons rfl (opnds_cons rfl opnds_nil)) (pubA_id rfl) (m11_serial_Ahead_c hv7) ?_
            refine son rfl rfl rfl ?_
            refine sv rfl (opv_not rfl) ?_
            refine sv rfl (opv_pick_t rfl rfl) ?_
            refine sv rfl (opv_as rfl) ?_
            refine snil ?_
            refine cret ?_
            obtain rfl := Option.some.inj h
            refine ⟨Or.inr rfl, _, _, _, (resVs_cons (ResV.tmp _ _ rfl) resVs_nil), (pubA_id rfl), ?_⟩
            rfl
          · replace h := ite_f hc h
            clear hc
            refine soff rfl rfl rfl rfl ?_
            refine soff rfl rfl rfl rfl ?_
            refine soff rfl rfl rfl rfl ?_
            refine soff rfl rfl rfl rfl ?_
            refine sv rfl (opv_pick_f rfl rfl) ?_
            refine sv rfl (opv_as rfl) ?_
            refine snil ?_
            refine cret ?_
            obtain rfl := Option.some.inj h
            refine ⟨Or.inr rfl, _, _, _, (resVs_cons (ResV.tmp _ _ rfl) resVs_nil), (pubA_id rfl), ?_⟩
            rfl
        · replace h := ite_f hc h
          clear hc
          refine soff rfl rfl rfl rfl ?_
          refine soff rfl rfl rfl rfl ?_
          refine soff rfl rfl rfl rfl ?_
          refine sv rfl (opv_pick_f rfl rfl) ?_
          refine sv rfl (opv_mv rfl) ?_
          refine soff rfl rfl rfl rfl ?_
          refine soff rfl rfl rfl rfl ?_
          refine soff rfl rfl rfl rfl ?_
          refine soff rfl rfl rfl rfl ?_
          refine sv rfl (opv_pick_f rfl rfl) ?_
          refine sv rfl (opv_as rfl) ?_
          refine snil ?_
          refine cret ?_
          obtain rfl := Option.some.inj h
          refine ⟨Or.inr rfl, _, _, _, (resVs_cons (ResV.tmp _ _ rfl) resVs_nil), (pubA_id rfl), ?_⟩
          rfl
      · replace h := ite_f hc h
        clear hc
        refine soff rfl rfl rfl rfl ?_
        refine soff rfl rfl rfl rfl ?_
        refine soff rfl rfl rfl rfl ?_
        refine soff rfl rfl rfl rfl ?_
        refine sv rfl (opv_pick_f rfl rfl) ?_
        refine sv rfl (opv_mv rfl) ?_
        refine soff rfl rfl rfl rfl ?_
        refine soff rfl rfl rfl rfl ?_
        refine soff rfl rfl rfl rfl ?_
        refine sv rfl (opv_pick_f rfl rfl) ?_
        refine sv rfl (opv_mv rfl) ?_
        refine soff rfl rfl rfl rfl ?_
        refine soff rfl rfl rfl rfl ?_
        refine soff rfl rfl rfl rfl ?_
        refine soff rfl rfl rfl rfl ?_
        refine sv rfl (opv_pick_f rfl rfl) ?_
        refine sv rfl (opv_as rfl) ?_
        refine snil ?_
        refine cret ?_
        obtain rfl := Option.some.inj h
        refine ⟨Or.inr rfl, _, _, _, (resVs_cons (ResV.tmp _ _ rfl) resVs_nil), (pubA_id rfl), ?_⟩
        rfl
    · replace h := ite_f hc h
      clear hc
      refine soff rfl rfl rfl rfl ?_
      refine soff rfl rfl rfl rfl ?_
      refine soff rfl rfl rfl rfl ?_
      refine sv rfl (opv_pick_f rfl rfl) ?_
      refine sv rfl (opv_mv rfl) ?_
      refine soff rfl rfl rfl rfl ?_
      refine soff rfl rfl rfl rfl ?_
      refine soff rfl rfl rfl rfl ?_
      refine soff rfl rfl rfl rfl ?_
      refine sv rfl (opv_pick_f rfl rfl) ?_
      refine sv rfl (opv_mv rfl) ?_
      refine soff rfl rfl rfl rfl ?_
      refine soff rfl rfl rfl rfl ?_
      refine soff rfl rfl rfl rfl ?_
      refine sv rfl (opv_pick_f rfl rfl) ?_
      refine sv rfl (opv_mv rfl) ?_
      refine soff rfl rfl rfl rfl ?_
      refine soff rfl rfl rfl rfl ?_
      refine soff rfl rfl rfl rfl ?_
      refine soff rfl rfl rfl rfl ?_
      refine sv rfl (opv_pick_f rfl rfl) ?_
      refine sv rfl (opv_as rfl) ?_
      refine snil ?_
      refine cret ?_
      obtain rfl := Option.some.inj h
      refine ⟨Or.inr rfl, _, _, _, (resVs_cons (ResV.tmp _ _ rfl) resVs_nil), (pubA_id rfl), ?_⟩
      rfl
  · replace h := ite_f hc h
    clear hc
    refine soff rfl rfl rfl rfl ?_
    refine sv rfl (opv_pick_f rfl rfl) ?_
    refine sv rfl (opv_mv rfl) ?_
    refine soff rfl rfl rfl rfl ?_
    refine soff rfl rfl rfl rfl ?_
    refine soff rfl rfl rfl rfl ?_
    refine sv rfl (opv_pick_f rfl rfl) ?_
    refine sv rfl (opv_mv rfl) ?_
    refine soff rfl rfl rfl rfl ?_
    refine soff rfl rfl rfl rfl ?_
    refine soff rfl rfl rfl rfl ?_
    refine soff rfl rfl rfl rfl ?_
    refine sv rfl (opv_pick_f rfl rfl) ?_
    refine sv rfl (opv_mv rfl) ?_
    refine soff rfl rfl rfl rfl ?_
    refine soff rfl rfl rfl rfl ?_
    refine soff rfl rfl rfl rfl ?_
    refine sv rfl (opv_pick_f rfl rfl) ?_
    refine sv rfl (opv_mv rfl) ?_
    refine soff rfl rfl rfl rfl ?_
    refine soff rfl rfl rfl rfl ?_
    refine soff rfl rfl rfl rfl ?_
    refine soff rfl rfl rfl rfl ?_
    refine sv rfl (opv_pick_f rfl rfl) ?_
    refine sv rfl (opv_as rfl) ?_
    refine snil ?_
    refine cret ?_
    obtain rfl := Option.some.inj h
    refine ⟨Or.inr rfl, _, _, _, (resVs_cons (ResV.tmp _ _ rfl) resVs_nil), (pubA_id rfl), ?_⟩
    rfl

def m13_r08_FewWrites_k1 (b1 : Unit) : Option Bool :=
  some true

def m13_r08_FewWrites_s2 (a0 : List GApiWrite) (s2 : Int) : Option (LR (Int) (Unit) (Bool)) :=
  if (decide (s2 < (a0.length : Int))) then ((idx a0 s2).bind fun u3 => if (decide (50 < (u3.Key.length : Int))) then (some (.ret false)) else ((idx a0 s2).bind fun u4 => if (decide (100 < (u4.Val.length : Int))) then (some (.ret false)) else (some (.cont (wI (s2 + 1)))))) else (some (.brk ()))
def m13_r08_FewWrites (a0 : List GApiWrite) : Option Bool :=
  if (decide (140 < (a0.length : Int))) then (some false) else ((iter (m13_r08_FewWrites_s2 a0) fuel 0).bind fun x => match x with | .inl r => some r | .inr e5 => m13_r08_FewWrites_k1 e5)

set_option maxRecDepth 100000 in
theorem m13_r08_FewWrites_c {a0 : List GApiWrite} {r : Bool} (h : m13_r08_FewWrites a0 = some r) : CallsA Try.prog 13 [.one (.sl a0.length (a0.flatMap eGApiWrite))] (· = .s (.one (.b r))) := by
  unfold m13_r08_FewWrites at h
  refine callsA_of Try.func13 rfl (nt := 29) rfl (Nat.le_of_ble_eq_true rfl) ?_
  intro w0 S0
  refine cseq ?_
  refine cregion ?_
  refine sv rfl (opv_as rfl) ?_
  refine snil ?_
  refine cseq ?_
  refine cseq ?_
  refine cregion ?_
  refine sv rfl (opv_mv rfl) ?_
  refine sv rfl (opv_len_sl si33 rfl) ?_
  refine sv rfl (opv_gtr rfl rfl) ?_
  refine snil ?_
  refine ccond rfl (fun hc => ?_) (fun hc => ?_)
  · replace h := ite_t hc h
    clear hc
    refine cseq ?_
    refine cregion ?_
    refine sv rfl (opv_as rfl) ?_
    refine snil ?_
    refine cret ?_
    refine then_ret ?_
    obtain rfl := Option.some.inj h
    refine ⟨Or.inr rfl, _, _, _, (resVs_cons (ResV.tmp _ _ rfl) resVs_nil), (pubA_id rfl), ?_⟩
    rfl
  · replace h := ite_f hc h
    clear hc
    refine cskip ?_
    refine then_normal ?_
    refine cseq ?_
    refine cseq ?_
    refine cregion ?_
    refine sv rfl (opv_as rfl) ?_
    refine snil ?_
    refine cjoin (Unit) (fun b1 => []) (fun b1 => []) (fun b1 => m13_r08_FewWrites_k1 b1 = some r) (fun _ _ => inbL_of rfl) (fun _ _ => blkinb_of rfl) (fun _ _ => Nat.le_of_ble_eq_true rfl) (fun b1 h => ?_) ?_
    · unfold m13_r08_FewWrites_k1 at h
      refine cseq ?_
      refine cregion ?_
      refine sv rfl (opv_as rfl) ?_
      refine snil ?_
      refine cret ?_
      obtain rfl := Option.some.inj h
      refine ⟨Or.inr rfl, _, _, _, (resVs_cons (ResV.tmp _ _ rfl) resVs_nil), (pubA_id rfl), ?_⟩
      rfl
    · skip
      refine cblock ?_
      obtain ⟨x2, hx2, ho2⟩ := bind_eq h
      refine awc_loop (G := Nat × (Int)) (fun g => [(0, .s (.one (.sl a0.length (a0.flatMap eGApiWrite)))), (3, .s (.one (.i .i64 g.2)))]) (fun g => []) (fun g => iter (m13_r08_FewWrites_s2 a0) g.1 g.2 = some x2) (fun g => g.1) (fuel, 0) hx2 ⟨rfl, rfl, trivial⟩ [] rfl (fun _ _ => inbL_of rfl) (fun _ _ => blkinb_of rfl) (fun _ _ => Nat.le_of_ble_eq_true rfl) ?_
      clear hx2 h
      rintro ⟨n2, s2⟩ h
      obtain ⟨n2, y2, rfl, h, hk2⟩ := iter_eq h
      unfold m13_r08_FewWrites_s2 at h
      refine cseq ?_
      refine cseq ?_
      refine cregion ?_
      refine sv rfl (opv_mv rfl) ?_
      refine sv rfl (opv_mv rfl) ?_
      refine sv rfl (opv_len_sl si33 rfl) ?_
      refine sv rfl (opv_lss rfl rfl) ?_
      refine snil ?_
      refine ccond rfl (fun hc => ?_) (fun hc => ?_)
      · replace h := ite_t hc h
        clear hc
        refine cskip ?_
        refine then_normal ?_
        refine cseq ?_
        refine cblock ?_
        refine cseq ?_
        refine cregion ?_
        refine sv rfl (opv_mv rfl) ?_
        refine sv rfl (opv_mv rfl) ?_
        obtain ⟨u3, hu3, h⟩ := bind_eq h
        refine sv rfl (opv_ix (f := eGApiWrite) si33 (fun _ => rfl) rfl rfl rfl rfl hu3) ?_
        refine sv rfl (opv_fieldAddr_cp fi39_0 rfl) ?_
        refine sv rfl (opv_load1 ti37 rfl (.cp _) rfl) ?_
        refine sv rfl (opv_len_sl si37 rfl) ?_
        refine sv rfl (opv_gtr rfl rfl) ?_
        refine sv rfl (opv_mv rfl) ?_
        refine ssplit 20 rfl (fun hc => ?_) (fun hc => ?_)
        · replace h := ite_t hc h
          clear hc
          refine soff rfl rfl rfl rfl ?_
          refine soff rfl rfl rfl rfl ?_
          refine soff rfl rfl rfl rfl ?_
          refine soff rfl rfl rfl rfl ?_
          refine soff rfl rfl rfl rfl ?_
          refine soff rfl rfl rfl rfl ?_
          refine soff rfl rfl rfl rfl ?_
          refine sv rfl (opv_pick_t rfl rfl) ?_
          refine snil ?_
          refine ccond rfl (fun _ => ?_) (fun hx => Bool.noConfusion hx)
          refine cseq ?_
          refine cregion ?_
          refine sv rfl (opv_as rfl) ?_
          refine snil ?_
          refine cret ?_
          refine block_ret ?_
          refine then_ret ?_
          refine then_ret ?_
          refine block_ret ?_
          refine then_ret ?_
          obtain rfl := Option.some.inj h
          obtain rfl : Sum.inl _ = x2 := hk2
          replace ho2 : some _ = some _ := ho2
          obtain rfl := Option.some.inj ho2
          refine ⟨Or.inr rfl, _, _, _, (resVs_cons (ResV.tmp _ _ rfl) resVs_nil), (pubA_id rfl), ?_⟩
          rfl
        · replace h := ite_f hc h
          clear hc
          refine son rfl rfl rfl ?_
          refine sv rfl (opv_mv rfl) ?_
          refine son rfl rfl rfl ?_
          refine sv rfl (opv_mv rfl) ?_
          refine son rfl rfl rfl ?_
          obtain ⟨u4, hu4, h⟩ := bind_eq h
          refine sv rfl (opv_ix (f := eGApiWrite) si33 (fun _ => rfl) rfl rfl rfl rfl hu4) ?_
          refine son rfl rfl rfl ?_
          refine sv rfl (opv_fieldAddr_cp fi39_1 rfl) ?_
          refine son rfl rfl rfl ?_
          refine sv rfl (opv_load1 ti37 rfl (.cp _) rfl) ?_
          refine son rfl rfl rfl ?_
          refine sv rfl (opv_len_sl si37 rfl) ?_
          refine son rfl rfl rfl ?_
          refine sv rfl (opv_gtr rfl rfl) ?_
          refine sv rfl (opv_pick_f rfl rfl) ?_
          refine snil ?_
          refine ccond rfl (fun hc => ?_) (fun hc => ?_)
          · replace h := ite_t hc h
            clear hc
            refine cseq ?_
            refine cregion ?_
            refine sv rfl (opv_as rfl) ?_
            refine snil ?_
            refine cret ?_
            refine block_ret ?_
            refine then_ret ?_
            refine then_ret ?_
            refine block_ret ?_
            refine then_ret ?_
            obtain rfl := Option.some.inj h
            obtain rfl : Sum.inl _ = x2 := hk2
            replace ho2 : some _ = some _ := ho2
            obtain rfl := Option.some.inj ho2
            refine ⟨Or.inr rfl, _, _, _, (resVs_cons (ResV.tmp _ _ rfl) resVs_nil), (pubA_id rfl), ?_⟩
            rfl
          · replace h := ite_f hc h
            clear hc
            refine cskip ?_
            refine block_normal ?_
            refine then_normal ?_
            refine cregion ?_
            refine sv rfl (opv_mv rfl) ?_
            refine sv rfl (opv_add rfl rfl) ?_
            refine sv rfl (opv_as rfl) ?_
            refine snil ?_
            obtain rfl := Option.some.inj h
            exact ⟨(n2, (wI (s2 + 1))), _, hk2, ⟨rfl, rfl, trivial⟩, rfl, Nat.lt_succ_self _⟩
      · replace h := ite_f hc h
        clear hc
        refine cexit ?_
        refine then_exit ?_
        refine then_exit ?_
        refine block_hit ?_
        refine then_normal ?_
        obtain rfl := Option.some.inj h
        obtain rfl : _ = x2 := hk2
        exact ⟨(), _, ho2, trivial, rfl⟩

def m14_r06_Short (a0 : GApiRange) : Option Bool :=
  if (decide ((a0.Lo.length : Int) ≤ 100)) then (some (decide ((a0.Hi.length : Int) ≤ 100))) else (some false)

set_option maxRecDepth 100000 in
theorem m14_r06_Short_c {a0 : GApiRange} {r : Bool} (h : m14_r06_Short a0 = some r) : CallsA Try.prog 14 [.agg [.sl a0.Lo.length (a0.Lo.flatMap eU8), .sl a0.Hi.length (a0.Hi.flatMap eU8), .b a0.Open]] (· = .s (.one (.b r))) := by
  unfold m14_r06_Short at h
  refine callsA_of Try.func14 rfl (nt := 13) rfl (Nat.le_of_ble_eq_true rfl) ?_
  intro w0 S0
  refine cseq ?_
  refine cregion ?_
  refine sbox rfl rfl ?_
  refine sv rfl (opv_as rfl) ?_
  refine snil ?_
  refine cseq ?_
  refine cregion ?_
  refine sv rfl (opv_fieldAddr_lp fi46_0 rfl) ?_
  refine sv rfl (opv_load1 ti37 rfl (.lp _ _ _ rfl) rfl) ?_
  refine sv rfl (opv_len_sl si37 rfl) ?_
  refine sv rfl (opv_leq rfl rfl) ?_
  refine sv rfl (opv_mv rfl) ?_
  refine ssplit 7 rfl (fun hc => ?_) (fun hc => ?_)
  · replace h := ite_t hc h
    clear hc
    refine son rfl rfl rfl ?_
    refine sv rfl (opv_fieldAddr_lp fi46_1 rfl) ?_
    refine son rfl rfl rfl ?_
    refine sv rfl (opv_load1 ti37 rfl (.lp _ _ _ rfl) rfl) ?_
    refine son rfl rfl rfl ?_
    refine sv rfl (opv_len_sl si37 rfl) ?_
    refine son rfl rfl rfl ?_
    refine sv rfl (opv_leq rfl rfl) ?_
    refine sv rfl (opv_pick_t rfl rfl) ?_
    refine sv rfl (opv_as rfl) ?_
    refine snil ?_
    refine cret ?_
    obtain rfl := Option.some.inj h
    refine ⟨Or.inr rfl, _, _, _, (resVs_cons (ResV.tmp _ _ rfl) resVs_nil), (pubA_id rfl), ?_⟩
    rfl
  · replace h := ite_f hc h
    clear hc
    refine soff rfl rfl rfl rfl ?_
    refine soff rfl rfl rfl rfl ?_
    refine soff rfl rfl rfl rfl ?_
    refine soff rfl rfl rfl rfl ?_
    refine sv rfl (opv_pick_f rfl rfl) ?_
    refine sv rfl (opv_as rfl) ?_
    refine snil ?_
    refine cret ?_
    obtain rfl := Option.some.inj h
    refine ⟨Or.inr rfl, _, _, _, (resVs_cons (ResV.tmp _ _ rfl) resVs_nil), (pubA_id rfl), ?_⟩
    rfl

def m7_l24_few_k1 (b1 : Unit) : Option Bool :=
  some true

def m7_l24_few_k4 (s2 : Int) (b4 : Unit) : Option (LR (Int) (Unit) (Bool)) :=
  some (.cont (wI (s2 + 1)))

def m7_l24_few_s5 (a0 : List GR24Tx) (s2 : Int) (s5 : Int) : Option (LR (Int) (Unit) (Bool)) :=
  (idx a0 s2).bind fun u6 => if (decide (s5 < (u6.Reads.length : Int))) then ((idx a0 s2).bind fun u7 => (idx u7.Reads s5).bind fun u8 => (m14_r06_Short u8).bind fun v9 => if (!v9) then (some (.ret false)) else (some (.cont (wI (s5 + 1))))) else (some (.brk ()))

def m7_l24_few_k3 (a0 : List GR24Tx) (s2 : Int) (b3 : Unit) : Option (LR (Int) (Unit) (Bool)) :=
  (iter (m7_l24_few_s5 a0 s2) fuel 0).bind fun x => match x with | .inl r => some (.ret r) | .inr e10 => m7_l24_few_k4 s2 e10

def m7_l24_few_s2 (a0 : List GR24Tx) (s2 : Int) : Option (LR (Int) (Unit) (Bool)) :=
  if (decide (s2 < (a0.length : Int))) then ((idx a0 s2).bind fun u11 => if (decide (20 < (u11.Reads.length : Int))) then (some (.ret false)) else ((idx a0 s2).bind fun u12 => (m13_r08_FewWrites u12.Writes).bind fun v13 => if (!v13) then (some (.ret false)) else ((idx a0 s2).bind fun u14 => if (decide (20 < (u14.Writes.length : Int))) then (some (.ret false)) else (m7_l24_few_k3 a0 s2 ())))) else (some (.brk ()))
def m7_l24_few (a0 : List GR24Tx) : Option Bool :=
  if (decide (70 < (a0.length : Int))) then (some false) else ((iter (m7_l24_few_s2 a0) fuel 0).bind fun x => match x with | .inl r => some r | .inr e15 => m7_l24_few_k1 e15)

set_option maxRecDepth 100000 in
theorem m7_l24_few_c {a0 : List GR24Tx} {r : Bool} (h : m7_l24_few a0 = some r) : CallsA Try.prog 7 [.one (.sl a0.length (a0.flatMap eGR24Tx))] (· = .s (.one (.b r))) := by
  unfold m7_l24_few at h
  refine callsA_of Try.func7 rfl (nt := 59) rfl (Nat.le_of_ble_eq_true rfl) ?_
  intro w0 S0
  refine cseq ?_
  refine cregion ?_
  refine sv rfl (opv_as rfl) ?_
  refine snil ?_
  refine cseq ?_
  refine cseq ?_
  refine cregion ?_
  refine sv rfl (opv_mv rfl) ?_
  refine sv rfl (opv_len_sl si22 rfl) ?_
  refine sv rfl (opv_gtr rfl rfl) ?_
  refine snil ?_
  refine ccond rfl (fun hc => ?_) (fun hc => ?_)
  · replace h := ite_t hc h
    clear hc
    refine cseq ?_
    refine cregion ?_
    refine sv rfl (opv_as rfl) ?_
    refine snil ?_
    refine cret ?_
    refine then_ret ?_
    obtain rfl := Option.some.inj h
    refine ⟨Or.inr rfl, _, _, _, (resVs_cons (ResV.tmp _ _ rfl) resVs_nil), (pubA_id rfl), ?_⟩
    rfl
  · replace h := ite_f hc h
    clear hc
    refine cskip ?_
    refine then_normal ?_
    refine cseq ?_
    refine cseq ?_
    refine cregion ?_
    refine sv rfl (opv_as rfl) ?_
    refine snil ?_
    refine cjoin (Unit) (fun b1 => []) (fun b1 => []) (fun b1 => m7_l24_few_k1 b1 = some r) (fun _ _ => inbL_of rfl) (fun _ _ => blkinb_of rfl) (fun _ _ => Nat.le_of_ble_eq_true rfl) (fun b1 h => ?_) ?_
    · unfold m7_l24_few_k1 at h
      refine cseq ?_
      refine cregion ?_
      refine sv rfl (opv_as rfl) ?_
      refine snil ?_
      refine cret ?_
      obtain rfl := Option.some.inj h
      refine ⟨Or.inr rfl, _, _, _, (resVs_cons (ResV.tmp _ _ rfl) resVs_nil), (pubA_id rfl), ?_⟩
      rfl
    · skip
      refine cblock ?_
      obtain ⟨x2, hx2, ho2⟩ := bind_eq h
      refine awc_loop (G := Nat × (Int)) (fun g => [(0, .s (.one (.sl a0.length (a0.flatMap eGR24Tx)))), (3, .s (.one (.i .i64 g.2)))]) (fun g => []) (fun g => iter (m7_l24_few_s2 a0) g.1 g.2 = some x2) (fun g => g.1) (fuel, 0) hx2 ⟨rfl, rfl, trivial⟩ [] rfl (fun _ _ => inbL_of rfl) (fun _ _ => blkinb_of rfl) (fun _ _ => Nat.le_of_ble_eq_true rfl) ?_
      clear hx2 h
      rintro ⟨n2, s2⟩ h
      obtain ⟨n2, y2, rfl, h, hk2⟩ := iter_eq h
      unfold m7_l24_few_s2 at h
      refine cseq ?_
      refine cseq ?_
      refine cregion ?_
      refine sv rfl (opv_mv rfl) ?_
      refine sv rfl (opv_mv rfl) ?_
      refine sv rfl (opv_len_sl si22 rfl) ?_
      refine sv rfl (opv_lss rfl rfl) ?_
      refine snil ?_
      refine ccond rfl (fun hc => ?_) (fun hc => ?_)
      · replace h := ite_t hc h
        clear hc
        refine cskip ?_
        refine then_normal ?_
        refine cseq ?_
        refine cblock ?_
        refine cseq ?_
        refine cseq ?_
        refine cjoin3 (Unit) (fun b3 => [(0, .s (.one (.sl a0.length (a0.flatMap eGR24Tx)))), (3, .s (.one (.i .i64 s2)))]) (fun b3 => []) (fun b3 => m7_l24_few_k3 a0 s2 b3 = some y2) (fun _ _ => inbL_of rfl) (fun _ _ => blkinb_of rfl) (fun _ _ => Nat.le_of_ble_eq_true rfl) (fun b3 h => ?_) ?_
        · unfold m7_l24_few_k3 at h
          refine cseq ?_
          refine cregion ?_
          refine sv rfl (opv_as rfl) ?_
          refine snil ?_
          refine cjoinb (Unit) (fun b4 => [(0, .s (.one (.sl a0.length (a0.flatMap eGR24Tx)))), (3, .s (.one (.i .i64 s2)))]) (fun b4 => []) (fun b4 => m7_l24_few_k4 s2 b4 = some y2) (fun _ _ => inbL_of rfl) (fun _ _ => blkinb_of rfl) (fun _ _ => Nat.le_of_ble_eq_true rfl) (fun b4 h => ?_) ?_
          · unfold m7_l24_few_k4 at h
            refine cregion ?_
            refine sv rfl (opv_mv rfl) ?_
            refine sv rfl (opv_add rfl rfl) ?_
            refine sv rfl (opv_as rfl) ?_
            refine snil ?_
            obtain rfl := Option.some.inj h
            exact ⟨(n2, (wI (s2 + 1))), _, hk2, ⟨rfl, rfl, trivial⟩, rfl, Nat.lt_succ_self _⟩
          · skip
            refine cblock ?_
            obtain ⟨x5, hx5, ho5⟩ := bind_eq h
            refine awc_loop (G := Nat × (Int)) (fun g => [(0, .s (.one (.sl a0.length (a0.flatMap eGR24Tx)))), (3, .s (.one (.i .i64 s2))), (4, .s (.one (.i .i64 g.2)))]) (fun g => []) (fun g => iter (m7_l24_few_s5 a0 s2) g.1 g.2 = some x5) (fun g => g.1) (fuel, 0) hx5 ⟨rfl, rfl, rfl, trivial⟩ [] rfl (fun _ _ => inbL_of rfl) (fun _ _ => blkinb_of rfl) (fun _ _ => Nat.le_of_ble_eq_true rfl) ?_
            clear hx5 h
            rintro ⟨n5, s5⟩ h
            obtain ⟨n5, y5, rfl, h, hk5⟩ := iter_eq h
            unfold m7_l24_few_s5 at h
            refine cseq ?_
            refine cseq ?_
            refine cregion ?_
            refine sv rfl (opv_mv rfl) ?_
            refine sv rfl (opv_mv rfl) ?_
            refine sv rfl (opv_mv rfl) ?_
            obtain ⟨u6, hu6, h⟩ := bind_eq h
            refine sv rfl (opv_ix (f := eGR24Tx) si22 (fun _ => rfl) rfl rfl rfl rfl hu6) ?_
            refine sv rfl (opv_fieldAddr_cp fi36_3 rfl) ?_
            refine sv rfl (opv_load1 ti32 rfl (.cp _) rfl) ?_
            refine sv rfl (opv_len_sl si32 rfl) ?_
            refine sv rfl (opv_lss rfl rfl) ?_
            refine snil ?_
            refine ccond rfl (fun hc => ?_) (fun hc => ?_)
            · replace h := ite_t hc h
              clear hc
              refine cskip ?_
              refine then_normal ?_
              refine cseq ?_
              refine cblock ?_
              refine cseq ?_
              refine cregion ?_
              refine sv rfl (opv_mv rfl) ?_
              refine sv rfl (opv_mv rfl) ?_
              obtain ⟨u7, hu7, h⟩ := bind_eq h
              refine sv rfl (opv_ix (f := eGR24Tx) si22 (fun _ => rfl) rfl rfl rfl rfl hu7) ?_
              refine sv rfl (opv_fieldAddr_cp fi36_3 rfl) ?_
              refine sv rfl (opv_load1 ti32 rfl (.cp _) rfl) ?_
              refine sv rfl (opv_mv rfl) ?_
              obtain ⟨u8, hu8, h⟩ := bind_eq h
              refine sv rfl (opv_ix (f := eGApiRange) si32 (fun _ => rfl) rfl rfl rfl rfl hu8) ?_
              refine sv rfl (opv_loadNe (ys := [.sl u8.Lo.length (u8.Lo.flatMap eU8), .sl u8.Hi.length (u8.Hi.flatMap eU8), .b u8.Open]) ti46 rfl (.cp _) rfl rfl) ?_
              obtain ⟨v9, hv9, h⟩ := bind_eq h
              refine scall1 rfl fn14 (opnds_cons rfl opnds_nil) (pubA_id rfl) (m14_r06_Short_c hv9) ?_
              refine sv rfl (opv_not rfl) ?_
              refine snil ?_
              refine ccond rfl (fun hc => ?_) (fun hc => ?_)
              · replace h := ite_t hc h
                clear hc
                refine cseq ?_
                refine cregion ?_
                refine sv rfl (opv_as rfl) ?_
                refine snil ?_
                refine cret ?_
                refine block_ret ?_
                refine then_ret ?_
                refine then_ret ?_
                refine block_ret ?_
                refine block_ret ?_
                refine then_ret ?_
                refine then_ret ?_
                refine block_ret ?_
                refine then_ret ?_
                obtain rfl := Option.some.inj h
                obtain rfl : Sum.inl _ = x5 := hk5
                replace ho5 : some _ = some _ := ho5
                obtain rfl := Option.some.inj ho5
                obtain rfl : Sum.inl _ = x2 := hk2
                replace ho2 : some _ = some _ := ho2
                obtain rfl := Option.some.inj ho2
                refine ⟨Or.inr rfl, _, _, _, (resVs_cons (ResV.tmp _ _ rfl) resVs_nil), (pubA_id rfl), ?_⟩
                rfl
              · replace h := ite_f hc h
                clear hc
                refine cskip ?_
                refine block_normal ?_
                refine then_normal ?_
                refine cregion ?_
                refine sv rfl (opv_mv rfl) ?_
                refine sv rfl (opv_add rfl rfl) ?_
                refine sv rfl (opv_as rfl) ?_
                refine snil ?_
                obtain rfl := Option.some.inj h
                exact ⟨(n5, (wI (s5 + 1))), _, hk5, ⟨rfl, rfl, rfl, trivial⟩, rfl, Nat.lt_succ_self _⟩
            · replace h := ite_f hc h
              clear hc
              refine cexit ?_
              refine then_exit ?_
              refine then_exit ?_
              refine block_hit ?_
              refine block_normal ?_
              refine then_normal ?_
              obtain rfl := Option.some.inj h
              obtain rfl : _ = x5 := hk5
              exact ⟨(), _, ho5, ⟨rfl, rfl, trivial⟩, rfl⟩
        · skip
          refine cregion ?_
          refine sv rfl (opv_mv rfl) ?_
          refine sv rfl (opv_mv rfl) ?_
          obtain ⟨u11, hu11, h⟩ := bind_eq h
          refine sv rfl (opv_ix (f := eGR24Tx) si22 (fun _ => rfl) rfl rfl rfl rfl hu11) ?_
          refine sv rfl (opv_fieldAddr_cp fi36_3 rfl) ?_
          refine sv rfl (opv_load1 ti32 rfl (.cp _) rfl) ?_
          refine sv rfl (opv_len_sl si32 rfl) ?_
          refine sv rfl (opv_gtr rfl rfl) ?_
          refine sv rfl (opv_mv rfl) ?_
          refine ssplit 21 rfl (fun hc => ?_) (fun hc => ?_)
          · replace h := ite_t hc h
            clear hc
            refine soff rfl rfl rfl rfl ?_
            refine soff rfl rfl rfl rfl ?_
            refine soff rfl rfl rfl rfl ?_
            refine soff rfl rfl rfl rfl ?_
            refine soff rfl rfl rfl rfl ?_
            refine soff rfl rfl rfl rfl ?_
            refine soff rfl rfl rfl rfl ?_
            refine sv rfl (opv_pick_t rfl rfl) ?_
            refine sv rfl (opv_mv rfl) ?_
            refine soff rfl rfl rfl rfl ?_
            refine soff rfl rfl rfl rfl ?_
            refine soff rfl rfl rfl rfl ?_
            refine soff rfl rfl rfl rfl ?_
            refine soff rfl rfl rfl rfl ?_
            refine soff rfl rfl rfl rfl ?_
            refine soff rfl rfl rfl rfl ?_
            refine sv rfl (opv_pick_t rfl rfl) ?_
            refine snil ?_
            refine ccond rfl (fun _ => ?_) (fun hx => Bool.noConfusion hx)
            refine cseq ?_
            refine cregion ?_
            refine sv rfl (opv_as rfl) ?_
            refine snil ?_
            refine cret ?_
            refine then_ret ?_
            refine block_ret ?_
            refine then_ret ?_
            refine then_ret ?_
            refine block_ret ?_
            refine then_ret ?_
            obtain rfl := Option.some.inj h
            obtain rfl : Sum.inl _ = x2 := hk2
            replace ho2 : some _ = some _ := ho2
            obtain rfl := Option.some.inj ho2
            refine ⟨Or.inr rfl, _, _, _, (resVs_cons (ResV.tmp _ _ rfl) resVs_nil), (pubA_id rfl), ?_⟩
            rfl
          · replace h := ite_f hc h
            clear hc
            refine son rfl rfl rfl ?_
            refine sv rfl (opv_mv rfl) ?_
            refine son rfl rfl rfl ?_
            refine sv rfl (opv_mv rfl) ?_
            refine son rfl rfl rfl ?_
            obtain ⟨u12, hu12, h⟩ := bind_eq h
            refine sv rfl (opv_ix (f := eGR24Tx) si22 (fun _ => rfl) rfl rfl rfl rfl hu12) ?_
            refine son rfl rfl rfl ?_
            refine sv rfl (opv_fieldAddr_cp fi36_4 rfl) ?_
            refine son rfl rfl rfl ?_
            refine sv rfl (opv_load1 ti33 rfl (.cp _) rfl) ?_
            refine son rfl rfl rfl ?_
            obtain ⟨v13, hv13, h⟩ := bind_eq h
            refine scall1 rfl fn13 (opnds_cons rfl opnds_nil) (pubA_id rfl) (m13_r08_FewWrites_c hv13) ?_
            refine son rfl rfl rfl ?_
            refine sv rfl (opv_not rfl) ?_
            refine sv rfl (opv_pick_f rfl rfl) ?_
            refine sv rfl (opv_mv rfl) ?_
            refine ssplit 30 rfl (fun hc => ?_) (fun hc => ?_)
            · replace h := ite_t hc h
              clear hc
              refine soff rfl rfl rfl rfl ?_
              refine soff rfl rfl rfl rfl ?_
              refine soff rfl rfl rfl rfl ?_
              refine soff rfl rfl rfl rfl ?_
              refine soff rfl rfl rfl rfl ?_
              refine soff rfl rfl rfl rfl ?_
              refine soff rfl rfl rfl rfl ?_
              refine sv rfl (opv_pick_t rfl rfl) ?_
              refine snil ?_
              refine ccond rfl (fun _ => ?_) (fun hx => Bool.noConfusion hx)
              refine cseq ?_
              refine cregion ?_
              refine sv rfl (opv_as rfl) ?_
              refine snil ?_
              refine cret ?_
              refine then_ret ?_
              refine block_ret ?_
              refine then_ret ?_
              refine then_ret ?_
              refine block_ret ?_
              refine then_ret ?_
              obtain rfl := Option.some.inj h
              obtain rfl : Sum.inl _ = x2 := hk2
              replace ho2 : some _ = some _ := ho2
              obtain rfl := Option.some.inj ho2
              refine ⟨Or.inr rfl, _, _, _, (resVs_cons (ResV.tmp _ _ rfl) resVs_nil), (pubA_id rfl), ?_⟩
              rfl
            · replace h := ite_f hc h
              clear hc
              refine son rfl rfl rfl ?_
              refine sv rfl (opv_mv rfl) ?_
              refine son rfl rfl rfl ?_
              refine sv rfl (opv_mv rfl) ?_
              refine son rfl rfl rfl ?_
              obtain ⟨u14, hu14, h⟩ := bind_eq h
              refine sv rfl (opv_ix (f := eGR24Tx) si22 (fun _ => rfl) rfl rfl rfl rfl hu14) ?_
              refine son rfl rfl rfl ?_
              refine sv rfl (opv_fieldAddr_cp fi36_4 rfl) ?_
              refine son rfl rfl rfl ?_
              refine sv rfl (opv_load1 ti33 rfl (.cp _) rfl) ?_
              refine son rfl rfl rfl ?_
              refine sv rfl (opv_len_sl si33 rfl) ?_
              refine son rfl rfl rfl ?_
              refine sv rfl (opv_gtr rfl rfl) ?_
              refine sv rfl (opv_pick_f rfl rfl) ?_
              refine snil ?_
              refine ccond rfl (fun hc => ?_) (fun hc => ?_)
              · replace h := ite_t hc h
                clear hc
                refine cseq ?_
                refine cregion ?_
                refine sv rfl (opv_as rfl) ?_
                refine snil ?_
                refine cret ?_
                refine then_ret ?_
                refine block_ret ?_
                refine then_ret ?_
                refine then_ret ?_
                refine block_ret ?_
                refine then_ret ?_
                obtain rfl := Option.some.inj h
                obtain rfl : Sum.inl _ = x2 := hk2
                replace ho2 : some _ = some _ := ho2
                obtain rfl := Option.some.inj ho2
                refine ⟨Or.inr rfl, _, _, _, (resVs_cons (ResV.tmp _ _ rfl) resVs_nil), (pubA_id rfl), ?_⟩
                rfl
              · replace h := ite_f hc h
                clear hc
                refine cskip ?_
                refine then_normal ?_
                exact ⟨(), _, h, ⟨rfl, rfl, trivial⟩, rfl⟩
      · replace h := ite_f hc h
        clear hc
        refine cexit ?_
        refine then_exit ?_
        refine then_exit ?_
        refine block_hit ?_
        refine then_normal ?_
        obtain rfl := Option.some.inj h
        obtain rfl : _ = x2 := hk2
        exact ⟨(), _, ho2, trivial, rfl⟩

def m9_l24_ours_k1 (b1 : (List GSerialTx)) : Option (List GSerialTx) :=
  some b1

def m9_l24_ours_s2 (a0 : List GR24Tx) (s2 : Int × (List GSerialTx)) : Option (LB (Int × (List GSerialTx)) ((List GSerialTx))) :=
  if (decide (s2.1 < (a0.length : Int))) then ((idx a0 s2.1).bind fun u3 => if (s2.2.length + [(GSerialTx.mk u3.Token u3.Snap u3.Ts u3.Reads u3.Writes)].length) * 72 ≤ 140737488355328 then (some (.cont ((wI (s2.1 + 1)), (s2.2 ++ [(GSerialTx.mk u3.Token u3.Snap u3.Ts u3.Reads u3.Writes)])))) else none) else (some (.brk s2.2))
def m9_l24_ours (a0 : List GR24Tx) : Option (List GSerialTx) :=
  (iterB (m9_l24_ours_s2 a0) fuel (0, ([] : List GSerialTx))).bind fun e5 => m9_l24_ours_k1 e5

set_option maxRecDepth 100000 in
theorem m9_l24_ours_c {a0 : List GR24Tx} {r : (List GSerialTx)} (h : m9_l24_ours a0 = some r) : CallsA Try.prog 9 [.one (.sl a0.length (a0.flatMap eGR24Tx))] (· = .s (.one (.sl r.length (r.flatMap eGSerialTx)))) := by
  unfold m9_l24_ours at h
  refine callsA_of Try.func9 rfl (nt := 31) rfl (Nat.le_of_ble_eq_true rfl) ?_
  intro w0 S0
  refine cseq ?_
  refine cregion ?_
  refine sv rfl (opv_as rfl) ?_
  refine snil ?_
  refine cseq ?_
  refine cregion ?_
  refine sv rfl (opv_as rfl) ?_
  refine snil ?_
  refine cseq ?_
  refine cseq ?_
  refine cregion ?_
  refine sv rfl (opv_as rfl) ?_
  refine snil ?_
  refine sadopt_c 35 5 3 (by decide) rfl ?_
  refine cjoin ((List GSerialTx)) (fun b1 => [(3, .s (.one (.ls 0 b1.length)))]) (fun b1 => [.arr 35 5 0 (b1.flatMap eGSerialTx)]) (fun b1 => m9_l24_ours_k1 b1 = some r) (fun _ _ => inbL_of rfl) (fun _ _ => blkinb_of rfl) (fun _ _ => Nat.le_of_ble_eq_true rfl) (fun b1 h => ?_) ?_
  · unfold m9_l24_ours_k1 at h
    refine cseq ?_
    refine cregion ?_
    refine sv rfl (opv_mv rfl) ?_
    refine sv rfl (opv_as rfl) ?_
    refine snil ?_
    refine cret ?_
    obtain rfl := Option.some.inj h
    refine ⟨Or.inr rfl, _, _, _, (resVs_cons (ResV.tmp _ _ rfl) resVs_nil), (by (repeat' first | exact PubA.nil _ | apply PubA.cons | apply PubV.one | apply PubV.agg | exact PubL.nil | exact PubL.ls _ _ _ _ _ _ rfl (flat_len (f := eGSerialTx) (fun _ => rfl) _).symm | exact PubL.id _ rfl | exact PubLs.nil _ | apply PubLs.cons)), ?_⟩
    rfl
  · skip
    refine cblock ?_
    obtain ⟨x2, hx2, ho2⟩ := bind_eq h
    refine awc_loop (G := Nat × (Int × (List GSerialTx))) (fun g => [(0, .s (.one (.sl a0.length (a0.flatMap eGR24Tx)))), (3, .s (.one (.ls 0 g.2.2.length))), (4, .s (.one (.i .i64 g.2.1)))]) (fun g => [.arr 35 5 0 (g.2.2.flatMap eGSerialTx)]) (fun g => iterB (m9_l24_ours_s2 a0) g.1 g.2 = some x2) (fun g => g.1) (fuel, (0, ([] : List GSerialTx))) hx2 ⟨rfl, rfl, rfl, trivial⟩ [] rfl (fun _ _ => inbL_of rfl) (fun _ _ => blkinb_of rfl) (fun _ _ => Nat.le_of_ble_eq_true rfl) ?_
    clear hx2 h
    rintro ⟨n2, s2⟩ h
    obtain ⟨n2, y2, rfl, h, hk2⟩ := iterB_eq h
    unfold m9_l24_ours_s2 at h
    refine cseq ?_
    refine cseq ?_
    refine cregion ?_
    refine sv rfl (opv_mv rfl) ?_
    refine sv rfl (opv_mv rfl) ?_
    refine sv rfl (opv_len_sl si22 rfl) ?_
    refine sv rfl (opv_lss rfl rfl) ?_
    refine snil ?_
    refine ccond rfl (fun hc => ?_) (fun hc => ?_)
    · replace h := ite_t hc h
      clear hc
      refine cskip ?_
      refine then_normal ?_
      refine cseq ?_
      refine cblock ?_
      refine cseq ?_
      refine cregion ?_
      refine sv rfl (opv_mv rfl) ?_
      refine sv rfl (opv_mv rfl) ?_
      obtain ⟨u3, hu3, h⟩ := bind_eq h
      refine sv rfl (opv_ix (f := eGR24Tx) si22 (fun _ => rfl) rfl rfl rfl rfl hu3) ?_
      refine sv rfl (opv_loadNe (ys := [.i .i64 u3.Token, .i .i64 u3.Snap, .i .i64 u3.Ts, .sl u3.Reads.length (u3.Reads.flatMap eGApiRange), .sl u3.Writes.length (u3.Writes.flatMap eGApiWrite)]) ti36 rfl (.cp _) rfl rfl) ?_
      refine salloc rfl zi36 ?_
      refine sstore sz36 rfl rfl rfl rfl (Nat.le_of_ble_eq_true rfl) ?_
      refine smem [.arr 35 5 0 (s2.2.flatMap eGSerialTx), .box [.i .i64 u3.Token, .i .i64 u3.Snap, .i .i64 u3.Ts, .sl u3.Reads.length (u3.Reads.flatMap eGApiRange), .sl u3.Writes.length (u3.Writes.flatMap eGApiWrite)]] rfl ?_
      refine snil ?_
      refine cregion ?_
      refine sv rfl (opv_mv rfl) ?_
      refine sv rfl (opv_fieldAddr_lp fi36_0 rfl) ?_
      refine sv rfl (opv_load1 ti3 rfl (.lp _ _ _ rfl) rfl) ?_
      refine sv rfl (opv_fieldAddr_lp fi36_1 rfl) ?_
      refine sv rfl (opv_load1 ti3 rfl (.lp _ _ _ rfl) rfl) ?_
      refine sv rfl (opv_fieldAddr_lp fi36_2 rfl) ?_
      refine sv rfl (opv_load1 ti3 rfl (.lp _ _ _ rfl) rfl) ?_
      refine sv rfl (opv_fieldAddr_lp fi36_3 rfl) ?_
      refine sv rfl (opv_load1 ti32 rfl (.lp _ _ _ rfl) rfl) ?_
      refine sv rfl (opv_fieldAddr_lp fi36_4 rfl) ?_
      refine sv rfl (opv_load1 ti33 rfl (.lp _ _ _ rfl) rfl) ?_
      refine sv rfl (opv_build zi35 pi35 (parts_cons rfl (parts_cons rfl (parts_cons rfl (parts_cons rfl (parts_cons rfl parts_nil))))) (bcons [.i .i64 u3.Token, .i .i64 0, .i .i64 0, .raw (.slice none 0 0), .raw (.slice none 0 0)] rfl rfl (Nat.le_of_ble_eq_true rfl) rfl (bcons [.i .i64 u3.Token, .i .i64 u3.Snap, .i .i64 0, .raw (.slice none 0 0), .raw (.slice none 0 0)] rfl rfl (Nat.le_of_ble_eq_true rfl) rfl (bcons [.i .i64 u3.Token, .i .i64 u3.Snap, .i .i64 u3.Ts, .raw (.slice none 0 0), .raw (.slice none 0 0)] rfl rfl (Nat.le_of_ble_eq_true rfl) rfl (bcons [.i .i64 u3.Token, .i .i64 u3.Snap, .i .i64 u3.Ts, .sl u3.Reads.length (u3.Reads.flatMap eGApiRange), .raw (.slice none 0 0)] rfl rfl (Nat.le_of_ble_eq_true rfl) rfl (bcons [.i .i64 u3.Token, .i .i64 u3.Snap, .i .i64 u3.Ts, .sl u3.Reads.length (u3.Reads.flatMap eGApiRange), .sl u3.Writes.length (u3.Writes.flatMap eGApiWrite)] rfl rfl (Nat.le_of_ble_eq_true rfl) rfl (.nil _))))))) ?_
      refine sbuild1 rfl Try.underlying26 ei35 rfl rfl (List.all_eq_true.1 rfl) (by decide) ?_
      refine smem [.arr 35 5 0 (s2.2.flatMap eGSerialTx), .box [.i .i64 u3.Token, .i .i64 u3.Snap, .i .i64 u3.Ts, .sl u3.Reads.length (u3.Reads.flatMap eGApiRange), .sl u3.Writes.length (u3.Writes.flatMap eGApiWrite)], .arr 35 5 0 ([(GSerialTx.mk u3.Token u3.Snap u3.Ts u3.Reads u3.Writes)].flatMap eGSerialTx)] rfl ?_
      obtain ⟨hb4, h⟩ := chk_eq h
      refine sapp (f := eGSerialTx) (xs := s2.2) (us := [(GSerialTx.mk u3.Token u3.Snap u3.Ts u3.Reads u3.Writes)]) rfl Try.underlying26 ei35 ni26 (fun _ => rfl) rfl rfl (.one _ _ _ _ (.ls _ _ _ _ _ _ rfl (flat_len (f := eGSerialTx) (fun _ => rfl) [(GSerialTx.mk u3.Token u3.Snap u3.Ts u3.Reads u3.Writes)]).symm)) rfl rfl rfl (.sl _ _ _ (flat_len (f := eGSerialTx) (fun _ => rfl) _)) rfl rfl hb4 (by decide) ?_
      refine sv rfl (opv_as rfl) ?_
      refine snil0 ?_
      refine block_normal ?_
      refine then_normal ?_
      refine cregion ?_
      refine sv rfl (opv_mv rfl) ?_
      refine sv rfl (opv_add rfl rfl) ?_
      refine sv rfl (opv_as rfl) ?_
      refine snil ?_
      obtain rfl := Option.some.inj h
      exact ⟨(n2, ((wI (s2.1 + 1)), (s2.2 ++ [(GSerialTx.mk u3.Token u3.Snap u3.Ts u3.Reads u3.Writes)]))), _, hk2, ⟨rfl, rfl, rfl, trivial⟩, rfl, Nat.lt_succ_self _⟩
    · replace h := ite_f hc h
      clear hc
      refine cexit ?_
      refine then_exit ?_
      refine then_exit ?_
      refine block_hit ?_
      refine then_normal ?_
      obtain rfl := Option.some.inj h
      obtain rfl : _ = x2 := hk2
      exact ⟨s2.2, _, ho2, ⟨rfl, trivial⟩, rfl⟩

def m3_l24_SerialOrder_k7 (v1 : Bool) (v3 : (List GSerialTx)) (v4 : (List Int) × Bool) (b7 : Unit) : Option Bool :=
  if v1 then (some (v4.2 == (decide ((v4.1.length : Int) = (v3.length : Int))))) else (some false)

def m3_l24_SerialOrder_k9 (b6 : (List Int)) (s8 : Int) (b9 : Bool) : Option (LR (Int) (Unit) (Bool)) :=
  (idx b6 s8).bind fun u10 => if (decide (u10 = 0)) then (if (!b9) then (some (.ret false)) else (some (.cont (wI (s8 + 1))))) else (some (.cont (wI (s8 + 1))))

def m3_l24_SerialOrder_k15 (b6 : (List Int)) (s11 : Bool × Int) (v14 : Bool) (b15 : Unit) : Option (LR (Bool × Int) (Bool) (Bool)) :=
  if s11.1 then (some (.cont (true, (wI (s11.2 + 1))))) else (if v14 then ((idx b6 s11.2).bind fun u16 => some (.cont ((decide (u16 = 0)), (wI (s11.2 + 1))))) else (some (.cont (false, (wI (s11.2 + 1))))))

def m3_l24_SerialOrder_s11 (v3 : (List GSerialTx)) (b6 : (List Int)) (s8 : Int) (s11 : Bool × Int) : Option (LR (Bool × Int) (Bool) (Bool)) :=
  if (decide (s11.2 < (v3.length : Int))) then ((idx v3 s11.2).bind fun u12 => (idx v3 s8).bind fun u13 => (m11_serial_Ahead u12 u13).bind fun v14 => (idx b6 s8).bind fun u17 => if (decide (0 < u17)) then (if v14 then ((idx b6 s11.2).bind fun u18 => if (decide (u18 = 0)) then (some (.ret false)) else ((idx b6 s11.2).bind fun u19 => (idx b6 s8).bind fun u20 => if (decide (u20 < u19)) then (some (.ret false)) else (m3_l24_SerialOrder_k15 b6 s11 v14 ()))) else (m3_l24_SerialOrder_k15 b6 s11 v14 ())) else (m3_l24_SerialOrder_k15 b6 s11 v14 ())) else (some (.brk s11.1))

def m3_l24_SerialOrder_s8 (v3 : (List GSerialTx)) (b6 : (List Int)) (s8 : Int) : Option (LR (Int) (Unit) (Bool)) :=
  if (decide (s8 < (v3.length : Int))) then ((iter (m3_l24_SerialOrder_s11 v3 b6 s8) fuel (false, 0)).bind fun x => match x with | .inl r => some (.ret r) | .inr e21 => m3_l24_SerialOrder_k9 b6 s8 e21) else (some (.brk ()))

def m3_l24_SerialOrder_k6 (v1 : Bool) (v3 : (List GSerialTx)) (v4 : (List Int) × Bool) (b6 : (List Int)) : Option Bool :=
  (iter (m3_l24_SerialOrder_s8 v3 b6) fuel 0).bind fun x => match x with | .inl r => some r | .inr e22 => m3_l24_SerialOrder_k7 v1 v3 v4 e22

def m3_l24_SerialOrder_k24 (v4 : (List Int) × Bool) (s23 : Int × (List Int)) (b24 : Unit) : Option (LR (Int × (List Int)) ((List Int)) (Bool)) :=
  (idx v4.1 s23.1).bind fun u25 => (idx s23.2 u25).bind fun u26 => some (.cont ((wI (s23.1 + 1)), (s23.2.set u25.toNat (wI (s23.1 + 1)))))

def m3_l24_SerialOrder_s23 (v3 : (List GSerialTx)) (v4 : (List Int) × Bool) (s23 : Int × (List Int)) : Option (LR (Int × (List Int)) ((List Int)) (Bool)) :=
  if (decide (s23.1 < (v4.1.length : Int))) then ((idx v4.1 s23.1).bind fun u27 => if (decide (u27 < 0)) then (some (.ret false)) else ((idx v4.1 s23.1).bind fun u28 => if (decide ((v3.length : Int) ≤ u28)) then (some (.ret false)) else ((idx v4.1 s23.1).bind fun u29 => (idx s23.2 u29).bind fun u30 => if (!decide (u30 = 0)) then (some (.ret false)) else (m3_l24_SerialOrder_k24 v4 s23 ())))) else (some (.brk s23.2))

def m3_l24_SerialOrder_k2 (a0 : List GR24Tx) (v1 : Bool) (b2 : Unit) : Option Bool :=
  (m9_l24_ours a0).bind fun v3 => (m10_serial_Order v3).bind fun v4 => if (0 : Int) ≤ (v3.length : Int) ∧ (v3.length : Int) ≤ (v3.length : Int) ∧ ((8 : Nat) : Int) * (v3.length : Int) ≤ 281474976710656 then ((iter (m3_l24_SerialOrder_s23 v3 v4) fuel (0, (List.replicate (v3.length : Int).toNat (0 : Int)))).bind fun x => match x with | .inl r => some r | .inr e31 => m3_l24_SerialOrder_k6 v1 v3 v4 e31) else none
end Go.Proofs.Ytoajiidocnoopaa.Abs
